/- Several texts of the proof, joined: what each has is said at its head. -/
import Derived.Test.YtppodbijdhcclaaQFileJB
import Derived.Test.YtppodbijdhcclaaQInoJB
import Derived.Test.YtppodbijdhcclaaQNandAnd
import Derived.Deep.DeepCutAuto
/- The document's nodes with a file of some bytes: Set of layer 20's reference. No condition but that the numbers are small. -/
namespace Go.Proofs.Ytppodbijdhcclaa
open Go Go.RowKit
/-- the bodies, and which nodes there are, of nodes that are told -/
def bsN (G : Nat → Option (List UInt8)) : List ByteArray := (List.range 256).map (fun k => ⟨((G k).getD []).toArray⟩)
def thN (G : Nat → Option (List UInt8)) : List Bool := (List.range 256).map (fun k => (G k).isSome)
theorem bsN_len (G : Nat → Option (List UInt8)) : (bsN G).length = 256 := by simp [bsN]
theorem thN_len (G : Nat → Option (List UInt8)) : (thN G).length = 256 := by simp [thN]
theorem bsN_get (G : Nat → Option (List UInt8)) {k : Nat} (hk : k < 256) : (bsN G).getD k ByteArray.empty = ⟨((G k).getD []).toArray⟩ := by
  rw [List.getD_eq_getElem?_getD]
  unfold bsN
  rw [List.getElem?_map, List.getElem?_range hk]
  rfl
theorem thN_get (G : Nat → Option (List UInt8)) {k : Nat} (hk : k < 256) : (thN G).getD k false = (G k).isSome := by
  rw [List.getD_eq_getElem?_getD]
  unfold thN
  rw [List.getElem?_map, List.getElem?_range hk]
  rfl
theorem getD_set {α : Type} {l : List α} {i k : Nat} {x d : α} (hi : i < l.length) : (l.set i x).getD k d = if k = i then x else l.getD k d := by
  rw [List.getD_eq_getElem?_getD, List.getD_eq_getElem?_getD, List.getElem?_set]
  by_cases h : i = k
  · subst h
    rw [if_pos rfl, if_pos hi, if_pos rfl]
    rfl
  · rw [if_neg h, if_neg (fun e => h e.symm)]
theorem bsN_set {G G' : Nat → Option (List UInt8)} {i : Nat} {b : ByteArray} (hi : i < 256) (h : ∀ k, k < 256 → ((G' k).getD [] : List UInt8) = if k = i then b.data.toList else (G k).getD []) : (bsN G).set i b = bsN G' :=
  list_eq_getD ByteArray.empty (by rw [List.length_set]; exact bsN_len _) (bsN_len _) (fun k hk => by
    rw [getD_set (by rw [bsN_len]; exact hi), bsN_get _ hk, bsN_get _ hk, h k hk]
    by_cases e : k = i
    · rw [if_pos e, if_pos e]
    · rw [if_neg e, if_neg e])
theorem thN_set {G G' : Nat → Option (List UInt8)} {i : Nat} {b : Bool} (hi : i < 256) (h : ∀ k, k < 256 → (G' k).isSome = if k = i then b else (G k).isSome) : (thN G).set i b = thN G' :=
  list_eq_getD false (by rw [List.length_set]; exact thN_len _) (thN_len _) (fun k hk => by
    rw [getD_set (by rw [thN_len]; exact hi), thN_get _ hk, thN_get _ hk, h k hk])
theorem bsN_congr {G G' : Nat → Option (List UInt8)} (h : ∀ k, k < 256 → (G k).getD [] = (G' k).getD []) : bsN G = bsN G' :=
  list_eq_getD ByteArray.empty (bsN_len _) (bsN_len _) (fun k hk => by rw [bsN_get _ hk, bsN_get _ hk, h k hk])
theorem thN_congr {G G' : Nat → Option (List UInt8)} (h : ∀ k, k < 256 → (G k).isSome = (G' k).isSome) : thN G = thN G' :=
  list_eq_getD false (thN_len _) (thN_len _) (fun k hk => by rw [thN_get _ hk, thN_get _ hk, h k hk])
/-- the nodes of inodes -/
def FS.nat (F : FS) (k : Nat) : Option (List UInt8) := F.node (k : Int)
/-- the nodes while a file's are set: its head, and its first k chunks -/
def setTo (F : FS) (n : Nat) (l : List UInt8) (k : Nat) (z : Nat) : Option (List UInt8) :=
  if z = 8 * n then some (FI.head (.file l)) else if 8 * n < z ∧ z ≤ 8 * n + k then FI.node (.file l) (z - 8 * n) else F.nat z
theorem setTo_last (F : FS) (n : Nat) (l : List UInt8) : ∀ z, setTo F n l 7 z = FS.nat (F.put (n : Int) (some (.file l))) z := fun z => by
  unfold setTo FS.nat
  by_cases h : z / 8 = n
  · obtain ⟨j, hj, rfl⟩ : ∃ j, j < 8 ∧ z = 8 * n + j := ⟨z % 8, by omega, by omega⟩
    have h1 := FS.node_near F (n : Int) (.file l) j hj
    rw [show ((8 * n + j : Nat) : Int) = 8 * (n : Int) + (j : Int) by omega, h1]
    by_cases h0 : j = 0
    · subst h0
      rw [if_pos (by omega)]
      rfl
    · rw [if_neg (by omega), if_pos (by omega), show 8 * n + j - 8 * n = j by omega]
  · rw [if_neg (by omega), if_neg (by omega), FS.node_far _ _ _ (by omega)]
theorem setTo_node7 (l : List UInt8) : FI.node (.file l) 7 = none := by
  rw [node_file_chunk _ (by omega), if_neg (by omega)]
/-- the seventh stays: no file has it -/
theorem setTo_six (F : FS) (n : Nat) (l : List UInt8) (h7 : F.nat (8 * n + 7) = none) : ∀ z, setTo F n l 6 z = setTo F n l 7 z := fun z => by
  unfold setTo
  by_cases h0 : z = 8 * n
  · rw [if_pos h0, if_pos h0]
  · rw [if_neg h0, if_neg h0]
    by_cases h1 : z = 8 * n + 7
    · subst h1
      rw [if_neg (by omega), if_pos (by omega), h7, show 8 * n + 7 - 8 * n = 7 by omega, setTo_node7]
    · by_cases h2 : 8 * n < z ∧ z ≤ 8 * n + 6
      · rw [if_pos h2, if_pos (by omega)]
      · rw [if_neg h2, if_neg (by omega)]
theorem FS.nat7 (F : FS) (n : Nat) : F.nat (8 * n + 7) = none := by
  unfold FS.nat
  have h1 := FS.node_key F (n : Int) 7 (by omega)
  rw [show ((8 * n + 7 : Nat) : Int) = 8 * (n : Int) + ((7 : Nat) : Int) by omega, h1]
  cases F (n : Int) with
  | none => rfl
  | some x =>
    dsimp only
    cases x with
    | dir => rfl
    | file l => exact setTo_node7 l
theorem setTo_isSome (F : FS) (n : Nat) (l : List UInt8) (k z ik : Nat) (h : ik = 8 * n + 1 + k) (b : Bool) (hb : (FI.node (.file l) (k + 1)).isSome = b) : (setTo F n l (k + 1) z).isSome = if z = ik then b else (setTo F n l k z).isSome := by
  unfold setTo
  by_cases e : z = ik
  · rw [if_pos e, if_neg (by omega), if_pos (by omega), show z - 8 * n = k + 1 by omega, hb]
  · rw [if_neg e]
    by_cases h0 : z = 8 * n
    · rw [if_pos h0, if_pos h0]
    · rw [if_neg h0, if_neg h0]
      by_cases h1 : 8 * n < z ∧ z ≤ 8 * n + k
      · rw [if_pos h1, if_pos (by omega)]
      · rw [if_neg h1, if_neg (by omega)]
theorem setTo_body (F : FS) (n : Nat) (l : List UInt8) (k z ik : Nat) (h : ik = 8 * n + 1 + k) (b : List UInt8) (hb : (FI.node (.file l) (k + 1)).getD [] = b) : (setTo F n l (k + 1) z).getD [] = if z = ik then b else (setTo F n l k z).getD [] := by
  unfold setTo
  by_cases e : z = ik
  · rw [if_pos e, if_neg (by omega), if_pos (by omega), show z - 8 * n = k + 1 by omega, hb]
  · rw [if_neg e]
    by_cases h0 : z = 8 * n
    · rw [if_pos h0, if_pos h0]
    · rw [if_neg h0, if_neg h0]
      by_cases h1 : 8 * n < z ∧ z ≤ 8 * n + k
      · rw [if_pos h1, if_pos (by omega)]
      · rw [if_neg h1, if_neg (by omega)]
theorem slice_str (s : ByteArray) (a b : Nat) (h1 : a ≤ b) (h2 : b ≤ s.size) (w : World) : (Instr.slice 9 (.string s) (some (.int .i64 (a : Int))) (some (.int .i64 (b : Int))) none).run Try.prog w = .ok (.string (s.extract a b)) w := by
  simp [Instr.slice, run_underlying Try.underlying9, Instr.sliceBounds, run_sliceBound, h1, h2]
theorem extract_list (s : ByteArray) (a b : Nat) : (s.extract a b).data.toList = (s.data.toList.drop a).take (b - a) := by
  simp [ByteArray.data_extract, Array.toList_extract, List.extract]
theorem take_more {l : List UInt8} {a n : Nat} (h : l.length - a ≤ n) : (l.drop a).take (l.length - a) = (l.drop a).take n := by
  rw [List.take_of_length_le (by rw [List.length_drop]; exact Nat.le_refl _), List.take_of_length_le (by rw [List.length_drop]; exact h)]
/-- the document's nodes tell these inodes -/
def StF (w : World) (g o : Nat) (F : FS) : Prop := StAt w g o (bsN F.nat) (thN F.nat)
def RF (w : World) (g : Nat) (F : FS) : Prop := RSt w g 30 [] (bsN F.nat) (thN F.nat)
set_option maxRecDepth 100000 in
set_option maxHeartbeats 16000000 in
theorem refSet_any (g o : Nat) (F : FS) (n : Nat) (st : ByteArray) (l : List UInt8) (w : World) (h : StF w g o F) (hn : 1 ≤ n ∧ n ≤ 24) (hst : st.data.toList = l) (hl : l.length ≤ 768) :
    Calls Try.prog 45 #[.pointer (some ⟨g, o, none⟩), .int .i64 (n : Int), .string st] w fun e w' => e = .returned (.pointer (some ⟨w.heap.size, 0, none⟩)) ∧ RF w' w.heap.size (F.put (n : Int) (some (.file l))) ∧ Below w.heap.size w w' := by
  obtain ⟨t, bcs, hb0, hv0, hbl, htl⟩ := id h
  have HS1 := Lib.hid hb0
  have HV := Lib.hid hv0
  have HL := Lib.hid (stCells_length hbl htl)
  have z1 := zeroSt
  have l1 := stZ_len
  have X2 := Lib.hid (Blk.new w 30 stZ)
  have B2 := Lib.hid ((Below.refl w.heap.size w).alloc (Nat.le_refl _) (.cells stZ.toArray 30))
  have ST1 := Lib.hid (stCells_one (bs := bsN F.nat) (th := thN F.nat))
  have SG1 := Lib.hid (show segSet stZ 0 (stCells (bsN F.nat) (thN F.nat)) = stCells (bsN F.nat) (thN F.nat) from segSet_all (by rw [l1, HL.out]))
  have hib : IN.bytes ⟨1, (l.length : Int), []⟩ = FI.head (.file l) := by
    rw [head_bytes (fun l' e => by cases e; exact hl)]
    rfl
  have KW := Lib.hid (fun w => refWrite_file ⟨1, (l.length : Int), []⟩ (.slice none 0 0) w (Ents.nil 0 (Nat.zero_le _)) ⟨rfl, Int.natCast_nonneg _, by show (l.length : Int) ≤ 768; omega, rfl⟩)
  rw [hib] at KW
  have HST := Lib.hid hst
  obtain ⟨ln, hln⟩ : ∃ ln, ln = l.length := ⟨_, rfl⟩
  have hsz : st.size = ln := by rw [hln, ← hst]; exact (Lib.size_eq st)
  have HLN := Lib.hid hln
  rw [← hln] at KW
  obtain ⟨hd, hhd⟩ : ∃ hd, hd = FI.head (.file l) := ⟨_, rfl⟩
  have HHD := Lib.hid hhd
  obtain ⟨hl3, hh3⟩ : ∃ hl3, hl3 = hd.length := ⟨_, rfl⟩
  have HH3 := Lib.hid hh3
  have HML : Hid (hd.length ≤ maxLen) := Lib.hid (by rw [hhd]; have := FI.head_len (.file l); unfold maxLen; omega)
  rw [← hhd, ← hh3] at KW
  have HL8 := Lib.hid hl
  rw [← hln] at hl
  clear h hb0 hv0 hbl htl hib hst hln hhd hh3
  go_enter Try.func45, Try.ntmps45
  go_upto_region 2 with (first
    | (with_reducible refine wpl_seg_load aggSt sizeSt (.tmp 14) rfl rfl HS1.out o (stCells (bsN F.nat) (thN F.nat)) HV.out HL.out rfl ?_)
    | ((with_reducible refine wpl_seg_store sizeSt (.tmp 7) (.tmp 15) rfl rfl X2.out 0 (stCells (bsN F.nat) (thN F.nat)) HL.out (Nat.le_of_eq l1.symm) ST1.out rfl rfl _ SG1.out ?_); intro w3 X3 g3 e3; have HX3 := Lib.hid X3; have T3 := Lib.hid (B2.out.grown g3 B2.out.size (fun k e => by cases e; exact Nat.le_refl _)); clear X3 g3 e3))
  have O3 : Hid (RSt w3 w.heap.size 30 [] (bsN F.nat) (thN F.nat)) := Lib.hid ⟨by rw [List.append_nil]; exact HX3.out, bsN_len _, thN_len _⟩
  obtain ⟨G, hG⟩ : ∃ G, G = w.heap.size := ⟨_, rfl⟩
  have HG := Lib.hid hG
  rw [← hG] at O3 ⊢
  have LT3 := Lib.hid O3.out.lt
  obtain ⟨i0, hi0⟩ : ∃ i0, i0 = 8 * n := ⟨_, rfl⟩
  have HI0 := Lib.hid hi0
  have e0 : 8 * (n : Int) = (i0 : Int) := by omega
  have j1 : i0 < 256 := by omega
  have j2 : (i0 : Int) < 256 := by omega
  have j3 : ¬ 256 ≤ i0 := by omega
  have j4 : ¬ (256 : Int) ≤ (i0 : Int) := by omega
  have j5 : i0 ≤ 192 := by omega
  clear hi0 hG HX3 B2 X2 HS1 HV HL ST1 SG1 z1 l1
  go_upto_region 3 with ((with_reducible refine (KW.out _).mono ?_); rintro e w4 ⟨gh, ch, rfl, Oh, bh⟩; have OH := Lib.hid Oh; have O4 := Lib.hid (O3.out.after bh); have T4 := Lib.hid (T3.out.trans (bh.mono T3.out.size)); clear Oh bh)
  have BH := Lib.hid (OH.out)
  rw [HH3.out] at BH
  have BH2 := Lib.hid (BH.out.bytes HML.out)
  rw [← HH3.out] at BH2
  have c1 := O4.out.there j1
  have f1 := O4.out.free (256 + i0)
  go_upto_region 4 with fail
  have s5 := only_set w4 ⟨G, 256 + i0, none⟩ (.bool true)
  have O5 := Lib.hid (O4.out.setThere j1 true)
  have T5 := Lib.hid (T4.out.grown s5 T4.out.size (fun q e => by cases e; have := HG.out; show w.heap.size ≤ G; omega))
  have BH5 : Hid (Bytes (w4.setCell ⟨G, 256 + i0, none⟩ (.bool true)) (w4.setCell ⟨G, 256 + i0, none⟩ (.bool true)).heap.size (.slice (some ⟨gh, 0, none⟩) hl3 ch) hd) := Lib.hid (by
    have h1 : Own 5 (w4.setCell ⟨G, 256 + i0, none⟩ (.bool true)) w3.heap.size (.slice (some ⟨gh, 0, none⟩) hd.length ch) hd := BH.out.kept s5 (.inr fun e => by have h2 := (World.ownsRow.lt BH.out G e).1; have := LT3.out; omega)
    rw [HH3.out]
    exact h1.bytes HML.out)
  obtain ⟨W5, hW5⟩ : ∃ W5, W5 = w4.setCell ⟨G, 256 + i0, none⟩ (.bool true) := ⟨_, rfl⟩
  rw [← hW5] at O5 T5 BH5 ⊢
  clear hW5 s5 O4 T4 BH BH2 OH c1 f1
  have hrun := run_str (w := W5) (st := 9) byteTys Try.underlying5 Try.underlying9 BH5.out
  have c2 := O5.out.body j1
  have f2 := O5.out.free i0
  go_upto_region 5 with fail
  have s6 := only_set W5 ⟨G, i0, none⟩ (.string ⟨hd.toArray⟩)
  have O6' := O5.out.setBody j1 ⟨hd.toArray⟩
  rw [bsN_set (G' := setTo F n l 0) j1 (fun k hk => by
      unfold setTo
      by_cases h : k = i0
      · rw [if_pos (by rw [h, HI0.out]), if_pos h, ← HHD.out]; rfl
      · rw [if_neg (by rw [← HI0.out]; exact h), if_neg (by omega), if_neg h]),
    thN_set (G' := setTo F n l 0) j1 (fun k hk => by
      unfold setTo
      by_cases h : k = i0
      · rw [if_pos (by rw [h, HI0.out]), if_pos h]; rfl
      · rw [if_neg (by rw [← HI0.out]; exact h), if_neg (by omega), if_neg h])] at O6'
  have O6 := Lib.hid O6'
  have T6 := Lib.hid (T5.out.grown s6 T5.out.size (fun q e => by cases e; have := HG.out; show w.heap.size ≤ G; omega))
  obtain ⟨W6, hW6⟩ : ∃ W6, W6 = W5.setCell ⟨G, i0, none⟩ (.string ⟨hd.toArray⟩) := ⟨_, rfl⟩
  rw [← hW6] at O6 T6 ⊢
  clear hW6 s6 O5 T5 BH5 hrun c2 f2 O6'
  go_wp2_with fail
  go_loopw [10] (fun v wr => ∃ k : Nat, k ≤ 6 ∧ v = .int .i64 (k : Int) ∧ Hid (RSt wr G 30 [] (bsN (setTo F n l k)) (thN (setTo F n l k))) ∧ Hid (Below w.heap.size w wr)) (fun v _ => 6 - (intOf v).toNat)
  case atStart => exact ⟨0, Nat.zero_le _, rfl, O6, T6⟩
  case round =>
    clear O6 T6
    obtain ⟨k, hk, rfl, hO, hT⟩ := hrel
    by_cases hlt : k < 6
    · obtain ⟨ik, hik⟩ : ∃ ik, ik = i0 + 1 + k := ⟨_, rfl⟩
      have HIK := Lib.hid hik
      have e1 : (i0 : Int) + 1 + (k : Int) = (ik : Int) := by omega
      have p1 : ik < 256 := by omega
      have p2 : (ik : Int) < 256 := by omega
      have p3 : ¬ 256 ≤ ik := by omega
      obtain ⟨k8, hk8⟩ : ∃ k8, k8 = 128 * k := ⟨_, rfl⟩
      have HK8 := Lib.hid hk8
      have e2 : 128 * (k : Int) = (k8 : Int) := by omega
      have q0 : k8 ≤ 640 := by omega
      have c1 := hO.out.there p1
      have f1 := hO.out.free (256 + ik)
      clear hik hk8
      by_cases hyes : k8 < ln
      · go_upto_region 10 with fail
        go_upto_region 10 with fail
        have s7 := only_set wr ⟨G, 256 + ik, none⟩ (.bool true)
        have O7 := Lib.hid (hO.out.setThere p1 true)
        have T7 := Lib.hid (hT.out.grown s7 hT.out.size (fun q e => by cases e; have := HG.out; show w.heap.size ≤ G; omega))
        obtain ⟨W7, hW7⟩ : ∃ Wn, Wn = (wr).setCell ⟨G, 256 + ik, none⟩ (.bool true) := ⟨_, rfl⟩
        rw [← hW7] at O7 T7 ⊢
        clear hW7 s7
        clear hO hT c1 f1
        have c2 := O7.out.body p1
        have f2 := O7.out.free ik
        go_upto_region 11 with fail
        have s8 := only_set W7 ⟨G, ik, none⟩ (.string ⟨#[]⟩)
        have O8 := Lib.hid (O7.out.setBody p1 ⟨#[]⟩)
        have T8 := Lib.hid (T7.out.grown s8 T7.out.size (fun q e => by cases e; have := HG.out; show w.heap.size ≤ G; omega))
        obtain ⟨W8, hW8⟩ : ∃ Wn, Wn = (W7).setCell ⟨G, ik, none⟩ (.string ⟨#[]⟩) := ⟨_, rfl⟩
        rw [← hW8] at O8 T8 ⊢
        clear hW8 s8
        clear O7 T7 c2 f2
        have c3 : W8.cell? ⟨G, 256 + ik, none⟩ = some (.bool true) := by
          have := O8.out.there p1
          rwa [getD_set (by rw [thN_len]; exact p1), if_pos rfl] at this
        have c4 := O8.out.body p1
        have f4 := O8.out.free ik
        have HNT : Hid ((thN (setTo F n l k)).set ik true = thN (setTo F n l (k + 1))) := Lib.hid (thN_set p1 (fun z _ => setTo_isSome F n l k z ik (by rw [HIK.out, HI0.out]) true (by rw [node_file_chunk _ (by omega), if_pos ⟨by omega, by rw [Nat.add_sub_cancel, ← HK8.out, ← HLN.out]; exact hyes⟩]; rfl)))
        have HNB : Hid (∀ b : ByteArray, b.data.toList = chunkL l k → (bsN (setTo F n l k)).set ik b = bsN (setTo F n l (k + 1))) := Lib.hid (fun b hb => bsN_set p1 (fun z _ => setTo_body F n l k z ik (by rw [HIK.out, HI0.out]) _ (by rw [node_file_chunk _ (by omega), if_pos ⟨by omega, by rw [Nat.add_sub_cancel, ← HK8.out, ← HLN.out]; exact hyes⟩, Nat.add_sub_cancel, hb]; rfl)))
        by_cases hbig : k8 + 128 < ln
        · have g1 : (k8 : Int) + 128 < (ln : Int) := by omega
          have hrun : ∀ w, (Instr.slice 9 (.string st) (some (.int .i64 (k8 : Int))) (some (.int .i64 ((k8 : Int) + 128))) none).run Try.prog w = .ok (.string (st.extract k8 (k8 + 128))) w := slice_str st k8 (k8 + 128) (by omega) (by omega)
          have HX : Hid ((st.extract k8 (k8 + 128)).data.toList = chunkL l k) := Lib.hid (by rw [extract_list, HST.out, Nat.add_sub_cancel_left]; unfold chunkL; rw [HK8.out])
          obtain ⟨xs, hxs⟩ : ∃ xs, xs = st.extract k8 (k8 + 128) := ⟨_, rfl⟩
          rw [← hxs] at hrun HX
          clear hxs
          go_wp2_with fail
          have O9 := Lib.hid (O8.out.setBody p1 xs)
          have s9 := only_set W8 ⟨G, ik, none⟩ (.string xs)
          have T9 := Lib.hid (T8.out.grown s9 T8.out.size (fun q e => by cases e; have := HG.out; show w.heap.size ≤ G; omega))
          rw [HNT.out, List.set_set, HNB.out xs HX.out] at O9
          exact ⟨⟨k + 1, by omega, by go_num, O9, T9⟩, by simp [intOf]; omega⟩
        · have g1 : ¬ (k8 : Int) + 128 < (ln : Int) := by omega
          have hrun : ∀ w, (Instr.slice 9 (.string st) (some (.int .i64 (k8 : Int))) (some (.int .i64 ((ln : Int)))) none).run Try.prog w = .ok (.string (st.extract k8 (ln))) w := slice_str st k8 (ln) (by omega) (by omega)
          have HX : Hid ((st.extract k8 (ln)).data.toList = chunkL l k) := Lib.hid (by rw [extract_list, HST.out]; unfold chunkL; rw [← HK8.out, HLN.out]; exact take_more (by have := HLN.out; omega))
          obtain ⟨xs, hxs⟩ : ∃ xs, xs = st.extract k8 (ln) := ⟨_, rfl⟩
          rw [← hxs] at hrun HX
          clear hxs
          go_wp2_with fail
          have O9 := Lib.hid (O8.out.setBody p1 xs)
          have s9 := only_set W8 ⟨G, ik, none⟩ (.string xs)
          have T9 := Lib.hid (T8.out.grown s9 T8.out.size (fun q e => by cases e; have := HG.out; show w.heap.size ≤ G; omega))
          rw [HNT.out, List.set_set, HNB.out xs HX.out] at O9
          exact ⟨⟨k + 1, by omega, by go_num, O9, T9⟩, by simp [intOf]; omega⟩
      · go_upto_region 10 with fail
        have s7 := only_set wr ⟨G, 256 + ik, none⟩ (.bool false)
        have O7 := Lib.hid (hO.out.setThere p1 false)
        have T7 := Lib.hid (hT.out.grown s7 hT.out.size (fun q e => by cases e; have := HG.out; show w.heap.size ≤ G; omega))
        obtain ⟨W7, hW7⟩ : ∃ Wn, Wn = (wr).setCell ⟨G, 256 + ik, none⟩ (.bool false) := ⟨_, rfl⟩
        rw [← hW7] at O7 T7 ⊢
        clear hW7 s7
        clear hO hT c1 f1
        have c2 := O7.out.body p1
        have f2 := O7.out.free ik
        go_upto_region 11 with fail
        have s8 := only_set W7 ⟨G, ik, none⟩ (.string ⟨#[]⟩)
        have O8 := Lib.hid (O7.out.setBody p1 ⟨#[]⟩)
        have T8 := Lib.hid (T7.out.grown s8 T7.out.size (fun q e => by cases e; have := HG.out; show w.heap.size ≤ G; omega))
        obtain ⟨W8, hW8⟩ : ∃ Wn, Wn = (W7).setCell ⟨G, ik, none⟩ (.string ⟨#[]⟩) := ⟨_, rfl⟩
        rw [← hW8] at O8 T8 ⊢
        clear hW8 s8
        clear O7 T7 c2 f2
        have c3 : W8.cell? ⟨G, 256 + ik, none⟩ = some (.bool false) := by
          have := O8.out.there p1
          rwa [getD_set (by rw [thN_len]; exact p1), if_pos rfl] at this
        go_wp2_with fail
        have hnode : FI.node (.file l) (k + 1) = none := by rw [node_file_chunk _ (by omega), if_neg (fun h => hyes (by have h2 := h.2; rw [Nat.add_sub_cancel, ← HK8.out, ← HLN.out] at h2; exact h2))]
        rw [thN_set (G' := setTo F n l (k + 1)) p1 (fun z _ => setTo_isSome F n l k z ik (by rw [HIK.out, HI0.out]) false (by rw [hnode]; rfl)), bsN_set (G' := setTo F n l (k + 1)) p1 (fun z _ => setTo_body F n l k z ik (by rw [HIK.out, HI0.out]) _ (by rw [hnode]; rfl))] at O8
        exact ⟨⟨k + 1, by omega, by go_num, O8, T8⟩, by simp [intOf]; omega⟩
    · obtain rfl : k = 6 := by omega
      go_wp2_with fail
      go_ret
      refine ⟨by rw [← HG.out]; rfl, ?_, hT.out⟩
      unfold RF
      have e := hO.out
      rw [bsN_congr (fun z _ => by rw [setTo_six F n l (FS.nat7 F n), setTo_last]), thN_congr (fun z _ => by rw [setTo_six F n l (FS.nat7 F n), setTo_last])] at e
      rw [← HG.out]
      exact e
end Go.Proofs.Ytppodbijdhcclaa

/- laid of layer 20's law: a cache over some files, and the document's nodes. No condition. -/
namespace Go.Proofs.Ytppodbijdhcclaa
open Go Go.RowKit
def dataL (n i : Nat) : List UInt8 := (List.range n).map (fun x => UInt8.ofNat (x * 7 + i))
theorem dataL_len (n i : Nat) : (dataL n i).length = n := by simp [dataL]
theorem dataL_succ (n i : Nat) : dataL (n + 1) i = dataL n i ++ [UInt8.ofNat (n * 7 + i)] := by
  unfold dataL
  rw [List.range_succ, List.map_append]
  rfl
def F0 : FS := fun z => if z = 1 then some .dir else none
def sizeZ (z : Int) : Nat := (z % 1024).toNat
def laidTo (zs : List Int) : Nat → FS
  | 0 => F0
  | k + 1 => if sizeZ (zs.getD k 0) ≤ 768 then (laidTo zs k).put ((2 + k : Nat) : Int) (some (.file (dataL (sizeZ (zs.getD k 0)) k))) else laidTo zs k
theorem F0_ok : F0.ok := fun z x h => by
  unfold F0 at h
  split at h
  · cases h
    subst z
    exact ⟨by omega, fun l e => by cases e⟩
  · cases h
theorem laidTo_ok (zs : List Int) : ∀ k, k ≤ 4 → (laidTo zs k).ok
  | 0, _ => F0_ok
  | k + 1, hk => by
    unfold laidTo
    split
    · exact FS.put_ok (laidTo_ok zs k (by omega)) (by omega) (by rw [dataL_len]; assumption)
    · exact laidTo_ok zs k (by omega)
theorem F0_nat (z : Nat) : F0.nat z = if z = 8 then some [2, 0] else none := by
  unfold FS.nat FS.node F0
  by_cases h : z = 8
  · subst h; rfl
  · rw [if_neg h]
    by_cases h1 : (z : Int) / 8 = 1
    · rw [if_pos h1]
      dsimp only
      unfold FI.node
      rw [if_neg (by omega)]
    · rw [if_neg h1]
/-- a cache anew over the nodes of inodes tells them -/
theorem fat_new {w : World} {q m s : Nat} {mo : Int} {F : FS} (h : CAt w ⟨q, m, s, bsN F.nat, thN F.nat, mo⟩ 0 (fun _ => none) (fun _ => False)) (hF : F.ok) : FAt w ⟨q, m, s, bsN F.nat, thN F.nat, mo⟩ 0 F (fun _ => False) := by
  refine ⟨_, h, fun k => ?_, PGood.none, fun z => ?_, hF⟩
  · by_cases hk : k < 256
    · show ((bsN F.nat).getD k ByteArray.empty).size ≤ 100000
      rw [bsN_get _ hk, Lib.size_eq]
      show ((F.nat k).getD []).length ≤ 100000
      unfold FS.nat FS.node
      cases F ((k : Int) / 8) with
      | none => simp
      | some x =>
        dsimp only
        cases hx : x.node ((k : Int) % 8).toNat with
        | none => simp
        | some b => have := FI.node_len hx; simp; omega
    · show ((bsN F.nat).getD k ByteArray.empty).size ≤ 100000
      rw [List.getD_eq_getElem?_getD, List.getElem?_eq_none (by rw [bsN_len]; omega)]
      decide
  · unfold CI.get getB
    dsimp only
    by_cases hz : 0 ≤ z ∧ z < 256
    · obtain ⟨k, rfl⟩ : ∃ k : Nat, z = (k : Int) := ⟨z.toNat, by omega⟩
      rw [decide_eq_true hz, Bool.true_and, Int.toNat_natCast, bsN_get _ (by omega), thN_get _ (by omega)]
      show _ = F.nat k
      cases F.nat k <;> simp
    · rw [decide_eq_false hz, Bool.false_and, if_neg (by simp)]
      unfold FS.node
      cases hx : F (z / 8) with
      | none => rfl
      | some x => have := (hF _ _ hx).1; omega
theorem and10 (z : Int) : bits .and .i64 z (1023 : Int) = (sizeZ z : Int) := by
  have := and_low z 10 1023 rfl (by omega)
  rw [show ((1023 : Nat) : Int) = 1023 from rfl] at this
  rw [this]
  unfold sizeZ
  omega
theorem idx4 : ∀ (zs : List Int) (_ : zs.length = 4) (k : Nat) (_ : k < 4) (w : World), (Instr.index 58 (.agg (zs.map (Value.int .i64)).toArray) (.int .i64 (k : Int))).run Try.prog w = .ok (.int .i64 (zs.getD k 0)) w
  | [_, _, _, _], _, 0, _, _ => by kernel_rfl
  | [_, _, _, _], _, 1, _, _ => by kernel_rfl
  | [_, _, _, _], _, 2, _, _ => by kernel_rfl
  | [_, _, _, _], _, 3, _, _ => by kernel_rfl
theorem em_first : em.set 8 ⟨#[2, 0]⟩ = bsN F0.nat := list_eq_getD ByteArray.empty (by rw [List.length_set]; exact em_len) (bsN_len _) (fun k hk => by
  rw [getD_set (by rw [em_len]; omega), bsN_get _ hk, F0_nat]
  by_cases h : k = 8
  · rw [if_pos h, if_pos h]; rfl
  · rw [if_neg h, if_neg h]
    unfold em
    rw [List.getD_eq_getElem?_getD, List.getElem?_replicate, if_pos hk]
    rfl)
theorem fa_first : fa.set 8 true = thN F0.nat := list_eq_getD false (by rw [List.length_set]; exact fa_len) (thN_len _) (fun k hk => by
  rw [getD_set (by rw [fa_len]; omega), thN_get _ hk, F0_nat]
  by_cases h : k = 8
  · rw [if_pos h, if_pos h]; rfl
  · rw [if_neg h, if_neg h]
    unfold fa
    rw [List.getD_eq_getElem?_getD, List.getElem?_replicate, if_pos hk]
    rfl)
set_option maxRecDepth 100000 in
set_option maxHeartbeats 16000000 in
theorem laid20_any (zs : List Int) (mo : Int) (w : World) (hz : zs.length = 4) :
    Calls Try.prog 26 #[.agg (zs.map (Value.int .i64)).toArray, .int .i64 mo] w fun e w' => ∃ q m s d, e = .returned (.tuple #[.pointer (some ⟨q, 0, none⟩), .pointer (some ⟨d, 0, none⟩)]) ∧ FAt w' ⟨q, m, s, bsN (laidTo zs 4).nat, thN (laidTo zs 4).nat, mo⟩ 0 (laidTo zs 4) (fun _ => False) ∧ RF w' d (laidTo zs 4) ∧ (d ≠ q ∧ d ≠ m ∧ d ≠ s ∧ w.heap.size ≤ d ∧ w.heap.size ≤ q ∧ w.heap.size ≤ m ∧ w.heap.size ≤ s) ∧ Below w.heap.size w w' := by
  have zn := zeroNod
  have hl := nod_len 0
  have hs := nod_set 0 mo
  go_enter Try.func26, Try.ntmps26
  go_upto_region 2 with fail
  have HZ := Lib.hid hz
  have b1 := (Below.refl w.heap.size w).alloc (Nat.le_refl _) (.cells (zs.map (Value.int .i64)).toArray 58)
  have T2 := Lib.hid (b1.alloc b1.size (.cells (nodCells mo).toArray 32)).drew
  have Z2 : Hid (Blk ((w.alloc (.cells (zs.map (Value.int .i64)).toArray 58)).alloc (.cells (nodCells mo).toArray 32)).drew w.heap.size 58 (zs.map (Value.int .i64))) := Lib.hid (Blk.alloc (show Blk (w.alloc (.cells (zs.map (Value.int .i64)).toArray 58)) w.heap.size 58 (zs.map (Value.int .i64)) from heap_alloc_new w _) (.cells (nodCells mo).toArray 32))
  have N2' := nod_src (w.alloc (.cells (zs.map (Value.int .i64)).toArray 58)) mo
  rw [World.size_alloc] at N2'
  have N2 : Hid (RSt ((w.alloc (.cells (zs.map (Value.int .i64)).toArray 58)).alloc (.cells (nodCells mo).toArray 32)).drew (w.heap.size + 1) 32 [.int .i64 mo] em fa) := Lib.hid (Src.st.1 N2')
  clear b1 N2'
  obtain ⟨gz, hgz⟩ : ∃ gz, gz = w.heap.size := ⟨_, rfl⟩
  have HGZ := Lib.hid hgz
  rw [← hgz] at Z2 N2 ⊢
  clear hgz
  refine wp_region_held_drew (S := (fun _ => True)) (by kernel_rfl) trivial (fun _ => ?_)
  obtain ⟨W2, hW2⟩ : ∃ W2, W2 = ((w.alloc (.cells (zs.map (Value.int .i64)).toArray 58)).alloc (.cells (nodCells mo).toArray 32)).drew := ⟨_, rfl⟩
  rw [← hW2] at Z2 N2 T2 ⊢
  clear hW2
  refine wpAnyH_take (i := 0) (v := .pointer (some ⟨gz + 1, 0, none⟩)) rfl (by kernel_rfl) (by kernel_rfl) (by kernel_rfl) (fun _ _ _ h => h) (Or.inl ⟨by kernel_rfl, fun w _ => by go_simp⟩) trivial ?_
  simp only [Act.put, List.getElem_toArray, List.getElem_cons_zero, List.setIfInBounds_toArray, List.set_cons_zero, List.set_cons_succ]
  refine wpAnyH_take (i := 1) (v := .pointer (some ⟨gz + 1, 0, none⟩)) rfl (by kernel_rfl) (by kernel_rfl) (by kernel_rfl) (fun _ _ _ h => h) (Or.inl ⟨by kernel_rfl, fun w _ => by go_simp⟩) trivial ?_
  simp only [Act.put, List.getElem_toArray, List.getElem_cons_zero, List.getElem_cons_succ, List.setIfInBounds_toArray, List.set_cons_zero, List.set_cons_succ]
  refine wpAnyH_take (i := 2) (v := .pointer (some ⟨gz + 1, 0, none⟩)) rfl (by kernel_rfl) (by kernel_rfl) (by kernel_rfl) (fun _ _ _ h => h) (Or.inl ⟨by kernel_rfl, fun w _ => by go_simp⟩) trivial ?_
  simp only [Act.put, List.getElem_toArray, List.getElem_cons_zero, List.getElem_cons_succ, List.setIfInBounds_toArray, List.set_cons_zero, List.set_cons_succ]
  refine wpAnyH_take (i := 3) (v := .pointer (some ⟨gz + 1, 0, none⟩)) rfl (by kernel_rfl) (by kernel_rfl) (by kernel_rfl) (fun _ _ _ h => h) (Or.inl ⟨by kernel_rfl, fun w _ => by go_simp⟩) trivial ?_
  simp only [Act.put, List.getElem_toArray, List.getElem_cons_zero, List.getElem_cons_succ, List.setIfInBounds_toArray, List.set_cons_zero, List.set_cons_succ]
  refine wpAnyH_take (i := 4) (v := .pointer (some ⟨gz + 1, 256, none⟩)) rfl (by kernel_rfl) (by kernel_rfl) (by kernel_rfl) (fun _ _ _ h => h) (Or.inl ⟨by kernel_rfl, fun w _ => by go_simp⟩) trivial ?_
  simp only [Act.put, List.getElem_toArray, List.getElem_cons_zero, List.getElem_cons_succ, List.setIfInBounds_toArray, List.set_cons_zero, List.set_cons_succ]
  refine wpAnyH_take (i := 5) (v := .pointer (some ⟨gz + 1, 264, none⟩)) rfl (by kernel_rfl) (by kernel_rfl) (by kernel_rfl) (fun _ _ _ h => h) (Or.inl ⟨by kernel_rfl, fun w _ => by go_simp⟩) trivial ?_
  simp only [Act.put, List.getElem_toArray, List.getElem_cons_zero, List.getElem_cons_succ, List.setIfInBounds_toArray, List.set_cons_zero, List.set_cons_succ]
  refine wpAnyH_take (i := 7) (v := .pointer (some ⟨gz + 1, 0, none⟩)) rfl (by kernel_rfl) (by kernel_rfl) (by kernel_rfl) (fun _ _ _ h => h) (Or.inl ⟨by kernel_rfl, fun w _ => by go_simp⟩) trivial ?_
  simp only [Act.put, List.getElem_toArray, List.getElem_cons_zero, List.getElem_cons_succ, List.setIfInBounds_toArray, List.set_cons_zero, List.set_cons_succ]
  refine wpAnyH_take (i := 8) (v := .pointer (some ⟨gz + 1, 0, none⟩)) rfl (by kernel_rfl) (by kernel_rfl) (by kernel_rfl) (fun _ _ _ h => h) (Or.inl ⟨by kernel_rfl, fun w _ => by go_simp⟩) trivial ?_
  simp only [Act.put, List.getElem_toArray, List.getElem_cons_zero, List.getElem_cons_succ, List.setIfInBounds_toArray, List.set_cons_zero, List.set_cons_succ]
  refine wpAnyH_take (i := 9) (v := .pointer (some ⟨gz + 1, 0, none⟩)) rfl (by kernel_rfl) (by kernel_rfl) (by kernel_rfl) (fun _ _ _ h => h) (Or.inl ⟨by kernel_rfl, fun w _ => by go_simp⟩) trivial ?_
  simp only [Act.put, List.getElem_toArray, List.getElem_cons_zero, List.getElem_cons_succ, List.setIfInBounds_toArray, List.set_cons_zero, List.set_cons_succ]
  have c1 : W2.cell? ⟨gz + 1, 256 + 8, none⟩ = some (.bool (fa.getD 8 false)) := N2.out.there (by omega)
  have f1 := N2.out.free (256 + 8)
  refine wpAnyH_ready (rs := [6]) (by kernel_rfl) (by simp) (AllReadyH.cons rfl (fun K hK => ?_) AllReadyH.nil)
  go_simp
  have s3 := only_set W2 ⟨gz + 1, 264, none⟩ (.bool true)
  have N3 := Lib.hid (N2.out.setThere (k := 8) (by omega) true)
  have Z3 := Lib.hid (Z2.out.grown s3 (by simp))
  have T3 := Lib.hid (T2.out.grown s3 T2.out.size (fun q e => by cases e; have := HGZ.out; show w.heap.size ≤ gz + 1; omega))
  obtain ⟨W3, hW3⟩ : ∃ Wn, Wn = W2.setCell ⟨gz + 1, 264, none⟩ (.bool true) := ⟨_, rfl⟩
  rw [show 256 + 8 = 264 from rfl, ← hW3] at N3
  rw [← hW3] at Z3 T3 ⊢
  clear hW3 s3 N2 Z2 T2 c1 f1
  refine hK _ _ trivial (fun _ => ?_)
  clear hK K
  refine wpAnyH_take (i := 10) (v := .pointer (some ⟨gz + 1, 8, none⟩)) rfl (by kernel_rfl) (by kernel_rfl) (by kernel_rfl) (fun _ _ _ h => h) (Or.inl ⟨by kernel_rfl, fun w _ => by go_simp⟩) trivial ?_
  simp only [Act.put, List.getElem_toArray, List.getElem_cons_zero, List.getElem_cons_succ, List.setIfInBounds_toArray, List.set_cons_zero, List.set_cons_succ]
  have c2 : W3.cell? ⟨gz + 1, 8, none⟩ = some (.string (em.getD 8 ByteArray.empty)) := N3.out.body (by omega)
  have f2 := N3.out.free 8
  refine wpAnyH_ready (rs := [11]) (by kernel_rfl) (by simp) (AllReadyH.cons rfl (fun K hK => ?_) AllReadyH.nil)
  go_simp
  have s4 := only_set W3 ⟨gz + 1, 8, none⟩ (.string ⟨#[2, 0]⟩)
  have N4 := Lib.hid (N3.out.setBody (k := 8) (by omega) ⟨#[2, 0]⟩)
  rw [em_first, fa_first] at N4
  have Z4 := Lib.hid (Z3.out.grown s4 (by simp))
  have T4 := Lib.hid (T3.out.grown s4 T3.out.size (fun q e => by cases e; have := HGZ.out; show w.heap.size ≤ gz + 1; omega))
  obtain ⟨W4, hW4⟩ : ∃ Wn, Wn = W3.setCell ⟨gz + 1, 8, none⟩ (.string ⟨#[2, 0]⟩) := ⟨_, rfl⟩
  rw [← hW4] at N4 Z4 T4 ⊢
  clear hW4 s4 N3 Z3 T3 c2 f2
  refine hK _ _ trivial (fun _ => ?_)
  clear hK K
  refine wpAnyH_done (by kernel_rfl) ?_ _
  go_simp
  try simp only [Act.put]
  obtain ⟨g, hg⟩ : ∃ g, g = gz + 1 := ⟨_, rfl⟩
  have HGG := Lib.hid hg
  rw [← hg] at N4 ⊢
  clear hg
  have HZA : Hid ((zs.map (Value.int .i64)).length = 4) := Lib.hid (by rw [List.length_map]; exact HZ.out)
  have aggA4 : ∀ w, (isAgg 58).run Try.prog w = .ok true w := fun _ => by kernel_rfl
  have sizeA4 : ∀ w, (sizeOf 58).run Try.prog w = .ok 4 w := fun _ => by kernel_rfl
  have HDA : Hid (((zs.map (Value.int .i64)).drop 0).take 4 = zs.map (Value.int .i64)) := Lib.hid (by rw [List.drop_zero]; exact List.take_of_length_le (Nat.le_of_eq HZA.out))
  go_wp2_with (refine wpl_seg_load aggA4 sizeA4 (.tmp 2) rfl rfl Z4.out 0 (zs.map (Value.int .i64)) HDA.out HZA.out rfl ?_)
  go_loopw [27] (fun v wr => ∃ k : Nat, k ≤ 4 ∧ v = .int .i64 (k : Int) ∧ Hid (RSt wr g 32 [.int .i64 mo] (bsN (laidTo zs k).nat) (thN (laidTo zs k).nat)) ∧ Hid (Below w.heap.size w wr)) (fun v _ => 4 - (intOf v).toNat)
  case atStart => exact ⟨0, Nat.zero_le _, rfl, N4, T4⟩
  case round =>
    clear N4 T4 Z4
    obtain ⟨k, hk, rfl, hN, hT⟩ := hrel
    by_cases hlt : k < 4
    · have hidx := idx4 zs HZ.out k hlt
      obtain ⟨z, hzk⟩ : ∃ z, z = zs.getD k 0 := ⟨_, rfl⟩
      rw [← hzk] at hidx
      have a10 := and10 z
      have d1 : (k : Int) < 4 := by omega
      have HZK := Lib.hid hzk
      obtain ⟨n, hn⟩ : ∃ n, n = sizeZ z := ⟨_, rfl⟩
      rw [← hn] at a10
      have HNZ := Lib.hid hn
      clear hzk hn
      by_cases hbig : n ≤ 768
      · have hNX : Hid (laidTo zs (k + 1) = (laidTo zs k).put ((2 + k : Nat) : Int) (some (.file (dataL n k)))) := Lib.hid (by
          show (if sizeZ (zs.getD k 0) ≤ 768 then _ else _) = _
          rw [← HZK.out, ← HNZ.out, if_pos hbig])
        have d2 : (n : Int) ≤ 768 := by omega
        have T5 := Lib.hid (hT.out.alloc hT.out.size (.cells #[] 5))
        have N5 : Hid (RSt (wr.alloc (.cells #[] 5)) g 32 [.int .i64 mo] (bsN (laidTo zs k).nat) (thN (laidTo zs k).nat)) := Lib.hid (hN.out.after ((Below.refl _ _).alloc (Nat.le_refl _) _))
        have D5 := Lib.hid (Own.made (e := 5) (w := wr) (base := wr.heap.size) #[] 0 (Nat.le_refl _) (by simp [maxLen]) rfl wr.heap.size rfl)
        have LG := Lib.hid hN.out.lt
        go_upto_region 10 with fail
        obtain ⟨B, hB⟩ : ∃ B, B = wr.heap.size := ⟨_, rfl⟩
        have LB : Hid (g < B ∧ w.heap.size ≤ B) := Lib.hid ⟨by rw [hB]; exact LG.out, by rw [hB]; exact hT.out.size⟩
        obtain ⟨W5, hW5⟩ : ∃ W5, W5 = wr.alloc (.cells #[] 5) := ⟨_, rfl⟩
        rw [← hW5] at T5 N5 D5 ⊢
        rw [← hB] at D5 ⊢
        have LS : Hid (B ≤ W5.heap.size) := Lib.hid (by rw [hW5, hB, World.size_alloc]; omega)
        clear hW5 hN hT LG hB
        go_loopw [10, 11] (fun v x wx => ∃ (j : Nat) (A : Option Addr) (c : Nat), j ≤ n ∧ v = .slice A j c ∧ x = .int .i64 (j : Int) ∧ Hid (Own 5 wx B (.slice A j c) (dataL j k)) ∧ Hid (RSt wx g 32 [.int .i64 mo] (bsN (laidTo zs k).nat) (thN (laidTo zs k).nat)) ∧ Hid (B ≤ wx.heap.size) ∧ Hid (Below w.heap.size w wx)) (fun _ x _ => n - (intOf x).toNat)
        case atStart => exact ⟨0, _, _, Nat.zero_le _, rfl, rfl, D5, N5, LS, T5⟩
        case round =>
          clear T5 N5 D5 LS
          obtain ⟨j, A, c, hj, rfl, rfl, hO, hN, hS, hT⟩ := hrel
          by_cases hjn : j < n
          · obtain ⟨b, hb⟩ : ∃ b, b = UInt8.ofNat (j * 7 + k) := ⟨_, rfl⟩
            have hw8 : IntKind.u8.wrap ((j : Int) * 7 + (k : Int)) = ((b.toNat : Nat) : Int) := by
              rw [hb, UInt8.toNat_ofNat', IntKind.wrap_u8]
              omega
            have d3 : (j : Int) < (n : Int) := by omega
            have HS : Hid (dataL (j + 1) k = dataL j k ++ [b]) := Lib.hid (by rw [hb]; exact dataL_succ j k)
            have B6 := Lib.hid ((Below.refl wr.heap.size wr).alloc (Nat.le_refl _) (.cells #[.int .u8 ((b.toNat : Nat) : Int)] 5))
            have O6 := Lib.hid (hO.out.below B6.out)
            have N6 := Lib.hid (hN.out.after B6.out)
            have T6 := Lib.hid (hT.out.trans (B6.out.mono hT.out.size))
            have S6 := Lib.hid (Nat.le_trans hS.out B6.out.size)
            have R6 : Hid (Bytes (wr.alloc (.cells #[.int .u8 ((b.toNat : Nat) : Int)] 5)) (wr.heap.size + 1) (.slice (some ⟨wr.heap.size, 0, none⟩) 1 1) [b]) := Lib.hid ⟨_, 1, rfl, Nat.le_refl _, by simp [maxLen], Row.new wr #[.int .u8 ((b.toNat : Nat) : Int)] 5 (0, 0) wr.heap.size rfl (Nat.lt_succ_self _)⟩
            have HL1 : Hid ((dataL j k).length + ([b] : List UInt8).length ≤ 1000000) := Lib.hid (by rw [dataL_len]; simp; omega)
            have HL2 : Hid ((dataL j k).length + ([b] : List UInt8).length = j + 1) := Lib.hid (by rw [dataL_len]; rfl)
            clear hb
            go_wp2_with (at_builtin; go_loud (refine wpl_append_bytes byteTys rfl (.tmp 41) (.tmp 47) rfl rfl O6.out (wr.heap.size + 1) (.slice (some ⟨wr.heap.size, 0, none⟩) 1 1) [b] rfl R6.out HL1.out S6.out (j + 1) HL2.out ?_); intro A7 c7 w7 O7 g7 h7; have HO := Lib.hid O7; have HG := Lib.hid g7; clear O7 g7 h7)
            exact ⟨⟨j + 1, A7, c7, by omega, rfl, by go_num, Lib.hid (by rw [HS.out]; exact HO.out), Lib.hid ⟨N6.out.1.below HG.out LB.out.1, N6.out.2⟩, Lib.hid (Nat.le_trans S6.out HG.out.size), Lib.hid (T6.out.trans (HG.out.mono LB.out.2))⟩, by simp [intOf]; omega⟩
          · obtain rfl : j = n := by omega
            have HLD := dataL_len j k
            have BY := Lib.hid (hO.out.bytes (by rw [HLD]; unfold maxLen; omega))
            have HLL : Hid ((dataL j k).length = j) := Lib.hid HLD
            have hrun : (convert 44 9 (.slice A j c)).run Try.prog wr.drew = .ok (.string ⟨(dataL j k).toArray⟩) wr.drew := run_str (w := wr.drew) (B := wr.heap.size) (st := 9) byteTys Try.underlying5 Try.underlying9 (by have := BY.out; exact this)
            have N5 : Hid (RSt wr.drew g 32 [.int .i64 mo] (bsN (laidTo zs k).nat) (thN (laidTo zs k).nat)) := Lib.hid hN.out
            have T5 : Hid (Below w.heap.size w wr.drew) := Lib.hid hT.out.drew
            obtain ⟨kk, hkk⟩ : ∃ kk, kk = 2 + k := ⟨_, rfl⟩
            have hk2 : (2 : Int) + (k : Int) = (kk : Int) := by omega
            have KS := Lib.hid (refSet_any g 0 (laidTo zs k) kk ⟨(dataL j k).toArray⟩ (dataL j k) wr.drew N5.out.at0 ⟨by omega, by omega⟩ rfl (by rw [HLD]; exact hbig))
            rw [← hkk] at hNX
            clear HLD hO BY hkk
            go_upto_region 13 with fail
            refine wp_region_held_drew (S := (fun _ => True)) (by kernel_rfl) trivial (fun _ => ?_)
            have hwr : IntKind.i64.wrap (kk : Int) = (kk : Int) := by
              rw [IntKind.wrap_i64]
              omega
            refine wpAnyH_take (i := 0) (v := .pointer (some ⟨g, 0, none⟩)) rfl (by kernel_rfl) (by kernel_rfl) (by kernel_rfl) (fun _ _ _ h => h) (Or.inl ⟨by kernel_rfl, fun w _ => by go_simp⟩) trivial ?_
            simp only [Act.put, List.getElem_toArray, List.getElem_cons_zero, List.setIfInBounds_toArray, List.set_cons_zero, List.set_cons_succ]
            refine wpAnyH_take (i := 1) (v := .pointer (some ⟨g, 0, none⟩)) rfl (by kernel_rfl) (by kernel_rfl) (by kernel_rfl) (fun _ _ _ h => h) (Or.inl ⟨by kernel_rfl, fun w _ => by go_simp⟩) trivial ?_
            simp only [Act.put, List.getElem_toArray, List.getElem_cons_zero, List.getElem_cons_succ, List.setIfInBounds_toArray, List.set_cons_zero, List.set_cons_succ]
            refine wpAnyH_take (i := 2) (v := .pointer (some ⟨g, 0, none⟩)) rfl (by kernel_rfl) (by kernel_rfl) (by kernel_rfl) (fun _ _ _ h => h) (Or.inl ⟨by kernel_rfl, fun w _ => by go_simp⟩) trivial ?_
            simp only [Act.put, List.getElem_toArray, List.getElem_cons_zero, List.getElem_cons_succ, List.setIfInBounds_toArray, List.set_cons_zero, List.set_cons_succ]
            refine wpAnyH_take (i := 3) (v := .pointer (some ⟨g, 0, none⟩)) rfl (by kernel_rfl) (by kernel_rfl) (by kernel_rfl) (fun _ _ _ h => h) (Or.inl ⟨by kernel_rfl, fun w _ => by go_simp⟩) trivial ?_
            simp only [Act.put, List.getElem_toArray, List.getElem_cons_zero, List.getElem_cons_succ, List.setIfInBounds_toArray, List.set_cons_zero, List.set_cons_succ]
            refine wpAnyH_take (i := 4) (v := .int .i64 (k : Int)) rfl (by kernel_rfl) (by kernel_rfl) (by kernel_rfl) (fun _ _ _ h => h) (Or.inl ⟨by kernel_rfl, fun w _ => by go_simp⟩) trivial ?_
            simp only [Act.put, List.getElem_toArray, List.getElem_cons_zero, List.getElem_cons_succ, List.setIfInBounds_toArray, List.set_cons_zero, List.set_cons_succ]
            refine wpAnyH_take (i := 5) (v := .int .i64 (kk : Int)) rfl (by kernel_rfl) (by kernel_rfl) (by kernel_rfl) (fun _ _ _ h => h) (Or.inl ⟨by kernel_rfl, fun w _ => by go_simp⟩) trivial ?_
            simp only [Act.put, List.getElem_toArray, List.getElem_cons_zero, List.getElem_cons_succ, List.setIfInBounds_toArray, List.set_cons_zero, List.set_cons_succ]
            refine wpAnyH_take (i := 6) (v := .slice A j c) rfl (by kernel_rfl) (by kernel_rfl) (by kernel_rfl) (fun _ _ _ h => h) (Or.inl ⟨by kernel_rfl, fun w _ => by go_simp⟩) trivial ?_
            simp only [Act.put, List.getElem_toArray, List.getElem_cons_zero, List.getElem_cons_succ, List.setIfInBounds_toArray, List.set_cons_zero, List.set_cons_succ]
            refine wpAnyH_ready (rs := [7]) (by kernel_rfl) (by simp) (AllReadyH.cons rfl (fun K hK => ?_) AllReadyH.nil)
            go_simp
            refine hK _ _ trivial (fun _ => ?_)
            clear hK K
            refine wpAnyH_ready (rs := [8]) (by kernel_rfl) (by simp) (AllReadyH.cons rfl (fun K hK => ?_) AllReadyH.nil)
            go_simp
            (with_reducible refine KS.out.mono ?_); rintro e w8 ⟨rfl, R8', b8⟩
            obtain ⟨r, hr⟩ : ∃ r, r = wr.drew.heap.size := ⟨_, rfl⟩
            rw [← hr] at R8' ⊢
            have R8 : Hid (Blk w8 r 30 (stCells (bsN (laidTo zs (k + 1)).nat) (thN (laidTo zs (k + 1)).nat))) := Lib.hid (by rw [hNX.out]; have := R8'.1; rw [List.append_nil] at this; exact this)
            have N8 := Lib.hid (N5.out.after b8)
            have T8 := Lib.hid (T5.out.trans (b8.mono T5.out.size))
            have HGR : Hid (g < r) := Lib.hid (by rw [hr]; exact N5.out.lt)
            refine hK _ _ trivial (fun _ => ?_)
            clear hK K b8 R8' N5 T5 KS hr
            obtain ⟨SC, hSC⟩ : ∃ SC, SC = stCells (bsN (laidTo zs (k + 1)).nat) (thN (laidTo zs (k + 1)).nat) := ⟨_, rfl⟩
            have HSC := Lib.hid hSC
            rw [← hSC] at R8
            have ONE : Hid (∀ u ∈ SC, u.oneCell' = true) := Lib.hid (by rw [hSC]; exact stCells_one)
            have HLS : Hid (SC.length = 512) := Lib.hid (by rw [hSC]; exact stCells_length (bsN_len _) (thN_len _))
            have HDS : Hid ((SC.drop 0).take 512 = SC) := Lib.hid (by rw [List.drop_zero]; exact List.take_of_length_le (Nat.le_of_eq HLS.out))
            clear hSC
            refine wpAnyH_weaken (S' := fun w' => Blk w' r 30 SC) (fun _ _ => trivial) _ _ _ _ ?_
            refine wpAnyH_take (i := 9) (v := .pointer (some ⟨r, 0, none⟩)) rfl (by kernel_rfl) (by kernel_rfl) (by kernel_rfl) (fun _ _ _ h => h) (Or.inl ⟨by kernel_rfl, fun w _ => by go_simp⟩) R8.out ?_
            simp only [Act.put, List.getElem_toArray, List.getElem_cons_zero, List.getElem_cons_succ, List.setIfInBounds_toArray, List.set_cons_zero, List.set_cons_succ]
            refine wpAnyH_take (i := 10) (v := .agg SC.toArray) rfl (by kernel_rfl) (by kernel_rfl) (by kernel_rfl) (fun _ _ _ h => h) (yields_seg aggSt sizeSt (.tmp 58) (by kernel_rfl) (by kernel_rfl) (by kernel_rfl) (g := r) (i := 0) (fun _ h => h) HDS.out HLS.out) R8.out ?_
            simp only [Act.put, List.getElem_toArray, List.getElem_cons_zero, List.getElem_cons_succ, List.setIfInBounds_toArray, List.set_cons_zero, List.set_cons_succ]
            refine wpAnyH_take (i := 11) (v := .pointer (some ⟨g, 0, none⟩)) rfl (by kernel_rfl) (by kernel_rfl) (by kernel_rfl) (fun _ _ _ h => h) (Or.inl ⟨by kernel_rfl, fun w _ => by go_simp⟩) R8.out ?_
            simp only [Act.put, List.getElem_toArray, List.getElem_cons_zero, List.getElem_cons_succ, List.setIfInBounds_toArray, List.set_cons_zero, List.set_cons_succ]
            refine wpAnyH_take (i := 12) (v := .pointer (some ⟨g, 0, none⟩)) rfl (by kernel_rfl) (by kernel_rfl) (by kernel_rfl) (fun _ _ _ h => h) (Or.inl ⟨by kernel_rfl, fun w _ => by go_simp⟩) R8.out ?_
            simp only [Act.put, List.getElem_toArray, List.getElem_cons_zero, List.getElem_cons_succ, List.setIfInBounds_toArray, List.set_cons_zero, List.set_cons_succ]
            have HSG : Hid (segSet (stCells (bsN (laidTo zs k).nat) (thN (laidTo zs k).nat) ++ [Value.int .i64 mo]) 0 SC = SC ++ [Value.int .i64 mo]) := Lib.hid (by
              unfold segSet
              rw [List.take_zero, List.nil_append, Nat.zero_add, HLS.out, List.drop_append_of_le_length (by rw [stCells_length (bsN_len _) (thN_len _)]; exact Nat.le_refl _), List.drop_of_length_le (by rw [stCells_length (bsN_len _) (thN_len _)]; exact Nat.le_refl _), List.nil_append])
            have HIL : Hid (0 + 512 ≤ (stCells (bsN (laidTo zs k).nat) (thN (laidTo zs k).nat) ++ [Value.int .i64 mo]).length) := Lib.hid (by rw [List.length_append, stCells_length (bsN_len _) (thN_len _)]; simp)
            refine wpAnyH_ready (rs := [13]) (by kernel_rfl) (by simp) (AllReadyH.cons rfl (fun K hK => ?_) AllReadyH.nil)
            refine step_seg_store sizeSt (by kernel_rfl) (.tmp 61) (.tmp 59) (by kernel_rfl) N8.out.1 0 HLS.out HIL.out ONE.out (by kernel_rfl) (by kernel_rfl) _ HSG.out ?_
            intro w9 N9' g9 e9
            have N9 : Hid (RSt w9 g 32 [.int .i64 mo] (bsN (laidTo zs (k + 1)).nat) (thN (laidTo zs (k + 1)).nat)) := Lib.hid ⟨by rw [← HSC.out]; exact N9', bsN_len _, thN_len _⟩
            have R9 := R8.out.grown g9 (by simp only [ne_eq, Option.some.injEq]; have := HGR.out; omega)
            have T9 := Lib.hid (T8.out.grown g9 T8.out.size (fun q e => by cases e; have := HGG.out; have := HGZ.out; show w.heap.size ≤ g; omega))
            refine hK _ _ R9 (fun _ => ?_)
            clear hK K N9' g9 e9
            refine wpAnyH_done (by kernel_rfl) ?_ _
            go_simp
            try simp only [Act.put]
            go_wp2_with fail
            exact ⟨⟨k + 1, by omega, by go_num, N9, T9⟩, by simp [intOf]; omega⟩
      · have hNX : Hid (laidTo zs (k + 1) = laidTo zs k) := Lib.hid (by
          show (if sizeZ (zs.getD k 0) ≤ 768 then _ else _) = _
          rw [← HZK.out, ← HNZ.out, if_neg hbig])
        have d2 : ¬ (n : Int) ≤ 768 := by omega
        go_wp2_with fail
        exact ⟨⟨k + 1, by omega, by go_num, by rw [hNX.out]; exact hN, hT⟩, by simp [intOf]; omega⟩
    · obtain rfl : k = 4 := by omega
      obtain ⟨SC, hSC⟩ : ∃ SC, SC = stCells (bsN (laidTo zs 4).nat) (thN (laidTo zs 4).nat) := ⟨_, rfl⟩
      have HLS : Hid (SC.length = 512) := Lib.hid (by rw [hSC]; exact stCells_length (bsN_len _) (thN_len _))
      have ONE : Hid (∀ u ∈ SC, u.oneCell' = true) := Lib.hid (by rw [hSC]; exact stCells_one)
      have HDS : Hid (((SC ++ [Value.int .i64 mo]).drop 0).take 512 = SC) := Lib.hid (by rw [List.drop_zero]; exact List.take_left' HLS.out)
      have HB : Hid (Blk wr g 32 (SC ++ [Value.int .i64 mo])) := Lib.hid (by rw [hSC]; exact hN.out.1)
      have HSC := Lib.hid hSC
      have z1 := zeroSt
      have l1 := stZ_len
      have X2 := Lib.hid (Blk.new wr 30 stZ)
      have A2 := Lib.hid ((Below.refl wr.heap.size wr).alloc (Nat.le_refl _) (.cells stZ.toArray 30))
      have N2 := Lib.hid (hN.out.after A2.out)
      have T2 := Lib.hid (hT.out.trans (A2.out.mono hT.out.size))
      have SG1 : Hid (segSet stZ 0 SC = SC) := Lib.hid (segSet_all (by rw [l1, HLS.out]))
      obtain ⟨d, hd⟩ : ∃ d, d = wr.heap.size := ⟨_, rfl⟩
      have HDG : Hid (g < d ∧ w.heap.size ≤ d) := Lib.hid ⟨by rw [hd]; exact hN.out.lt, by rw [hd]; exact hT.out.size⟩
      obtain ⟨W2, hW2⟩ : ∃ W2, W2 = wr.alloc (.cells stZ.toArray 30) := ⟨_, rfl⟩
      have HIL : Hid (0 + 512 ≤ stZ.length) := Lib.hid (by rw [l1]; exact Nat.le_refl _)
      have HWS : Hid (W2.heap.size = d + 1) := Lib.hid (by rw [hW2, World.size_alloc, hd])
      rw [← hW2, ← hd] at X2
      rw [← hW2] at N2 T2
      have HD0 := Lib.hid hd
      have HW0 := Lib.hid hW2
      clear hSC hd hW2 A2 hT
      go_upto_region 16 with (first
        | (refine wpl_seg_load aggSt sizeSt (.tmp 65) rfl rfl HB.out 0 SC HDS.out HLS.out rfl ?_)
        | (rw [← HW0.out, ← HD0.out]; refine wpl_seg_store sizeSt (.tmp 12) (.tmp 66) rfl rfl X2.out 0 SC HLS.out HIL.out ONE.out rfl rfl _ SG1.out ?_; intro w3 X3 g3 e3; have HX3 := Lib.hid X3; have N3 := Lib.hid (N2.out.grown g3 (by simp only [ne_eq, Option.some.injEq]; have := HDG.out; omega)); have T3 := Lib.hid (T2.out.grown g3 T2.out.size (fun q e => by cases e; exact HDG.out.2)); have HS3 : Hid (w3.heap.size = d + 1) := Lib.hid (by rw [e3]; exact HWS.out); clear X3 g3 e3))
      have KN := Lib.hid (new_cat g (bsN (laidTo zs 4).nat) (thN (laidTo zs 4).nat) mo w3 (Src.st.2 N3.out))
      go_wp2_with ((with_reducible refine KN.out.mono ?_); rintro e w4 ⟨q, m, rfl, hq, hm, HC, b4⟩)
      go_ret2
      have hlt4 := HS3.out
      have hdg := HDG.out
      have h5 := T3.out.size
      refine ⟨q, m, g, d, rfl, fat_new HC (laidTo_ok zs 4 (Nat.le_refl _)), ⟨by rw [List.append_nil, ← HSC.out]; exact Blk.after HX3.out b4, bsN_len _, thN_len _⟩, ⟨by omega, by omega, by omega, hdg.2, by omega, by omega, by have := HGG.out; have := HGZ.out; omega⟩, T3.out.trans (b4.mono T3.out.size)⟩
end Go.Proofs.Ytppodbijdhcclaa

