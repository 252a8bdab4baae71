/- Several texts of the proof, joined: what each has is said at its head. -/
import Derived.Test.YtppodbijdhcclaaQFileJE
import Derived.Test.YtppodbijdhcclaaQFileJD
import Derived.Lib.SlBytesConst
import Derived.Deep.DeepCutAuto
/- speaks of layer 20; the caches of the laws have room. No condition. -/
namespace Go.Proofs.Ytppodbijdhcclaa
open Go Go.RowKit
/-- no inodes but the first five -/
def FS.five (F : FS) : Prop := ∀ z x, F z = some x → 1 ≤ z ∧ z ≤ 5
theorem laidTo_five (zs : List Int) : ∀ k, k ≤ 4 → (laidTo zs k).five
  | 0, _ => fun z x h => by
    change F0 z = some x at h
    unfold F0 at h
    split at h
    · omega
    · cases h
  | k + 1, hk => by
    unfold laidTo
    split
    · intro z x h
      unfold FS.put at h
      split at h
      · omega
      · exact laidTo_five zs k (by omega) z x h
    · exact laidTo_five zs k (by omega)
theorem FS.five.put {F : FS} (h : F.five) {n : Int} {x : FI} (hn : F n = some x) (y : Option FI) : (F.put n y).five := fun z v hv => by
  unfold FS.put at hv
  split at hv
  · subst z
    exact h n x hn
  · exact h z v hv
theorem FS.five.cntTo {F : FS} (h : F.five) (n : Nat) : ((List.range n).filter (fun (k : Nat) => (F.node (k : Int)).isSome)).length ≤ min n 48 := by
  induction n with
  | zero => simp
  | succ n ih =>
    rw [List.range_succ, List.filter_append, List.length_append]
    by_cases hs : (F.node (n : Int)).isSome = true
    · have : n < 48 := by
        unfold FS.node at hs
        cases hx : F ((n : Int) / 8) with
        | none => rw [hx] at hs; cases hs
        | some x => have := h _ _ hx; omega
      have h2 : ([n].filter (fun (k : Nat) => (F.node (k : Int)).isSome)).length ≤ 1 := List.length_filter_le _ _
      omega
    · rw [show [n].filter (fun (k : Nat) => (F.node (k : Int)).isSome) = [] from List.filter_eq_nil_iff.2 (fun k hk => by simp only [List.mem_singleton] at hk; subst hk; exact hs)]
      simp only [List.length_nil]
      omega
theorem FS.five.cnt {F : FS} (h : F.five) : F.cnt ≤ 48 := Nat.le_trans (h.cntTo 256) (Nat.min_le_right _ _)
theorem FS.five.room {F F' : FS} (h : F'.five) : ¬ FS.full 60 F F' := fun hf => by
  have := h.cnt
  have := hf.1
  omega
theorem PutR.ok {w w' : World} {i : CI} {N : Nat} {F F' : FS} {S : Nat → Prop} {e : Ending} (h : PutR w i N F F' S e w') (hr : ¬ FS.full i.mo F F') : e = .returned (.int .i64 0) ∧ w.grownBy w' (some i.m) ∧ ∃ S', FAt w' i (N + 20) F' S' ∧ ∀ b, S' b → S b ∨ w.heap.size ≤ b := by
  rcases h with ⟨h1, _⟩ | ⟨_, h2, h3, h4⟩
  · exact absurd h1 hr
  · exact ⟨h2, h3, h4⟩
def spkF : FS := (laidTo [0, 0, 0, 0] 4).put 2 (some (.file (writeL [] 130 [97, 98])))
theorem spk_two : laidTo [0, 0, 0, 0] 4 2 = some (.file []) := by kernel_rfl
theorem spk_read : ((writeL [] 130 [97, 98]).drop 127).take 9 = [0, 0, 0, 97, 98] := by kernel_rfl
theorem spk_len : (writeL [] 130 [97, 98]).length = 132 := by kernel_rfl
set_option maxRecDepth 100000 in
set_option maxHeartbeats 8000000 in
theorem fspeaks_any (w : World) : Calls Try.prog 25 #[] w fun e w' => e = .returned (.bool true) ∧ Below w.heap.size w w' := by
  have KL := Lib.hid (laid20_any [0, 0, 0, 0] 60 w rfl)
  obtain ⟨F, hF⟩ : ∃ F, F = laidTo [0, 0, 0, 0] 4 := ⟨_, rfl⟩
  have H2 : Hid (F 2 = some (.file [])) := Lib.hid (by rw [hF]; exact spk_two)
  have H5 : Hid F.five := Lib.hid (by rw [hF]; exact laidTo_five _ 4 (Nat.le_refl _))
  rw [← hF] at KL
  clear hF
  simp only [List.map_cons, List.map_nil] at KL
  go_enter Try.func25, Try.ntmps25
  go_upto_region 2 with ((with_reducible refine KL.out.mono ?_); rintro e w1 ⟨q, m, s, d, rfl, C1, D1, S1, b1⟩; have HC := Lib.hid C1; have T1 := Lib.hid b1; have HS := Lib.hid S1; clear C1 D1 S1 b1)
  have B2 := Lib.hid ((Below.refl w1.heap.size w1).alloc (Nat.le_refl _) (.cells #[.int .u8 97, .int .u8 98] 5 (2, 3)))
  have V2 : Hid (Bytes (w1.alloc (.cells #[.int .u8 97, .int .u8 98] 5 (2, 3))) (w1.alloc (.cells #[.int .u8 97, .int .u8 98] 5 (2, 3))).heap.size (.slice (some ⟨w1.heap.size, 0, none⟩) 2 2) [97, 98]) := Lib.hid ⟨_, 2, rfl, Nat.le_refl _, by simp [maxLen], Row.new w1 #[.int .u8 97, .int .u8 98] 5 (2, 3) w1.heap.size rfl (by simp)⟩
  have KW := Lib.hid (fwrite_file ⟨q, m, s, bsN F.nat, thN F.nat, 60⟩ 0 F _ 2 [] [97, 98] 130 (.slice (some ⟨w1.heap.size, 0, none⟩) 2 2) _ (HC.out.after B2.out) H2.out (by omega) V2.out (by decide) (by decide))
  obtain ⟨L, hL⟩ : ∃ L, L = writeL [] 130 [97, 98] := ⟨_, rfl⟩
  have HLN : Hid (L.length = 132) := Lib.hid (by rw [hL]; exact spk_len)
  have HRD : Hid ((L.drop 127).take 9 = [0, 0, 0, 97, 98]) := Lib.hid (by rw [hL]; exact spk_read)
  rw [← hL] at KW
  obtain ⟨G, hG⟩ : ∃ G, G = F.put 2 (some (.file L)) := ⟨_, rfl⟩
  have G2 : Hid (G 2 = some (.file L)) := Lib.hid (by rw [hG]; unfold FS.put; rw [if_pos rfl])
  have G5 : Hid G.five := Lib.hid (by rw [hG]; exact H5.out.put H2.out _)
  rw [← hG, show ((130 : Nat) : Int) = 130 from rfl] at KW
  clear hL
  have HM : Hid (w.heap.size ≤ m) := Lib.hid HS.out.2.2.2.2.2.1
  clear hG KL
  have hcv : (convert 44 44 (.slice (some ⟨w1.heap.size, 0, none⟩) 2 2)).run Try.prog (w1.alloc (.cells #[.int .u8 97, .int .u8 98] 5)) = .ok (.slice (some ⟨w1.heap.size, 0, none⟩) 2 2) (w1.alloc (.cells #[.int .u8 97, .int .u8 98] 5 (2, 3))) := Lib.run_convert_bytes_const w1 44 5 #[.int .u8 97, .int .u8 98] 2 2 Try.underlying44 Try.underlying5
  go_upto_region 4 with (go_at_call 33; (refine KW.out.mono ?_); rintro e w3 hr; obtain ⟨rfl, g3, S3, C3', _⟩ := hr.ok G5.out.room; have C3 := Lib.hid C3'; have T3 := Lib.hid ((T1.out.trans (B2.out.mono T1.out.size)).grown g3 (T1.out.trans (B2.out.mono T1.out.size)).size (fun k e => by cases e; exact HM.out)); clear hr g3 C3' KW)
  have KG := Lib.hid (fget_some ⟨q, m, s, bsN F.nat, thN F.nat, 60⟩ (0 + 20) G _ 2 (.file L) w3 C3.out G2.out)
  unfold FI.ino at KG
  dsimp only at KG
  rw [HLN.out] at KG
  have h132 : ((132 : Nat) : Int) = 132 := rfl
  rw [h132] at KG
  go_upto_region 5 with (go_at_call 35; (with_reducible refine KG.out.mono ?_); rintro e w4 ⟨A4, c4, rfl, b4⟩; have C4 := Lib.hid ((C3.out.after b4).alloc (.cells #[.int .i64 1, .int .i64 132, .slice A4 0 c4] 66)); have T4 := Lib.hid ((T3.out.trans (b4.mono T3.out.size)).alloc (T3.out.trans (b4.mono T3.out.size)).size (.cells #[.int .i64 1, .int .i64 132, .slice A4 0 c4] 66)); have X4 := Lib.hid (Blk.new3c w4 (.int .i64 1) (.int .i64 132) (.slice A4 0 c4) 66); clear b4)
  have KR := Lib.hid (fread_file ⟨q, m, s, bsN F.nat, thN F.nat, 60⟩ (0 + 20) G _ 2 L 127 9 _ C4.out G2.out)
  rw [HRD.out, show ((127 : Nat) : Int) = 127 from rfl, show ((9 : Nat) : Int) = 9 from rfl] at KR
  have x1 : _ = some (Value.int .i64 132) := X4.out.cell 1
  obtain ⟨W4, hW4⟩ : ∃ W4, W4 = w4.alloc (.cells #[.int .i64 1, .int .i64 132, .slice A4 0 c4] 66) := ⟨_, rfl⟩
  rw [← hW4] at KR x1 X4 T4 ⊢
  clear hW4 KG C4
  go_upto_region 6 with (go_at_call 28; (with_reducible refine KR.out.mono ?_); rintro e w5 ⟨A5, c5, z5, hz5, rfl, O5, b5⟩; obtain rfl : z5 = 5 := hz5.out.symm; have HO := Lib.hid O5; have T5 := Lib.hid (T4.out.trans (b5.mono T4.out.size)); have X5 := Lib.hid (X4.out.after b5); clear hz5 O5 b5 x1)
  have y1 : w5.cell? ⟨w4.heap.size, 1, none⟩ = some (Value.int .i64 132) := X5.out.cell 1
  have hrun := run_str (w := w5) (st := 9) byteTys Try.underlying5 Try.underlying9 (HO.out.bytes (by simp [maxLen]))
  try simp only [List.length_cons, List.length_nil] at hrun
  go_wp2_with fail
  go_ret
  exact ⟨rfl, T5.out⟩
end Go.Proofs.Ytppodbijdhcclaa

/- The walk of FileShrinks: it answers true, and changes nothing that was there. No condition. -/
namespace Go.Proofs.Ytppodbijdhcclaa
open Go Go.RowKit
theorem laid_two (z : Int) : laidTo [z, 0, 0, 0] 4 2 = if sizeZ z ≤ 768 then some (.file (dataL (sizeZ z) 0)) else none := by
  have h0 : ∀ (F : FS) (k : Nat) (hk : 1 ≤ k) (x : Option FI), (F.put ((2 + k : Nat) : Int) x) 2 = F 2 := fun F k hk x => by
    unfold FS.put
    rw [if_neg (by omega)]
  have h1 : ∀ k, 1 ≤ k → laidTo [z, 0, 0, 0] (k + 1) 2 = laidTo [z, 0, 0, 0] k 2 := fun k hk => by
    show (if sizeZ ([z, 0, 0, 0].getD k 0) ≤ 768 then (laidTo [z, 0, 0, 0] k).put ((2 + k : Nat) : Int) _ else laidTo [z, 0, 0, 0] k : FS) 2 = _
    split
    · exact h0 _ k hk _
    · rfl
  rw [h1 3 (by omega), h1 2 (by omega), h1 1 (by omega)]
  show (if sizeZ z ≤ 768 then F0.put ((2 + 0 : Nat) : Int) (some (.file (dataL (sizeZ z) 0))) else F0 : FS) 2 = _
  split
  · rfl
  · rfl
theorem FS.put_self {F : FS} {n : Int} {x : FI} (h : F n = some x) : F.put n (some x) = F := funext (fun z => by
  unfold FS.put
  split
  · subst z; exact h.symm
  · rfl)
theorem truncL_self (l : List UInt8) : truncL l l.length = l := by simp [truncL]
/-- Truncate where there is room -/
theorem ftrunc_five (i : CI) (N : Nat) (F : FS) (S : Nat → Prop) (n : Int) (l : List UInt8) (t : Nat) (w : World) (h : FAt w i N F S) (hF : F n = some (.file l)) (h5 : F.five) (hm : i.mo = 60) (hN : N ≤ 900000) (ht : t ≤ 768) :
    Calls Try.prog 32 #[.pointer (some ⟨i.q, 0, none⟩), .int .i64 n, .int .i64 (t : Int)] w fun e w' => e = .returned (.int .i64 0) ∧ w.grownBy w' (some i.m) ∧ ∃ S', FAt w' i (N + 20) (F.put n (some (.file (truncL l t)))) S' := by
  by_cases hne : t = l.length
  · refine (ftrunc_same i N F S n l (t : Int) w h hF (by omega) (by omega)).mono ?_
    rintro e w' ⟨rfl, b⟩
    refine ⟨rfl, only_of_below b _, S, ?_⟩
    rw [hne, truncL_self, FS.put_self hF]
    exact (h.after b).more (by omega)
  · refine (ftrunc_file i N F S n l t w h hF hN ht hne).mono ?_
    rintro e w' hr
    obtain ⟨h1, h2, S', h3, _⟩ := hr.ok (by rw [hm]; exact (h5.put hF _).room)
    exact ⟨h1, h2, S', h3⟩
theorem rem769 (n : Nat) : ((n : Int).tmod 769) = ((n % 769 : Nat) : Int) := by
  rw [Int.tmod_eq_emod_of_nonneg (Int.natCast_nonneg _)]
  omega
theorem shr_get (l : List UInt8) (a b j : Nat) (hj : j < b) : (truncL (truncL l a) b).getD j 0 = if j < l.length ∧ j < a then l.getD j 0 else 0 := by
  rw [truncL_get _ _ _ hj]
  by_cases ha : j < a
  · rw [truncL_get _ _ _ ha]
    by_cases hl : j < l.length
    · rw [if_pos ⟨hl, ha⟩]
    · rw [if_neg (fun h => hl h.1), List.getD_eq_getElem?_getD, List.getElem?_eq_none (by omega)]
      rfl
  · rw [if_neg (fun h => ha h.2), List.getD_eq_getElem?_getD, List.getElem?_eq_none (by rw [truncL_len]; omega)]
    rfl
theorem own_at {w : World} {base n c : Nat} {A : Option Addr} {L : List UInt8} (h : Own 5 w base (.slice A n c) L) {j : Nat} (hj : j < L.length) : ∃ g, A = some ⟨g, 0, none⟩ ∧ w.cell? ⟨g, j, none⟩ = some (.int .u8 ((L.getD j 0).toNat : Int)) := by
  rcases h.2 with ⟨hv, h0⟩ | ⟨g, cap, cur, hv, _⟩
  · omega
  · obtain ⟨rfl, _, _⟩ := Value.slice.inj hv
    refine ⟨g, rfl, ?_⟩
    have h1 := World.ownsRow.cells h (g := g) rfl j (.int .u8 ((L.getD j 0).toNat : Int)) (by
      unfold bv
      rw [List.getElem?_map, List.getElem?_eq_getElem hj, List.getD_eq_getElem?_getD, List.getElem?_eq_getElem hj]
      rfl)
    simpa [Addr.add_lit] using h1
set_option maxRecDepth 100000 in
set_option maxHeartbeats 16000000 in
theorem fileShrinks_any (size less more : Int) (w : World) (_ : (Lit.int .i64 size).wf = true) (_ : (Lit.int .i64 less).wf = true) (_ : (Lit.int .i64 more).wf = true) :
    Calls Try.prog 11 #[.int .i64 size, .int .i64 less, .int .i64 more] w fun e w' => e = .returned (.bool true) ∧ Below w.heap.size w w' := by
  have KS := Lib.hid (fspeaks_any w)
  have KL := Lib.hid (fun w => laid20_any [size, 0, 0, 0] 60 w rfl)
  obtain ⟨F, hF⟩ : ∃ F, F = laidTo [size, 0, 0, 0] 4 := ⟨_, rfl⟩
  have H2 : Hid (F 2 = if sizeZ size ≤ 768 then some (.file (dataL (sizeZ size) 0)) else none) := Lib.hid (by rw [hF]; exact laid_two size)
  have H5 : Hid F.five := Lib.hid (by rw [hF]; exact laidTo_five _ 4 (Nat.le_refl _))
  rw [← hF] at KL
  clear hF
  simp only [List.map_cons, List.map_nil] at KL
  have a1 := and10 less
  have a2 := and10 more
  obtain ⟨a, ha⟩ : ∃ a, a = sizeZ less % 769 := ⟨_, rfl⟩
  obtain ⟨b, hb⟩ : ∃ b, b = sizeZ more % 769 := ⟨_, rfl⟩
  have r1 := rem769 (sizeZ less)
  have r2 := rem769 (sizeZ more)
  rw [← ha] at r1
  rw [← hb] at r2
  have ha7 : a ≤ 768 := by omega
  have hb7 : b ≤ 768 := by omega
  generalize sizeZ less = zl at a1 r1 ha
  generalize sizeZ more = zm at a2 r2 hb
  clear ha hb
  go_enter Try.func11, Try.ntmps11
  go_upto_region 6 with (first
    | (go_at_call 25; (with_reducible refine KS.out.mono ?_); rintro e w1 ⟨rfl, b1⟩; have T1 := Lib.hid b1; clear b1)
    | (go_at_call 26; (with_reducible refine (KL.out _).mono ?_); rintro e w2 ⟨q, m, s, d, rfl, C2', D2', S2', b2⟩; have C2 := Lib.hid C2'; have T2 := Lib.hid (T1.out.trans (b2.mono T1.out.size)); have HM : Hid (w.heap.size ≤ m) := Lib.hid (Nat.le_trans T1.out.size S2'.2.2.2.2.2.1); clear C2' D2' S2' b2 T1))
  clear KS KL
  go_upto_region 7 with fail
  clear a1 a2 r1 r2
  by_cases hsz : sizeZ size ≤ 768
  · obtain ⟨l, hl⟩ : ∃ l, l = dataL (sizeZ size) 0 := ⟨_, rfl⟩
    have h2 := H2.out
    rw [if_pos hsz, ← hl] at h2
    have HF2 := Lib.hid h2
    have hlen : l.length ≤ 768 := by rw [hl, dataL_len]; exact hsz
    clear H2 h2 hl hsz
    have KR := Lib.hid (fread_file ⟨q, m, s, bsN F.nat, thN F.nat, 60⟩ 0 F _ 2 l 0 1000 w2 C2.out HF2.out)
    have e1 : ((l.drop 0).take 1000) = l := by rw [List.drop_zero]; exact List.take_of_length_le (by omega)
    rw [e1, show ((0 : Nat) : Int) = 0 from rfl, show ((1000 : Nat) : Int) = 1000 from rfl] at KR
    clear e1
    go_upto_region 10 with (go_at_call 28; (with_reducible refine KR.out.mono ?_); rintro e w3 ⟨A3, c3, z3, hz3, rfl, O3, b3⟩; have HZ3 := Lib.hid hz3.out; have HO3 := Lib.hid O3; have C3 := Lib.hid (C2.out.after b3); have T3 := Lib.hid (T2.out.trans (b3.mono T2.out.size)); have LM : Hid (m < w2.heap.size) := Lib.hid C2.out.lt.2.1; clear hz3 O3 b3)
    clear KR
    obtain ⟨B, hB⟩ : ∃ B, B = w2.heap.size := ⟨_, rfl⟩
    rw [← hB] at HO3 LM
    clear hB C2 T2
    have K1 := Lib.hid (ftrunc_five ⟨q, m, s, bsN F.nat, thN F.nat, 60⟩ 0 F _ 2 l a w3 C3.out HF2.out H5.out rfl (by omega) ha7)
    obtain ⟨G, hG⟩ : ∃ G, G = F.put 2 (some (.file (truncL l a))) := ⟨_, rfl⟩
    have HG2 : Hid (G 2 = some (.file (truncL l a))) := Lib.hid (by rw [hG]; unfold FS.put; rw [if_pos rfl])
    have HG5 : Hid G.five := Lib.hid (by rw [hG]; exact H5.out.put HF2.out _)
    rw [← hG] at K1
    clear hG
    have K2 : Hid (∀ w S, FAt w ⟨q, m, s, bsN F.nat, thN F.nat, 60⟩ (0 + 20) G S → Calls Try.prog 32 #[.pointer (some ⟨q, 0, none⟩), .int .i64 2, .int .i64 (b : Int)] w fun e w' => e = .returned (.int .i64 0) ∧ w.grownBy w' (some m) ∧ ∃ S', FAt w' ⟨q, m, s, bsN F.nat, thN F.nat, 60⟩ (0 + 20 + 20) (G.put 2 (some (.file (truncL (truncL l a) b)))) S') := Lib.hid (fun w S hc => ftrunc_five ⟨q, m, s, bsN F.nat, thN F.nat, 60⟩ (0 + 20) G S 2 (truncL l a) b w hc HG2.out HG5.out rfl (by omega) hb7)
    obtain ⟨X, hX⟩ : ∃ X, X = truncL (truncL l a) b := ⟨_, rfl⟩
    obtain ⟨H, hH⟩ : ∃ H, H = G.put 2 (some (.file X)) := ⟨_, rfl⟩
    have HH2 : Hid (H 2 = some (.file X)) := Lib.hid (by rw [hH]; unfold FS.put; rw [if_pos rfl])
    have HXL : Hid (X.length = b) := Lib.hid (by rw [hX]; exact truncL_len _ _)
    have HXG : Hid (∀ j, j < b → X.getD j 0 = if j < l.length ∧ j < a then l.getD j 0 else 0) := Lib.hid (fun j hj => by rw [hX]; exact shr_get l a b j hj)
    rw [← hX, ← hH] at K2
    clear hX hH
    go_upto_region 12 with (first
      | (go_at_call 32; (with_reducible refine K1.out.mono ?_); rintro e w4 ⟨rfl, g4, S4, C4'⟩; have C4 := Lib.hid C4'; have T4 := Lib.hid (T3.out.grown g4 T3.out.size (fun k e => by cases e; exact HM.out)); have O4 := Lib.hid (World.ownsRow.kept HO3.out g4 (.inr fun e => by have h1 := (World.ownsRow.lt HO3.out m e).1; have := LM.out; omega)); clear g4 C4' K1)
      | (go_at_call 32; (with_reducible refine (K2.out _ _ C4.out).mono ?_); rintro e w5 ⟨rfl, g5, S5, C5'⟩; have C5 := Lib.hid C5'; have T5 := Lib.hid (T4.out.grown g5 T4.out.size (fun k e => by cases e; exact HM.out)); have O5 := Lib.hid (World.ownsRow.kept O4.out g5 (.inr fun e => by have h1 := (World.ownsRow.lt O4.out m e).1; have := LM.out; omega)); clear g5 C5'))
    have KR := Lib.hid (fread_file ⟨q, m, s, bsN F.nat, thN F.nat, 60⟩ (0 + 20 + 20) H _ 2 X 0 1000 w5 C5.out HH2.out)
    have e1 : ((X.drop 0).take 1000) = X := by rw [List.drop_zero]; exact List.take_of_length_le (by have := HXL.out; omega)
    rw [e1, show ((0 : Nat) : Int) = 0 from rfl, show ((1000 : Nat) : Int) = 1000 from rfl] at KR
    clear e1 K2
    go_upto_region 13 with (go_at_call 28; (with_reducible refine KR.out.mono ?_); rintro e w6 ⟨A6, c6, z6, hz6, rfl, P6, b6⟩; obtain rfl : z6 = b := hz6.out.symm.trans HXL.out; have HP6 := Lib.hid P6; have C6 := Lib.hid (C5.out.after b6); have T6 := Lib.hid (T5.out.trans (b6.mono T5.out.size)); have O6 := Lib.hid (show Own 5 w6 B (.slice A3 z3 c3) l from World.ownsRow.kept O5.out (only_of_below b6 none) (by cases (Value.slice A3 z3 c3).ownBlock <;> simp)); clear hz6 P6 b6)
    clear KR C5 T5 O5
    have KG := Lib.hid (fget_some ⟨q, m, s, bsN F.nat, thN F.nat, 60⟩ (0 + 20 + 20) H _ 2 (.file X) w6 C6.out HH2.out)
    unfold FI.ino at KG
    dsimp only at KG
    rw [HXL.out] at KG
    go_upto_region 16 with fail
    go_loopw [70] (fun x wr => ∃ j : Nat, j ≤ z6 ∧ x = .int .i64 (j : Int) ∧ Hid (w6 = wr)) (fun x _ => z6 - (intOf x).toNat)
    case atStart => exact ⟨0, Nat.zero_le _, rfl, Lib.hid rfl⟩
    case round =>
      obtain ⟨j, hj, rfl, hw⟩ := hrel
      obtain rfl := hw.out
      by_cases hlt : j < z6
      · obtain ⟨g6, rfl, c1⟩ := own_at HP6.out (j := j) (by rw [HXL.out]; exact hlt)
        have hx := HXG.out j hlt
        obtain ⟨v, hv⟩ : ∃ v, v = X.getD j 0 := ⟨_, rfl⟩
        rw [← hv] at c1 hx
        clear hv
        by_cases hl : j < z3
        · obtain ⟨g3, rfl, c2⟩ := own_at O6.out (j := j) (by rw [HZ3.out]; exact hl)
          obtain ⟨u, hu⟩ : ∃ u, u = l.getD j 0 := ⟨_, rfl⟩
          rw [← hu] at c2 hx
          by_cases hja : j < a
          · rw [if_pos ⟨by rw [HZ3.out]; exact hl, hja⟩] at hx
            clear hu
            subst hx
            go_wp2_with fail
            exact ⟨⟨j + 1, by omega, by go_num, Lib.hid trivial⟩, by simp [intOf]; omega⟩
          · rw [if_neg (fun h => hja h.2)] at hx
            clear hu
            subst hx
            go_wp2_with fail
            exact ⟨⟨j + 1, by omega, by go_num, Lib.hid trivial⟩, by simp [intOf]; omega⟩
        · rw [if_neg (fun h => hl (by rw [← HZ3.out]; exact h.1))] at hx
          subst hx
          go_wp2_with fail
          exact ⟨⟨j + 1, by omega, by go_num, Lib.hid trivial⟩, by simp [intOf]; omega⟩
      · obtain rfl : j = z6 := by omega
        go_upto_region 25 with (go_at_call 35; (with_reducible refine KG.out.mono ?_); rintro e w7 ⟨A7, c7, rfl, b7⟩; have T7 := Lib.hid ((T6.out.trans (b7.mono T6.out.size)).alloc (T6.out.trans (b7.mono T6.out.size)).size (.cells #[.int .i64 1, .int .i64 (j : Int), .slice A7 0 c7] 66)); have X7 := Lib.hid (Blk.new3c w7 (.int .i64 1) (.int .i64 (j : Int)) (.slice A7 0 c7) 66); clear b7)
        have x1 := X7.out.cell 1
        obtain ⟨W7, hW7⟩ : ∃ W7, W7 = w7.alloc (.cells #[.int .i64 1, .int .i64 (j : Int), .slice A7 0 c7] 66) := ⟨_, rfl⟩
        rw [← hW7] at T7 x1 ⊢
        clear hW7 X7
        have x2 : W7.cell? ⟨w7.heap.size, 1, none⟩ = some (.int .i64 (j : Int)) := x1
        clear x1
        go_wp2_with fail
        go_ret
        exact ⟨rfl, T7.out⟩
  · have h2 := H2.out
    rw [if_neg hsz] at h2
    have KR := Lib.hid (fread_none ⟨q, m, s, bsN F.nat, thN F.nat, 60⟩ 0 F _ 2 0 1000 w2 C2.out h2)
    clear H2 h2
    go_wp2_with (go_at_call 28; (with_reducible refine KR.out.mono ?_); rintro e w3 ⟨rfl, b3⟩; have T3 := Lib.hid (T2.out.trans (b3.mono T2.out.size)); clear b3)
    go_ret
    exact ⟨rfl, T3.out⟩
end Go.Proofs.Ytppodbijdhcclaa

