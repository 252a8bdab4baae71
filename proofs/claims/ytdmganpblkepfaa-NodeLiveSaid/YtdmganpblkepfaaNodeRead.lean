/- The contracts of node's Read, and of the document's Read. No condition but that the bytes are there. -/
import Derived.Test.YtdmganpblkepfaaNodeRef
import Derived.Test.YtdmganpblkepfaaPackBack
import Derived.Test.YtdmganpblkepfaaSeg
namespace Go.Proofs.Ytdmganpblkepfaa
open Go.RowKit
def nkey (l : List UInt8) : Nat := le (l.take 1)
def nepoch (l : List UInt8) : Nat := le ((l.drop 1).take 8)
theorem nkey_lt (l : List UInt8) : nkey l < 256 := by
  have h := le_lt (l.take 1)
  have h2 : 256 ^ (l.take 1).length ≤ 256 ^ 1 := Nat.pow_le_pow_right (by omega) (by rw [List.length_take]; omega)
  unfold nkey
  omega
theorem nepoch_lt (l : List UInt8) : nepoch l < 18446744073709551616 := by
  have h := le_lt ((l.drop 1).take 8)
  have h2 : 256 ^ ((l.drop 1).take 8).length ≤ 256 ^ 8 := Nat.pow_le_pow_right (by omega) (by rw [List.length_take]; omega)
  unfold nepoch
  omega
theorem numB_le (l : List UInt8) : numB l.length (le l) = l := by
  induction l with
  | nil => rfl
  | cons b l ih =>
    have h1 : (b.toNat + 256 * le l) / 256 = le l := by
      have := b.toNat_lt
      omega
    have h2 : UInt8.ofNat (b.toNat + 256 * le l) = b := by
      apply UInt8.toNat_inj.1
      rw [UInt8.toNat_ofNat']
      have := b.toNat_lt
      omega
    simp only [List.length_cons, le, numB, h1, h2, ih]
/-- what was read is written as the same bytes -/
theorem nb_read (l : List UInt8) (h : 9 ≤ l.length) : nb (nkey l) (nepoch l) (l.drop 9) = l := by
  unfold nb nkey nepoch
  have h1 := numB_le (l.take 1)
  have h2 := numB_le ((l.drop 1).take 8)
  rw [List.length_take, show min 1 l.length = 1 by omega] at h1
  rw [List.length_take, List.length_drop, show min 8 (l.length - 1) = 8 by omega] at h2
  rw [h1, h2]
  have e : l.drop 9 = (l.drop 1).drop 8 := by rw [List.drop_drop]
  rw [e, List.take_append_drop, List.take_append_drop]
/-- .. and what was written is read as it was -/
theorem read_nb (k e : Nat) (l : List UInt8) (hk : k < 256) (he : e < 18446744073709551616) : nkey (nb k e l) = k ∧ nepoch (nb k e l) = e ∧ (nb k e l).drop 9 = l := by
  have t1 : (nb k e l).take 1 = numB 1 k := by unfold nb; rw [List.take_append_of_le_length (by rw [numB_length]; omega), List.take_of_length_le (by rw [numB_length]; omega)]
  have d1 : (nb k e l).drop 1 = numB 8 e ++ l := by unfold nb; rw [List.drop_append_of_le_length (by rw [numB_length]; omega), List.drop_of_length_le (by rw [numB_length]; omega), List.nil_append]
  refine ⟨?_, ?_, ?_⟩
  · unfold nkey; rw [t1, le_numB]; omega
  · unfold nepoch; rw [d1, List.take_append_of_le_length (by rw [numB_length]; omega), List.take_of_length_le (by rw [numB_length]; omega), le_numB]; omega
  · rw [show 9 = 1 + 8 by rfl, ← List.drop_drop, d1, List.drop_append_of_le_length (by rw [numB_length]; omega), List.drop_of_length_le (by rw [numB_length]; omega), List.nil_append]
theorem aggNode : ∀ w, (isAgg 25).run Try.prog w = .ok true w := fun _ => by kernel_rfl
theorem sizeNode : ∀ w, (sizeOf 25).run Try.prog w = .ok 3 w := fun _ => by kernel_rfl
/-- two results: a node, and another one -/
theorem nret2 {fn : Func} {p u : Tmp} {w : World} {g : Nat} {vs : List Value} (h : fn.results = #[.cell p 25, .tmp u]) (tmps : Array Value) (hB : Blk w g 25 vs) (hn : vs.length = 3) (hp : tmps.getD p undef = .pointer (some ⟨g, 0, none⟩)) :
    (results fn tmps).run Try.prog w = .ok (.tuple #[.agg vs.toArray, tmps.getD u undef]) w :=
  sret2 aggNode sizeNode h tmps hB (by rw [List.drop_zero, List.take_of_length_le (by omega)]) hn hp
theorem nread_no (v : Value) (l : List UInt8) (w : World) (hv : Bytes w w.heap.size v l) (h : l.length < 9 ∨ 233 < l.length) :
    Calls Try.prog 16 #[v] w fun x w' => x = .returned (.tuple #[.agg #[.int .i64 0, .int .u64 0, .slice none 0 0], .int .i64 11]) ∧ Below w.heap.size w w' := by
  obtain ⟨A, c, rfl, hc, hm, hr⟩ := hv
  unfold maxLen at hm
  clear hr
  have b1 := Lib.hid ((Below.refl w.heap.size w).alloc (Nat.le_refl _) (.cells #[.int .i64 0, .int .u64 0, .slice none 0 0] 25))
  have B1 : Blk (w.alloc (.cells #[.int .i64 0, .int .u64 0, .slice none 0 0] 25)) w.heap.size 25 [.int .i64 0, .int .u64 0, .slice none 0 0] := heap_alloc_new w _
  by_cases hk : l.length < 9
  · have d1 : decide ((l.length : Int) < 9) = true := by simp; omega
    go_enter Try.func16, Try.ntmps16
    go_wp2
    exact bodyPost_ret (nret2 rfl _ B1 rfl rfl) rfl ⟨rfl, b1.out⟩
  · have d1 : decide ((l.length : Int) < 9) = false := by simp; omega
    have d2 : decide ((233 : Int) < (l.length : Int)) = true := by simp; omega
    go_enter Try.func16, Try.ntmps16
    go_wp2
    exact bodyPost_ret (nret2 rfl _ B1 rfl rfl) rfl ⟨rfl, b1.out⟩
theorem nrefread_no (v : Value) (l : List UInt8) (w : World) (hv : Bytes w w.heap.size v l) (h : l.length < 9 ∨ 233 < l.length) :
    Calls Try.prog 17 #[v] w fun x w' => x = .returned (.tuple #[.agg #[.int .i64 0, .int .u64 0, .slice none 0 0], .int .i64 11]) ∧ Below w.heap.size w w' := by
  obtain ⟨A, c, rfl, hc, hm, hr⟩ := hv
  unfold maxLen at hm
  clear hr
  have b1 := Lib.hid ((Below.refl w.heap.size w).alloc (Nat.le_refl _) (.cells #[.int .i64 0, .int .u64 0, .slice none 0 0] 25))
  have B1 : Blk (w.alloc (.cells #[.int .i64 0, .int .u64 0, .slice none 0 0] 25)) w.heap.size 25 [.int .i64 0, .int .u64 0, .slice none 0 0] := heap_alloc_new w _
  by_cases hk : l.length < 9
  · have d1 : decide ((l.length : Int) < 9) = true := by simp; omega
    go_enter Try.func17, Try.ntmps17
    go_wp2
    exact bodyPost_ret (nret2 rfl _ B1 rfl rfl) rfl ⟨rfl, b1.out⟩
  · have d1 : decide ((l.length : Int) < 9) = false := by simp; omega
    have d2 : decide ((233 : Int) < (l.length : Int)) = true := by simp; omega
    go_enter Try.func17, Try.ntmps17
    go_wp2
    exact bodyPost_ret (nret2 rfl _ B1 rfl rfl) rfl ⟨rfl, b1.out⟩
set_option maxRecDepth 100000 in
set_option maxHeartbeats 2000000 in
theorem nread_yes (v : Value) (l : List UInt8) (w : World) (hv : Bytes w w.heap.size v l) (h1 : 9 ≤ l.length) (h2 : l.length ≤ 233) :
    Calls Try.prog 16 #[v] w fun x w' => ∃ g n c, x = .returned (.tuple #[.agg #[.int .i64 (nkey l : Int), .int .u64 (nepoch l : Int), .slice (some ⟨g, 0, none⟩) n c], .int .i64 0]) ∧ Own 5 w' w.heap.size (.slice (some ⟨g, 0, none⟩) n c) (l.drop 9) ∧ Below w.heap.size w w' := by
  obtain ⟨A, c, rfl, hc, hm, hr⟩ := id hv
  have HV := Lib.hid hv
  unfold maxLen at hm
  clear hr hv
  have b1 := Lib.hid ((Below.refl w.heap.size w).alloc (Nat.le_refl _) (.cells #[.int .i64 0, .int .u64 0, .slice none 0 0] 25))
  have B1 : Blk (w.alloc (.cells #[.int .i64 0, .int .u64 0, .slice none 0 0] 25)) w.heap.size 25 [.int .i64 0, .int .u64 0, .slice none 0 0] := heap_alloc_new w _
  have HB1 := Lib.hid B1
  have V1 := Lib.hid ((HV.out.below b1.out).more b1.out.size)
  have hk1 := nkey_lt l
  have he1 := nepoch_lt l
  have HK1 := Lib.hid hk1
  have d1 : decide ((l.length : Int) < 9) = false := by simp; omega
  have d2 : decide ((233 : Int) < (l.length : Int)) = false := by simp; omega
  clear B1 he1
  go_enter Try.func16, Try.ntmps16
  go_wp2_with fail
  ((with_reducible refine (newreader_any _ _ _ V1.out (by omega)).mono ?_); rintro e w2 ⟨g, h, rfl, hrd, hg, hh, hh2, hb2⟩)
  have T2 := Lib.hid (b1.out.trans (hb2.mono b1.out.size))
  have B2 := Lib.hid (HB1.out.after hb2)
  have R2 := Lib.hid hrd
  have G2 := Lib.hid hg
  have K2 := Lib.hid hh2
  clear hrd hg hh hh2 hb2
  obtain ⟨kk, hkk⟩ : ∃ kk, kk = nkey l := ⟨_, rfl⟩
  obtain ⟨ee, hee⟩ : ∃ ee, ee = nepoch l := ⟨_, rfl⟩
  obtain ⟨r1, hr1⟩ : ∃ r1, r1 = l.drop 1 := ⟨_, rfl⟩
  obtain ⟨r9, hr9⟩ : ∃ r9, r9 = l.drop 9 := ⟨_, rfl⟩
  obtain ⟨m, hm9⟩ : ∃ m, m = r9.length := ⟨_, rfl⟩
  have n1 := rnum_yes g h l false 1 w2 R2.out (by show (1 : Nat) ≤ _; omega)
  rw [show wid 1 = 1 by decide, show le (l.take 1) = kk by rw [hkk]; rfl, ← hr1] at n1
  have N2 : Hid (∀ w, Rd w g h r1 false → Calls Try.prog 37 #[.pointer (some ⟨g, 0, none⟩), .int .i64 8] w fun e w' => e = .returned (.int .u64 (ee : Int)) ∧ Rd w' g h r9 false ∧ w.grownBy w' (some g)) := Lib.hid fun w hrd => by
    have n2 := rnum_yes g h r1 false 8 w hrd (by show 8 ≤ _; rw [hr1, List.length_drop]; omega)
    rw [show wid 8 = 8 by decide, show le (r1.take 8) = ee by rw [hee, hr1]; rfl, show r1.drop 8 = r9 by rw [hr1, hr9, List.drop_drop]] at n2
    exact n2
  have L9 : Hid (∀ w, Rd w g h r9 false → Calls Try.prog 39 #[.pointer (some ⟨g, 0, none⟩)] w fun e w' => e = .returned (.int .i64 (m : Int)) ∧ w = w') := Lib.hid fun w hrd => by
    rw [hm9]
    exact left_any g h r9 false w hrd
  have Y9 : Hid (∀ w, Rd w g h r9 false → h < w.heap.size → Calls Try.prog 38 #[.pointer (some ⟨g, 0, none⟩), .int .i64 (m : Int)] w fun e w' => ∃ g' c', e = .returned (.slice (some ⟨g', 0, none⟩) m c') ∧ w.heap.size ≤ g' ∧ Own 5 w' w.heap.size (.slice (some ⟨g', 0, none⟩) m c') r9 ∧ Rd w' g h [] false ∧ w.grownBy w' (some g)) := Lib.hid fun w hrd hh => by
    rw [hm9]
    exact rbytes_back g h r9 [] w (by rw [List.append_nil]; exact hrd) hh (by rw [List.append_nil, hr9, List.length_drop]; omega)
  rw [← hkk] at hk1
  have hk2 : (kk : Int) < 256 := by omega
  have HR9 := Lib.hid hr9
  have HKK := Lib.hid hkk
  have HEE := Lib.hid hee
  clear hr1 hr9 hm9 hkk hee HK1
  go_wp2_with fail
  ((with_reducible refine n1.mono ?_); rintro e w3 ⟨rfl, r3, g3⟩)
  have n2 := N2.out w3 r3
  have T3 := Lib.hid (Below.only T2.out g3 T2.out.size (by have := G2.out; have := b1.out.size; omega))
  have B3 := Lib.hid (B2.out.grown g3 (by have := G2.out; simp at this; simp; omega))
  have K3 := Lib.hid (Nat.lt_of_lt_of_le K2.out g3.size)
  clear r3 g3 n1 T2 B2 K2
  go_wp2_with fail
  ((with_reducible refine n2.mono ?_); rintro e w4 ⟨rfl, r4, g4⟩)
  have T4 := Lib.hid (Below.only T3.out g4 T3.out.size (by have := G2.out; have := b1.out.size; omega))
  have B4 := Lib.hid (B3.out.grown g4 (by have := G2.out; simp at this; simp; omega))
  have R4 := Lib.hid r4
  have HRB := Lib.hid (Y9.out w4 r4 (Nat.lt_of_lt_of_le K3.out g4.size))
  clear r4 g4 n2 T3 B3 K3 N2 Y9
  go_wp2_with fail
  ((with_reducible refine (L9.out w4 R4.out).mono ?_); rintro e w' ⟨rfl, hw⟩; rw [← hw]; clear hw w')
  go_wp2_with fail
  ((with_reducible refine HRB.out.mono ?_); rintro e w5 ⟨g5, c5, rfl, hg5, O5, r5, k5⟩)
  have T5 := Lib.hid (Below.only T4.out k5 T4.out.size (by have := G2.out; have := b1.out.size; omega))
  have B5 := Lib.hid (B4.out.grown k5 (by have := G2.out; simp at this; simp; omega))
  have Q5 := Lib.hid (O5.lower T4.out.size)
  have hne := Lib.hid (show w.heap.size ≠ g5 by have := HB1.out.lt; have := T4.out.size; have := b1.out.size; have := B4.out.lt; omega)
  clear O5 r5 k5 hg5 HRB R4 L9
  have h1x : ∀ v ∈ [Value.int .i64 (kk : Int), .int .u64 (ee : Int), .slice (some ⟨g5, 0, none⟩) m c5], v.oneCell' = true := by simp [Value.oneCell']
  go_wp2_with (with_reducible refine wpl_seg_store sizeNode (.tmp 2) (.tmp 29) rfl rfl B5.out 0 [.int .i64 (kk : Int), .int .u64 (ee : Int), .slice (some ⟨g5, 0, none⟩) m c5] rfl (Nat.le_refl _) h1x rfl rfl _ rfl ?_; intro w6 B6 g6 e6)
  refine bodyPost_ret (nret2 rfl _ B6 rfl rfl) rfl ?_
  rw [← HKK.out, ← HEE.out, ← HR9.out]
  refine ⟨g5, m, c5, ?_, ?_, ?_⟩
  · rfl
  · exact Q5.out.kept g6 (.inr (by show some g5 ≠ some w.heap.size; intro e; injection e with e; exact hne.out e.symm))
  · exact T5.out.grown g6 T5.out.size (fun k e => by cases e; exact Nat.le_refl _)
end Go.Proofs.Ytdmganpblkepfaa
