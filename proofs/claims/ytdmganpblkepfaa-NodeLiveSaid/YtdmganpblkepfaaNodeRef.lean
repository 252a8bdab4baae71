/- The contracts of the document's answers of layer 9: Write, Read, Same. No condition but that what is read is there. -/
import Derived.Test.YtdmganpblkepfaaNode
import Derived.Test.YtdmganpblkepfaaPackEye
namespace Go.Proofs.Ytdmganpblkepfaa
open Go.RowKit
theorem nrefwrite_no (k : Int) (e : Nat) (v : Value) (l : List UInt8) (w : World) (hv : Bytes w w.heap.size v l) (h : (k < 0 ∨ 255 < k) ∨ 224 < l.length) :
    Calls Try.prog 14 #[.agg #[.int .i64 k, .int .u64 (e : Int), v]] w fun x w' => ∃ g, x = .returned (.tuple #[.slice (some ⟨g, 0, none⟩) 0 0, .int .i64 1]) ∧ Below w.heap.size w w' := by
  obtain ⟨A, c, rfl, hc, hm, hr⟩ := hv
  unfold maxLen at hm
  have b1 := (Below.refl w.heap.size w).alloc (Nat.le_refl _) (.cells #[.int .i64 k, .int .u64 (e : Int), .slice A l.length c] 25)
  have b2 := Lib.hid (b1.alloc b1.size (.cells #[] 5))
  clear hr b1
  by_cases hk : k < 0
  · go_enter Try.func14, Try.ntmps14
    go_wp2
    go_ret2
    first | exact ⟨_, rfl, b2.out⟩ | exact ⟨⟨_, rfl⟩, b2.out⟩
  · have hk0 : 0 ≤ k := by omega
    by_cases hk2 : 255 < k
    · go_enter Try.func14, Try.ntmps14
      go_wp2
      go_ret2
      first | exact ⟨_, rfl, b2.out⟩ | exact ⟨⟨_, rfl⟩, b2.out⟩
    · have hl : 224 < l.length := by omega
      have d1 : decide ((224 : Int) < (l.length : Int)) = true := by simp; omega
      go_enter Try.func14, Try.ntmps14
      go_wp2
      go_ret2
      first | exact ⟨_, rfl, b2.out⟩ | exact ⟨⟨_, rfl⟩, b2.out⟩
/-- a slice of one byte, just built -/
theorem lit1 (W : World) (base k : Nat) (hk : k < 256) (hb : base ≤ W.heap.size) : Own 5 (W.alloc (.cells #[.int .u8 (k : Int)] 5)) base (.slice (some ⟨W.heap.size, 0, none⟩) 1 1) (numB 1 k) := by
  have h : (W.alloc (.cells #[.int .u8 (k : Int)] 5)).ownsRow base 5 1 (.slice (some ⟨W.heap.size, 0, none⟩) 1 1) 1 [.int .u8 (k : Int)] := World.ownsRow_lit W #[.int .u8 (k : Int)] 1 hb (by simp [maxLen]) rfl
  have e : bv (numB 1 k) = [.int .u8 (k : Int)] := by
    simp only [bv, numB, List.map_cons, List.map_nil, UInt8.toNat_ofNat', List.cons.injEq, and_true, Value.int.injEq, true_and]
    omega
  unfold Own
  rw [e]
  exact h
set_option maxHeartbeats 2000000 in
theorem nrefwrite_yes (k e : Nat) (v : Value) (l : List UInt8) (w : World) (hk : k < 256) (he : e < 18446744073709551616) (hv : Bytes w w.heap.size v l) (hl : l.length ≤ 224) :
    Calls Try.prog 14 #[.agg #[.int .i64 (k : Int), .int .u64 (e : Int), v]] w fun x w' => ∃ A c, x = .returned (.tuple #[.slice A (9 + l.length) c, .int .i64 0]) ∧ Own 5 w' w.heap.size (.slice A (9 + l.length) c) (nb k e l) ∧ Below w.heap.size w w' := by
  obtain ⟨A, c, rfl, hc, hm, hr⟩ := id hv
  have HV := Lib.hid hv
  clear hv hr
  have b1 := Lib.hid ((Below.refl w.heap.size w).alloc (Nat.le_refl _) (.cells #[.int .i64 (k : Int), .int .u64 (e : Int), .slice A l.length c] 25))
  have B1 : Blk (w.alloc (.cells #[.int .i64 (k : Int), .int .u64 (e : Int), .slice A l.length c] 25)) w.heap.size 25 [.int .i64 (k : Int), .int .u64 (e : Int), .slice A l.length c] := heap_alloc_new w _
  have hgW0 := Lib.hid B1.lt
  have c0 := B1.cell 0
  have c1 := B1.cell 1
  have c2 := B1.cell 2
  simp only [List.getElem?_cons_zero, List.getElem?_cons_succ] at c0 c1 c2
  have HV1 := Lib.hid ((HV.out.below b1.out).more b1.out.size)
  have d1 : decide ((224 : Int) < (l.length : Int)) = false := by simp; omega
  have HE := Lib.hid he
  have hkk : IntKind.u8.wrap (k : Int) = (k : Int) := by rw [IntKind.wrap_u8]; omega
  have k2 : ∀ w : World, Calls Try.prog 19 #[.int .i64 8, .int .u64 (e : Int)] w fun x w' => ∃ A c, x = .returned (.slice A 8 c) ∧ Own 5 w' w.heap.size (.slice A 8 c) (numB 8 e) ∧ Below w.heap.size w w' := fun w => refnum_any 8 e HE.out w
  obtain ⟨g, hg⟩ : ∃ g, g = w.heap.size := ⟨_, rfl⟩
  rw [← hg] at c0 c1 c2 hgW0
  have hk1 : ¬ ((k : Int) < 0) := by omega
  have hk2 : ¬ (255 < (k : Int)) := by omega
  clear B1 he
  go_enter Try.func14, Try.ntmps14
  go_wp2
  rw [← hg]
  clear hg hk1 hk2
  obtain ⟨W, hW⟩ : ∃ W, W = w.alloc (.cells #[.int .i64 (k : Int), .int .u64 (e : Int), .slice A l.length c] 25) := ⟨_, rfl⟩
  rw [← hW] at b1 c0 c1 c2 HV1 hgW0 ⊢
  clear hW
  have KS : Hid (∀ w', Below W.heap.size W w' → w'.cell? ⟨g, 0, none⟩ = some (.int .i64 (k : Int)) ∧ w'.cell? ⟨g, 1, none⟩ = some (.int .u64 (e : Int)) ∧ w'.cell? ⟨g, 2, none⟩ = some (.slice A l.length c)) := Lib.hid fun w' h => ⟨(h.cell (p := ⟨g, 0, none⟩) hgW0.out).trans c0, (h.cell (p := ⟨g, 1, none⟩) hgW0.out).trans c1, (h.cell (p := ⟨g, 2, none⟩) hgW0.out).trans c2⟩
  have T1 : Hid (Below W.heap.size W (W.alloc (.cells #[.int .u8 (k : Int)] 5)).drew) := Lib.hid ((Below.refl W.heap.size W).alloc (Nat.le_refl _) _).drew
  have T0 := Lib.hid (Below.refl W.heap.size W).drew
  have O0 : Hid (Own 5 (W.alloc (.cells #[.int .u8 (k : Int)] 5)).drew W.heap.size (.slice (some ⟨W.heap.size, 0, none⟩) 1 1) (numB 1 k)) := Lib.hid (lit1 W W.heap.size k hk (Nat.le_refl _))
  go_region_held3 (fun w' => w'.cell? ⟨g, 0, none⟩ = some (.int .i64 (k : Int)) ∧ w'.cell? ⟨g, 1, none⟩ = some (.int .u64 (e : Int)) ∧ w'.cell? ⟨g, 2, none⟩ = some (.slice A l.length c))
    (first | go_keep | (exact KS.out _ T4.out) | (exact KS.out _ T3.out) | (exact KS.out _ T2.out) | (exact KS.out _ T2b.out) | (exact KS.out _ T1.out) | (exact KS.out _ T0.out))
    (first
      | (go_at_call 19; (with_reducible refine (k2 _).mono ?_); rintro x w2 ⟨A1, n1, rfl, O1, h1⟩; have P1 := Lib.hid (O1.bytes (by rw [numB_length]; simp [maxLen])); have T2 := Lib.hid (T1.out.trans (h1.mono T1.out.size)); have Q2 := Lib.hid (O0.out.below h1); have Z2 := Lib.hid T2.out.size; have V2 := Lib.hid ((HV1.out.below T2.out).more T2.out.size); clear O1 h1)
      | (go_at_call 19; (with_reducible refine (k2 _).mono ?_); rintro x w2 ⟨A1, n1, rfl, O1, h1⟩; have P0 := Lib.hid (O1.bytes (by rw [numB_length]; simp [maxLen])); have T2b := Lib.hid (T0.out.trans (h1.mono T0.out.size)); have P1 := Lib.hid (P0.out.alloc (Nat.le_refl _) (.cells #[.int .u8 (k : Int)] 5)); have T2 := Lib.hid (T2b.out.alloc T2b.out.size (.cells #[.int .u8 (k : Int)] 5)); have Q2 := Lib.hid (lit1 w2 W.heap.size k hk T2b.out.size); have Z2 := Lib.hid T2.out.size; have V2 := Lib.hid ((HV1.out.below T2.out).more T2.out.size); clear O1 h1)
      | (revert Q2 P1 T2 Z2 V2; intro P1 T2 Q2 Z2 V2; refine step_append_bytes byteTys (by rfl) (.tmp 22) (.tmp 25) (by rfl) (by rfl) Q2.out _ _ _ (by rfl) P1.out (by rw [numB_length, numB_length]; omega) Z2.out 9 (by rw [numB_length, numB_length]) ?_; intro A3 c3 w3 O3 g3; have T3 := Lib.hid (T2.out.trans g3); have Q3 := Lib.hid O3; have Z3 := Lib.hid T3.out.size; have V3 := Lib.hid ((HV1.out.below T3.out).more T3.out.size); clear O3 g3)
      | (revert Q3 T3 Z3 V3; intro T3 Q3 Z3 V3; refine step_append_bytes byteTys (by rfl) (.tmp 26) (.tmp 28) (by rfl) (by rfl) Q3.out _ _ _ (by rfl) V3.out (by rw [List.length_append, numB_length, numB_length]; omega) Z3.out (9 + l.length) (by rw [List.length_append, numB_length, numB_length]) ?_; intro A4 c4 w4 O4 g4; have T4 := Lib.hid (T3.out.trans g4); have Q4 := Lib.hid O4; clear O4 g4))
  all_goals
    rw [List.append_assoc] at Q4
    go_wp2
    go_ret2
    exact ⟨_, _, rfl, Q4.out.lower b1.out.size, b1.out.trans (T4.out.mono b1.out.size)⟩
end Go.Proofs.Ytdmganpblkepfaa
