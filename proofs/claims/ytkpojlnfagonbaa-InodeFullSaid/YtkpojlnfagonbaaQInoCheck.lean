/- What Check of inode answers; what Key and Chunks answer. No condition but that the entries are there. -/
import Derived.Test.YtkpojlnfagonbaaQInoDir
namespace Go.Proofs.Ytkpojlnfagonbaa
open Go.RowKit Go.Shelf
theorem aggI : ∀ w, (isAgg 24).run Try.prog w = .ok true w := fun _ => by kernel_rfl
theorem sizeI : ∀ w, (sizeOf 24).run Try.prog w = .ok 3 w := fun _ => by kernel_rfl
/-- is it right? -/
def IN.ok (n : IN) : Prop := n.file ∨ n.dir
instance (n : IN) : Decidable n.ok := inferInstanceAs (Decidable (_ ∨ _))
def inA (n : IN) (v : Value) : Value := .agg #[.int .i64 n.k, .int .i64 n.z, v]
set_option maxRecDepth 100000 in
theorem check_any (n : IN) (v : Value) (w : World) (hv : Ents w w.heap.size v n.es) :
    Calls Try.prog 44 #[.agg #[.int .i64 n.k, .int .i64 n.z, v]] w fun e w' => e = .returned (.int .i64 (if n.ok then 0 else 1)) ∧ Below w.heap.size w w' := by
  obtain ⟨A, c, rfl, hc, hm⟩ := hv.shape
  have HB := Lib.hid ((Below.refl w.heap.size w).alloc (Nat.le_refl _) (.cells #[.int .i64 n.k, .int .i64 n.z, .slice A n.es.length c] 24))
  have HV := Lib.hid (hv.after HB.out)
  have B1 : Blk (w.alloc (.cells #[.int .i64 n.k, .int .i64 n.z, .slice A n.es.length c] 24)) w.heap.size 24 [.int .i64 n.k, .int .i64 n.z, .slice A n.es.length c] := heap_alloc_new w _
  have HB1 := Lib.hid B1
  have KF := Lib.hid (rightFile_any n _ _ HV.out)
  obtain ⟨F, hF⟩ : ∃ F, decide n.file = F := ⟨_, rfl⟩
  rw [hF] at KF
  obtain ⟨R, hR⟩ : ∃ R : Int, (if n.ok then 0 else 1) = R := ⟨_, rfl⟩
  rw [hR]
  obtain ⟨W, hW⟩ : ∃ W, W = w.alloc (.cells #[.int .i64 n.k, .int .i64 n.z, .slice A n.es.length c] 24) := ⟨_, rfl⟩
  go_enter Try.func44, Try.ntmps44
  rw [← hW] at HB HV HB1 KF
  clear hv B1
  have HR := Lib.hid hR
  have HF := Lib.hid hF
  clear hR hF
  go_wp2_with fail
  rw [← hW]
  clear hW
  refine KF.out.mono ?_
  rintro e w1 ⟨rfl, h1⟩
  have HB2 := Lib.hid (HB1.out.after h1)
  have HW2 := Lib.hid (HB.out.trans (h1.mono HB.out.size))
  have KD := Lib.hid (rightDir_any n _ _ (HV.out.after h1))
  obtain ⟨D, hD⟩ : ∃ D, decide n.dir = D := ⟨_, rfl⟩
  rw [hD] at KD
  have HD := Lib.hid hD
  clear hD h1 KF HB1 HV
  cases F with
  | true =>
    obtain rfl : R = 0 := by
      rw [← HR.out]
      exact if_pos (.inl (of_decide_eq_true HF.out))
    go_wp2_with fail
    go_ret
    exact ⟨rfl, HW2.out⟩
  | false =>
    go_wp2_with (with_reducible refine wpl_seg_load aggI sizeI (.tmp 1) rfl rfl HB2.out 0 [.int .i64 n.k, .int .i64 n.z, .slice A n.es.length c] rfl rfl rfl ?_)
    refine KD.out.mono ?_
    rintro e w2 ⟨rfl, h2⟩
    cases D with
    | true =>
      obtain rfl : R = 0 := by
        rw [← HR.out]
        exact if_pos (.inr (of_decide_eq_true HD.out))
      go_wp2_with fail
      go_ret
      exact ⟨rfl, HW2.out.trans (h2.mono HW2.out.size)⟩
    | false =>
      obtain rfl : R = 1 := by
        rw [← HR.out]
        exact if_neg (fun h => h.elim (fun h => of_decide_eq_false HF.out h) (fun h => of_decide_eq_false HD.out h))
      go_wp2_with fail
      go_ret
      exact ⟨rfl, HW2.out.trans (h2.mono HW2.out.size)⟩
def keyOf (i c : Int) : Int := if 1 ≤ i ∧ i ≤ 24 ∧ 0 ≤ c ∧ c ≤ 6 then 8 * i + c else -1
def chunksOf (z : Int) : Int := if z ≤ 0 then 0 else (z - 1) / 128 + 1
theorem chunks_any (z : Int) (hz : z ≤ 9223372036854775807) (w : World) : Calls Try.prog 33 #[.int .i64 z] w fun e w' => e = .returned (.int .i64 (chunksOf z)) ∧ w = w' := by
  unfold chunksOf
  by_cases h : z ≤ 0
  · rw [if_pos h]
    go_enter Try.func33, Try.ntmps33
    go_wp2
    go_ret
    exact ⟨rfl, rfl⟩
  · rw [if_neg h]
    go_enter Try.func33, Try.ntmps33
    go_wp2
    go_ret
    exact ⟨by go_num, rfl⟩
end Go.Proofs.Ytkpojlnfagonbaa

