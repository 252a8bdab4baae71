/- The reference's Has and Set. No condition. -/
import Derived.Test.YtppodbijdhcclaaQLiveHas
namespace Go.Proofs.Ytppodbijdhcclaa
open Go.RowKit
theorem refhas_walk (C : Array Value) (k j x r : Nat) (b : Bool) (w : World) (hk : k < 256) (hi : (k : Int) / 8 = (j : Int)) (h32 : j < 32) (_ : r < 8) (hm : (k : Int) % 8 = (r : Int)) (hx : x < 256)
    (hc : (w.alloc (.cells C 53)).cell? ⟨w.heap.size, j, none⟩ = some (.int .u8 (x : Int)))
    (hb : (((x : Int) / 2 ^ r).tmod 2 == 1) = b) :
    Calls Try.prog 42 #[.agg C, .int .i64 (k : Int)] w fun e w' => e = .returned (.bool b) ∧ w' = w.alloc (.cells C 53) := by
  have HB := Lib.hid hb
  clear hb
  have hj0 : (0 : Int) ≤ (j : Int) := by omega
  have hj1 : (j : Int) < 32 := by omega
  have d1 : ¬ (k : Int) < 0 := by omega
  have d2 : ¬ (255 : Int) < (k : Int) := by omega
  go_enter Try.func42, Try.ntmps42
  go_wp2_with fail
  go_ret
  exact ⟨congrArg Ending.returned (congrArg Value.bool HB.out), rfl⟩
theorem refhas_no (C : Array Value) (z : Int) (w : World) (hz : z < 0 ∨ 255 < z) :
    Calls Try.prog 42 #[.agg C, .int .i64 z] w fun e w' => e = .returned (.bool false) ∧ w' = w.alloc (.cells C 53) := by
  by_cases h : z < 0
  · clear hz
    go_enter Try.func42, Try.ntmps42
    go_wp2_with fail
    go_ret
    exact ⟨rfl, rfl⟩
  · have h2 : 255 < z := by omega
    clear hz
    go_enter Try.func42, Try.ntmps42
    go_wp2_with fail
    go_ret
    exact ⟨rfl, rfl⟩
theorem refbit_byte {L : List UInt8} {k : Nat} : ((((L.getD (k / 8) 0).toNat : Int) / 2 ^ (k % 8)).tmod 2 == 1) = hasB L k := by
  have hr : k % 8 < 8 := Nat.mod_lt _ (by omega)
  have hx := getD_lt L (k / 8)
  have h := shr_bit hx hr
  rw [Nat.shiftRight_eq_div_pow] at h
  have e : ((L.getD (k / 8) 0).toNat : Int) / 2 ^ (k % 8) = (((L.getD (k / 8) 0).toNat / 2 ^ (k % 8) : Nat) : Int) := by push_cast; rfl
  rw [e, Bool.eq_iff_iff, show (hasB L k = true) ↔ _ from h.symm, beq_iff_eq, Int.tmod_eq_emod_of_nonneg (Int.natCast_nonneg _)]
  omega
theorem refhas_any (L : List UInt8) (hL : L.length = 32) (z : Int) (w : World) : Calls Try.prog 42 #[.agg (cl L), .int .i64 z] w fun e w' => e = .returned (.bool (lhas L z)) ∧ Below w.heap.size w w' := by
  have hB : Below w.heap.size w (w.alloc (.cells (cl L) 53)) := (Below.refl w.heap.size w).alloc (Nat.le_refl _) _
  by_cases hz : 0 ≤ z ∧ z < 256
  · obtain ⟨k, rfl⟩ : ∃ k : Nat, z = k := ⟨z.toNat, by omega⟩
    have hk : k < 256 := by omega
    rw [lhas_nat L hk]
    refine (refhas_walk (cl L) k (k / 8) _ (k % 8) _ w hk (by omega) (by omega) (by omega) (by omega) (getD_lt L _) ((LArr.new w hL).byte (by omega)) refbit_byte).mono ?_
    rintro e w' ⟨rfl, rfl⟩
    exact ⟨rfl, hB⟩
  · have e0 : lhas L z = false := by unfold lhas; rw [decide_eq_false hz, Bool.false_and]
    rw [e0]
    refine (refhas_no (cl L) z w (by omega)).mono ?_
    rintro e w' ⟨rfl, rfl⟩
    exact ⟨rfl, hB⟩
end Go.Proofs.Ytppodbijdhcclaa

