/- The contract of the reference's bit: the data bit i; nothing that was there is changed. -/
import Derived.Test.YtnclefdlmbkjmaaDoorHamBits
import Derived.Test.YtnclefdlmbkjmaaDoorHamArr
namespace Go.Proofs.YtnclefdlmbkjmaaDoor
open Go.RowKit
theorem byte_at (L : List UInt8) (hL : L.length = 256) {k : Nat} (hk : k < 256) : ∃ b : Nat, b < 256 ∧ (cl L)[k]? = some (.int .u8 (b : Int)) ∧ Hid (b = (L.getD k 0).toNat) := by
  have h := cl_get (l := L) (k := k) (by omega)
  refine ⟨_, L[k].toNat_lt, h, Lib.hid ?_⟩
  rw [List.getD_eq_getElem?_getD, List.getElem?_eq_getElem (by omega), Option.getD_some]
theorem index_at {L : List UInt8} {k : Nat} {v : Value} (hk : k < 256) (hc : (cl L)[k]? = some v) (w : World) : (Instr.index 45 (.agg (cl L)) (.int .i64 (k : Int))).run Tryd.prog w = .ok v w := by
  have h1 : (isAgg 5).run Tryd.prog w = .ok false w := by kernel_rfl
  have h2 : (sizeOf 5).run Tryd.prog w = .ok 1 w := by kernel_rfl
  have h3 : ((0 : Int) ≤ (k : Int) ∧ (k : Int) < ((256 : Nat) : Int)) := by omega
  simp only [Instr.index, asIntOf, Sem.run_bind, Sem.run_pure, Result.andThen_ok, run_underlying Tryd.underlying45]
  rw [if_pos h3]
  simp only [part, Sem.run_bind, h1, h2, Result.andThen_ok, Int.toNat_natCast, Nat.mul_one, hc, Bool.false_eq_true, if_false, Sem.run_pure]
theorem bit_any (L : List UInt8) (hL : L.length = 256) (i : Nat) (hi : i < 2048) (w : World) : Calls Tryd.prog 35 #[.agg (cl L), .int .i64 (i : Int)] w fun e w' => e = .returned (.int .i64 ((HM.bt L i : Nat) : Int)) ∧ Below w.heap.size w w' := by
  obtain ⟨b, hb, hc, HB⟩ := byte_at L hL (k := i / 8) (by omega)
  go_enter Tryd.func35, Tryd.ntmps35
  go_wp2
  go_ret
  refine ⟨congrArg Ending.returned (congrArg (Value.int IntKind.i64) ?_), (Below.refl _ _).alloc (Nat.le_refl _) _⟩
  unfold HM.bt
  rw [and1, ← HB.out]
  push_cast
  rfl
end Go.Proofs.YtnclefdlmbkjmaaDoor
