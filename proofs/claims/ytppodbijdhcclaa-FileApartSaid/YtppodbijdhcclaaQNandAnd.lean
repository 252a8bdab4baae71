/- An integer's low bits. No condition. -/
import Derived.Laws.BitsAll
import Derived.Test.YtppodbijdhcclaaQCore
namespace Go.Proofs.Ytppodbijdhcclaa
open Go Go.RowKit
theorem and_low (z : Int) (k m : Nat) (hk : (BitVec.ofInt 64 (m : Int)).toNat = 2 ^ k - 1) (h : 2 ^ k ≤ 4294967296) : bits .and .i64 z (m : Int) = ((z % 18446744073709551616).toNat % 2 ^ k : Nat) := by
  have e : (BitVec.ofInt 64 z &&& BitVec.ofInt 64 (m : Int)).toNat = (z % 18446744073709551616).toNat % 2 ^ k := by
    rw [BitVec.toNat_and, hk, Nat.and_two_pow_sub_one_eq_mod, BitVec.toNat_ofInt]
    rfl
  unfold bits
  show IntKind.i64.wrap ((BitVec.ofInt 64 z &&& BitVec.ofInt 64 (m : Int)).toNat : Int) = _
  rw [e, IntKind.wrap_i64]
  have := Nat.mod_lt (z % 18446744073709551616).toNat (Nat.two_pow_pos k)
  omega
theorem and_31 (z : Int) : bits .and .i64 z 31 = z % 32 := by
  have := and_low z 5 31 rfl (by omega)
  rw [show ((31 : Nat) : Int) = 31 from rfl] at this
  rw [this]
  omega
theorem and_1 (z : Int) : bits .and .i64 z 1 = z % 2 := by
  have := and_low z 1 1 rfl (by omega)
  rw [show ((1 : Nat) : Int) = 1 from rfl] at this
  rw [this]
  omega
theorem and_3 (z : Int) : bits .and .i64 z 3 = z % 4 := by
  have := and_low z 2 3 rfl (by omega)
  rw [show ((3 : Nat) : Int) = 3 from rfl] at this
  rw [this]
  omega
theorem and_127 (z : Int) : bits .and .i64 z 127 = z % 128 := by
  have := and_low z 7 127 rfl (by omega)
  rw [show ((127 : Nat) : Int) = 127 from rfl] at this
  rw [this]
  omega
end Go.Proofs.Ytppodbijdhcclaa

