/- Views, plainly: which are right, who is a member, what comes behind. No condition. -/
import Derived.Test.YticigjkaangkmaaQNandAnd
namespace Go.Proofs.Yticigjkaangkmaa
open Go Go.RowKit
/-- a view -/
structure VV where
  n : Nat
  m : Int
  b : Nat
deriving DecidableEq
structure VV.ok (v : VV) : Prop where
  n : v.n < 18446744073709551616
  m : (Lit.int .i64 v.m).wf = true
  b : v.b < 18446744073709551616
def vrow (v : VV) : List Value := [.int .u64 (v.n : Int), .int .i64 v.m, .int .u64 (v.b : Int)]
theorem vrow_one (v : VV) : ∀ x ∈ vrow v, x.oneCell' = true := by simp [vrow, Value.oneCell']
theorem vrow_len (v : VV) : (vrow v).length = 3 := rfl
def VV.zero : VV := ⟨0, 0, 0⟩
def VV.right (v : VV) : Bool := decide (1 ≤ v.n ∧ v.n ≤ 9223372036854775808 ∧ 1 ≤ v.m ∧ v.m ≤ 3)
def VV.has (v : VV) (c : Int) : Bool := (decide (c = 0) && decide (v.m % 2 = 1)) || (decide (c = 1) && decide (v.m / 2 % 2 = 1))
/-- the view behind a view, and the error's number -/
def VV.next (v : VV) (m : Int) (b : Nat) : VV × Int := if v.right = true ∧ v.n ≠ 9223372036854775808 then (⟨v.n + 1, m, b⟩, 0) else (VV.zero, 1)
def VV.shrink (v : VV) (c : Int) (b : Nat) : VV × Int := if v.has c = true then v.next (c + 1) b else (VV.zero, 1)
def VV.grow (v : VV) (b : Nat) : VV × Int := if v.has 0 = true ∧ v.has 1 = true then (VV.zero, 1) else v.next 3 b
theorem nat_and_2 (n : Nat) : n &&& 2 = 2 * (n / 2 % 2) := by
  have h1 : n &&& 2 ≤ 2 := Nat.and_le_right
  have h2 : (n &&& 2) % 2 ^ 2 = (n % 2 ^ 2) &&& (2 % 2 ^ 2) := Nat.and_mod_two_pow
  rw [Nat.mod_eq_of_lt (show n &&& 2 < 2 ^ 2 by omega)] at h2
  rw [h2]
  have h3 : n % 2 ^ 2 = 0 ∨ n % 2 ^ 2 = 1 ∨ n % 2 ^ 2 = 2 ∨ n % 2 ^ 2 = 3 := by omega
  rcases h3 with h | h | h | h <;> rw [h]
  · show (0 : Nat) = _; omega
  · show (0 : Nat) = _; omega
  · show (2 : Nat) = _; omega
  · show (2 : Nat) = _; omega
theorem and_2 (z : Int) : bits .and .i64 z 2 = 2 * (z / 2 % 2) := by
  have e : (BitVec.ofInt 64 z &&& BitVec.ofInt 64 2).toNat = 2 * ((z % 18446744073709551616).toNat / 2 % 2) := by
    rw [BitVec.toNat_and, show (BitVec.ofInt 64 2).toNat = 2 by decide, nat_and_2, BitVec.toNat_ofInt]
    rfl
  unfold bits
  show IntKind.i64.wrap ((BitVec.ofInt 64 z &&& BitVec.ofInt 64 2).toNat : Int) = _
  rw [e, IntKind.wrap_i64]
  omega
theorem has_zero (v : VV) : v.has 0 = decide (v.m % 2 = 1) := by simp [VV.has]
theorem has_one (v : VV) : v.has 1 = decide (v.m / 2 % 2 = 1) := by simp [VV.has]
theorem has_else (v : VV) {c : Int} (h0 : c ≠ 0) (h1 : c ≠ 1) : v.has c = false := by simp [VV.has, h0, h1]
theorem has_chip {v : VV} {c : Int} (h : v.has c = true) : c = 0 ∨ c = 1 := by
  by_cases h0 : c = 0
  · exact .inl h0
  · by_cases h1 : c = 1
    · exact .inr h1
    · rw [has_else v h0 h1] at h; cases h
end Go.Proofs.Yticigjkaangkmaa

