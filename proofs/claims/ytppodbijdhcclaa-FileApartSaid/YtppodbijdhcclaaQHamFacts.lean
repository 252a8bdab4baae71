/- Plain facts on numbers, each reckoned at all of them: the places, the powers of two, the bits of a byte. No program, no condition. -/
import Derived.Lib.BitFns
namespace Go.Proofs.Ytppodbijdhcclaa.HM
open Go

/-- the place of the data bit i -/
def pl (i : Nat) : Nat := (i + 1) + Lib.bitLen ((i + 1) + Lib.bitLen (i + 1))
/-- how many of the k lowest bits of x are 1 -/
def popT (x : Nat) : Nat → Nat
  | 0 => 0
  | k + 1 => popT x k + x / 2 ^ k % 2
/-- is n a power of two: by halving, at most f times -/
def pwF : Nat → Nat → Bool
  | 0, n => n == 1
  | f + 1, n => if 1 < n ∧ n % 2 = 0 then pwF f (n / 2) else n == 1
def pw (n : Nat) : Bool := pwF 64 n
/-- how the difference changes when the bit x is turned -/
def so (x : Nat) : Nat := if x < 2048 then pl x else 2 ^ (x - 2048) % 4096
/-- which bit was turned, by the difference -/
def inv (s : Nat) : Nat := if s = 0 then 2060 else if s &&& (s - 1) = 0 then 2047 + Lib.bitLen s else s - Lib.bitLen s - 1

theorem pl_facts : ∀ i : Fin 2048, (pl i.val < 4096 ∧ 3 ≤ pl i.val ∧ pl i.val ≤ 2060) ∧ pl i.val &&& (pl i.val - 1) ≠ 0 ∧ pl i.val - Lib.bitLen (pl i.val) - 1 = i.val := by decide +kernel
theorem of_pl : ∀ s : Fin 2061, s.val &&& (s.val - 1) ≠ 0 → pl (s.val - Lib.bitLen s.val - 1) = s.val ∧ s.val - Lib.bitLen s.val - 1 < 2048 ∧ Lib.bitLen s.val + 1 ≤ s.val := by decide +kernel
theorem pl_lt {i : Nat} (h : i < 2048) : pl i < 4096 := (pl_facts ⟨i, h⟩).1.1

theorem pw_and1 : ∀ s : Fin 2048, (s.val &&& (s.val - 1) = 0) ↔ (s.val = 0 ∨ pw s.val = true) := by decide +kernel
theorem pw_and2 : ∀ s : Fin 2048, ((2048 + s.val) &&& ((2048 + s.val) - 1) = 0) ↔ ((2048 + s.val) = 0 ∨ pw (2048 + s.val) = true) := by decide +kernel
theorem pw_and {s : Nat} (h : s < 4096) : (s &&& (s - 1) = 0) ↔ (s = 0 ∨ pw s = true) := by
  rcases Nat.lt_or_ge s 2048 with h1 | h1
  · exact pw_and1 ⟨s, h1⟩
  · have := pw_and2 ⟨s - 2048, by omega⟩
    simp only at this
    rwa [show 2048 + (s - 2048) = s by omega] at this
theorem pl_first : pl 0 = 3 := by decide +kernel
theorem pl_next : ∀ i : Fin 2048, pl (i.val + 1) = (if pw (pl i.val + 1) then pl i.val + 2 else pl i.val + 1) ∧ pw (pl i.val) = false ∧ (pw (pl i.val + 1) = true → pw (pl i.val + 2) = false) := by decide +kernel

theorem tz_facts : ∀ c : Fin 256, c.val ≠ 0 → (Lib.trailingZeros8 c.val < 8 ∧ c.val / 2 ^ Lib.trailingZeros8 c.val % 2 = 1) ∧ (c.val &&& (c.val - 1) < 256) ∧ ∀ k : Fin 8, (c.val &&& (c.val - 1)) / 2 ^ k.val % 2 = (if k.val = Lib.trailingZeros8 c.val then 0 else c.val / 2 ^ k.val % 2) := by decide +kernel
theorem pop8_is : ∀ b : Fin 256, Lib.onesCount b.val = popT b.val 8 := by decide +kernel
theorem pop_pow : ∀ k : Fin 13, popT (2 ^ k.val) 13 = 1 := by decide +kernel
theorem inv_so : ∀ x : Fin 2061, inv (so x.val) = x.val ∧ so x.val < 4096 := by decide +kernel
theorem so_small : ∀ k : Fin 13, so (2048 + k.val) &&& (so (2048 + k.val) - 1) = 0 := by decide +kernel
end Go.Proofs.Ytppodbijdhcclaa.HM

