/- Layer 13: the chips that may be elected. No condition but that a set has 32 bytes. -/
import Derived.Test.YticigjkaangkmaaQElect
import Derived.Laws.OwnMore
namespace Go.Proofs.Yticigjkaangkmaa
open Go Go.RowKit
theorem index_pair {ra rb rc : List Value} (ha : ra.length = 41) (hb : rb.length = 41) (k : Nat) (hk : k < 2) (hc : rc = if k = 0 then ra else rb) (w : World) : (Instr.index 68 (.agg (ra ++ rb).toArray) (.int .i64 (k : Int))).run Try.prog w = .ok (.agg rc.toArray) w := by
  have h3 : ((0 : Int) ≤ (k : Int) ∧ (k : Int) < ((2 : Nat) : Int)) := by omega
  simp only [Instr.index, asIntOf, Sem.run_bind, Sem.run_pure, Result.andThen_ok, run_underlying Try.underlying68]
  rw [if_pos h3]
  have e1 : (ra ++ rb).toArray.extract (k * 41) (k * 41 + 41) = rc.toArray := by
    apply Array.toList_inj.1
    rw [Array.toList_extract]
    simp only [List.extract]
    rcases (show k = 0 ∨ k = 1 by omega) with rfl | rfl
    · rw [hc, if_pos rfl, Nat.zero_mul, List.drop_zero, List.take_append_of_le_length (by omega), List.take_of_length_le (by omega)]
    · rw [hc, if_neg (by omega), Nat.one_mul, show (41 : Nat) = ra.length from ha.symm, List.drop_left, List.take_of_length_le (by omega)]
  simp only [part, Sem.run_bind, aggC, sizeC, Result.andThen_ok, Int.toNat_natCast, if_true, Sem.run_pure, e1]
/-- the first k of the chips that may be elected -/
def able (t : VV) (a b : EC) (k : Nat) : List Nat := (if 1 ≤ k ∧ EC.may t a 0 = true then [0] else []) ++ (if 2 ≤ k ∧ EC.may t b 1 = true then [1] else [])
theorem able_zero (t : VV) (a b : EC) : able t a b 0 = [] := by simp [able]
theorem able_succ (t : VV) (a b : EC) (k : Nat) (hk : k < 2) : able t a b (k + 1) = able t a b k ++ (if EC.may t (if k = 0 then a else b) (k : Int) = true then [k] else []) := by
  rcases (show k = 0 ∨ k = 1 by omega) with rfl | rfl
  · simp [able]
  · simp [able]
theorem able_len (t : VV) (a b : EC) (k : Nat) : (able t a b k).length ≤ 2 := by unfold able; split <;> split <;> simp
def eiv (xs : List Nat) : List Value := xs.map fun z : Nat => Value.int .i64 (z : Int)
theorem eiv_one (l : List Nat) : ∀ u ∈ eiv l, u.oneCell' = true := by
  intro u hu
  obtain ⟨_, _, rfl⟩ := List.mem_map.1 hu
  rfl
theorem eintTys : OneCell Try.prog 25 3 (.int .i64 0) 8 := OneCell.mk' Try.underlying25 (by kernel_rfl) (by decide)
end Go.Proofs.Yticigjkaangkmaa

