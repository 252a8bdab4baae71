/- All blocks of a disk in a script of a law, while the power lasts. Condition: the disk is in order; few calls so far. -/
import Derived.Test.YtjagonoicaelmaaGreatDoorQDiskD
namespace Go.Proofs.YtjagonoicaelmaaGreatDoor
open Go.RowKit
/-- what each block holds -/
def HasAll (X : DS) (N : Nat) (F : Nat → List (List UInt8)) : Prop := ∀ y, y < N - 6 → (F y).length ≤ 8 ∧ (∀ q ∈ F y, Stable q) ∧ Has (X.blk y) (F y)
def upd1 (F : Nat → List (List UInt8)) (b : Nat) (L : List (List UInt8)) : Nat → List (List UInt8) := fun y => if y = b then L else F y
def there (N : Nat) (b k : Int) : Bool := decide (0 ≤ b ∧ b < ((N - 6 : Nat) : Int) ∧ 0 ≤ k ∧ k < 8)
/-- what a Program answers, and leaves -/
def progE (N : Nat) (F : Nat → List (List UInt8)) (b k : Int) : Int := if there N b k then (if k = ((F b.toNat).length : Int) then 0 else 32) else 1
def progF (N : Nat) (F : Nat → List (List UInt8)) (b k : Int) (p : List UInt8) : Nat → List (List UInt8) := if there N b k then (if k = ((F b.toNat).length : Int) then upd1 F b.toNat (F b.toNat ++ [p]) else F) else F
def eraE (N : Nat) (b : Int) : Int := if there N b 0 then 0 else 1
def eraF (N : Nat) (F : Nat → List (List UInt8)) (b : Int) : Nat → List (List UInt8) := if there N b 0 then upd1 F b.toNat [] else F
section
variable {w w' : World} {d t : Nat} {a : At} {X : DS} {N f e K : Nat} {F : Nat → List (List UInt8)}
theorem Disk1.stepP (h : Disk1 w d t a X N f e K) (hF : HasAll X N F) (b k : Int) {p : List UInt8} (hp : Stable p) (hK : K ≤ 4000) :
    Calls Tryz.prog 88 #[.pointer (some ⟨d, 0, none⟩), .int .i64 b, .int .i64 k, .agg (cl p)] w fun er w' => er = .returned (.int .i64 (progE N F b k)) ∧ ∃ X' f' e', Disk1 w' d t a X' N f' e' (K + 5) ∧ X'.l.losses + f' + e' ≤ X.l.losses + f + e ∧ HasAll X' N (progF N F b k p) ∧ Chg w w' (a.disk t d) := by
  have hmore : ∀ {w'}, Disk1 w' d t a X N f e K → Disk1 w' d t a X N f e (K + 5) := fun q => ⟨q.dk, q.ok.more (by omega), q.on, q.last, q.u, few_le (by omega) q.few⟩
  unfold progE progF
  by_cases c : 0 ≤ b ∧ b < ((N - 6 : Nat) : Int) ∧ 0 ≤ k ∧ k < 8
  · have ct : there N b k = true := decide_eq_true c
    rw [ct]
    simp only [if_true]
    obtain ⟨bn, rfl⟩ : ∃ n : Nat, b = n := ⟨b.toNat, by omega⟩
    obtain ⟨kn, rfl⟩ : ∃ n : Nat, k = n := ⟨k.toNat, by omega⟩
    rw [Int.toNat_natCast]
    have hb : bn < N - 6 := by omega
    obtain ⟨h1, h2, h3⟩ := hF bn hb
    by_cases ck : kn = (F bn).length
    · subst ck
      rw [if_pos rfl, if_pos rfl]
      refine (h.program hb h3 (by omega) h2 hp hK).mono ?_
      rintro er w' ⟨rfl, X', f', e', q1, _, _, q4, q5, q6, _, _, q9⟩
      refine ⟨rfl, X', f', e', q1, q4, fun y hy => ?_, q9⟩
      unfold upd1
      by_cases cy : y = bn
      · subst cy
        rw [if_pos rfl]
        refine ⟨by rw [List.length_append, List.length_singleton]; omega, fun q hq => ?_, q5⟩
        rcases List.mem_append.1 hq with z | z
        · exact h2 q z
        · rw [List.mem_singleton.1 z]; exact hp
      · rw [if_neg cy, q6 y hy cy]
        exact hF y hy
    · rw [if_neg (by omega), if_neg (by omega)]
      refine (h.refused hp.1 (h.order hb (by omega) (by rw [h3.nx]; exact fun q => ck q.symm) p) hK).mono ?_
      rintro er w' ⟨rfl, q1, q2⟩
      exact ⟨rfl, X, f, e, hmore q1, Nat.le_refl _, hF, q2⟩
  · have ct : there N b k = false := decide_eq_false c
    rw [ct]
    simp only [Bool.false_eq_true, if_false]
    refine (h.refused hp.1 (h.wrong c p) hK).mono ?_
    rintro er w' ⟨rfl, q1, q2⟩
    exact ⟨rfl, X, f, e, hmore q1, Nat.le_refl _, hF, q2⟩
theorem Disk1.stepE (h : Disk1 w d t a X N f e K) (hF : HasAll X N F) (b : Int) (hK : K ≤ 4000) :
    Calls Tryz.prog 61 #[.pointer (some ⟨d, 0, none⟩), .int .i64 b] w fun er w' => er = .returned (.int .i64 (eraE N b)) ∧ ∃ X' f' e', Disk1 w' d t a X' N f' e' (K + 5) ∧ X'.l.losses + f' + e' ≤ X.l.losses + f + e ∧ HasAll X' N (eraF N F b) ∧ Chg w w' (a.disk t d) := by
  unfold eraE eraF
  by_cases c : 0 ≤ b ∧ b < ((N - 6 : Nat) : Int)
  · have ct : there N b 0 = true := decide_eq_true ⟨c.1, c.2, by omega, by omega⟩
    rw [ct]
    simp only [if_true]
    obtain ⟨bn, rfl⟩ : ∃ n : Nat, b = n := ⟨b.toNat, by omega⟩
    rw [Int.toNat_natCast]
    have hb : bn < N - 6 := by omega
    refine (h.erase hb hK).mono ?_
    rintro er w' ⟨rfl, X', f', e', q1, _, _, q4, q5, q6, q9⟩
    refine ⟨rfl, X', f', e', q1, q4, fun y hy => ?_, q9⟩
    unfold upd1
    by_cases cy : y = bn
    · subst cy
      rw [if_pos rfl]
      exact ⟨by simp, fun q hq => (by cases hq), q5⟩
    · rw [if_neg cy, q6 y hy cy]
      exact hF y hy
  · have ct : there N b 0 = false := decide_eq_false (fun q => c ⟨q.1, q.2.1⟩)
    rw [ct]
    simp only [Bool.false_eq_true, if_false]
    refine (h.noErase c hK).mono ?_
    rintro er w' ⟨rfl, q1, q2⟩
    exact ⟨rfl, X, f, e, ⟨q1.dk, q1.ok.more (by omega), q1.on, q1.last, q1.u, few_le (by omega) q1.few⟩, Nat.le_refl _, hF, q2⟩
theorem progF_other {b k : Int} {p : List UInt8} {y : Nat} (h : b ≠ (y : Int)) : progF N F b k p y = F y := by
  unfold progF
  split
  · rename_i c
    have c' := of_decide_eq_true c
    split
    · unfold upd1
      rw [if_neg (by omega)]
    · rfl
  · rfl
theorem eraF_other {b : Int} {y : Nat} (h : b ≠ (y : Int)) : eraF N F b y = F y := by
  unfold eraF
  split
  · rename_i c
    have c' := of_decide_eq_true c
    unfold upd1
    rw [if_neg (by omega)]
  · rfl
theorem hasAll_told {pr : Bool} {zs : List Int} (h : HasAll X N F) : HasAll ⟨X.S.told pr zs, X.s, X.l, X.u⟩ N F := fun y hy => by
  have e : (DS.mk (X.S.told pr zs) X.s X.l X.u).blk y = X.blk y := by unfold DS.blk Ch.bk; rw [told_bs]
  rw [e]
  exact h y hy
end
/-- the numbers of the acts that are to fail -/
theorem low3 (z : Int) {k m : Nat} (hm : m = 2 ^ k) (hk : k ≤ 16) : ∃ x : Nat, bits .and .i64 z ((m - 1 : Nat) : Int) = (x : Int) ∧ x < m := by
  have h2 : 0 < 2 ^ k := Nat.two_pow_pos k
  have hle : 2 ^ k ≤ 2 ^ 16 := Nat.pow_le_pow_right (by omega) hk
  have e : (BitVec.ofInt 64 z &&& BitVec.ofInt 64 ((m - 1 : Nat) : Int)).toNat = (z % 18446744073709551616).toNat % 2 ^ k := by
    rw [BitVec.toNat_and, BitVec.ofInt_natCast, BitVec.toNat_ofNat, Nat.mod_eq_of_lt (by omega), hm, Nat.and_two_pow_sub_one_eq_mod, BitVec.toNat_ofInt]
    rfl
  have hlt := Nat.mod_lt ((z % 18446744073709551616).toNat) h2
  refine ⟨(z % 18446744073709551616).toNat % 2 ^ k, ?_, by omega⟩
  unfold bits
  show IntKind.i64.wrap ((BitVec.ofInt 64 z &&& BitVec.ofInt 64 ((m - 1 : Nat) : Int)).toNat : Int) = _
  rw [e, IntKind.wrap_i64]
  omega
end Go.Proofs.YtjagonoicaelmaaGreatDoor

