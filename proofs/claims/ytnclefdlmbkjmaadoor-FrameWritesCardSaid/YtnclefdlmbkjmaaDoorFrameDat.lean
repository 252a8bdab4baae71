/- Plain mathematics: when data are those of a record. No program, no condition. -/
import Derived.Test.YtnclefdlmbkjmaaDoorFrameMath
namespace Go.Proofs.YtnclefdlmbkjmaaDoor.FM
open Go
theorem rec_get (k : UInt8) (b : List UInt8) (h : b.length ≤ 240) (i : Nat) : (rec252 k b)[i]? = if i = 0 then some k else if i = 1 then some (UInt8.ofNat b.length) else if i < 2 + b.length then b[i - 2]? else if i < 252 then some 0 else none := by
  unfold rec252
  match i with
  | 0 => rfl
  | 1 => rfl
  | i + 2 =>
    rw [if_neg (by omega), if_neg (by omega), List.getElem?_cons_succ, List.getElem?_cons_succ]
    by_cases h1 : i + 2 < 2 + b.length
    · rw [if_pos h1, List.getElem?_append_left (by omega)]
      rfl
    · rw [if_neg h1, List.getElem?_append_right (by omega), List.getElem?_replicate]
      by_cases h2 : i + 2 < 252
      · rw [if_pos h2, if_pos (by omega)]
      · rw [if_neg h2, if_neg (by omega)]
theorem getD_get {x : List UInt8} {i : Nat} (h : i < x.length) : x[i]? = some (x.getD i 0) := by
  rw [List.getD_eq_getElem?_getD, List.getElem?_eq_getElem h, Option.getD_some]
theorem rec_iff (x : List UInt8) (hx : x.length = 256) (s : Nat) (hs : s = (x.getD 1 0).toNat) (h : s ≤ 240) : x.take 252 = rec252 (x.getD 0 0) ((x.drop 2).take s) ↔ nought x (2 + s) = true := by
  have hl : ((x.drop 2).take s).length = s := by rw [List.length_take, List.length_drop, hx]; omega
  constructor
  · intro e
    rw [nought_iff]
    intro i hi ha
    have e1 : (x.take 252)[i]? = (rec252 (x.getD 0 0) ((x.drop 2).take s))[i]? := by rw [e]
    rw [List.getElem?_take, if_pos hi, rec_get _ _ (by omega), hl, if_neg (by omega), if_neg (by omega), if_neg (by omega), if_pos hi, getD_get (by omega)] at e1
    exact Option.some.inj e1
  · intro hn
    rw [nought_iff] at hn
    apply List.ext_getElem?
    intro i
    rw [List.getElem?_take, rec_get _ _ (by omega), hl]
    by_cases h0 : i = 0
    · subst h0
      rw [if_pos (by omega), if_pos rfl, getD_get (by omega)]
    · rw [if_neg h0]
      by_cases h1 : i = 1
      · subst h1
        rw [if_pos (by omega), if_pos rfl, getD_get (by omega), hs, UInt8.ofNat_toNat]
      · rw [if_neg h1]
        by_cases h2 : i < 2 + s
        · rw [if_pos h2, if_pos (by omega), List.getElem?_take, if_pos (by omega), List.getElem?_drop, show 2 + (i - 2) = i by omega]
        · rw [if_neg h2]
          by_cases h3 : i < 252
          · rw [if_pos h3, if_pos h3, getD_get (by omega), hn i h3 (by omega)]
          · rw [if_neg h3, if_neg h3]
theorem dat_iff (x : List UInt8) (hx : x.length = 256) (s : Nat) (hs : s = (x.getD 1 0).toNat) (h : s ≤ 240) : x = dat (x.getD 0 0) ((x.drop 2).take s) ↔ nought x (2 + s) = true ∧ numB 4 (CM.on 0 (x.take 252)) = x.drop 252 := by
  have hl : ((x.drop 2).take s).length = s := by rw [List.length_take, List.length_drop, hx]; omega
  have hr := rec252_length (x.getD 0 0) ((x.drop 2).take s) (by omega)
  constructor
  · intro e
    have e1 : x.take 252 = rec252 (x.getD 0 0) ((x.drop 2).take s) := by
      have h1 : (dat (x.getD 0 0) ((x.drop 2).take s)).take 252 = rec252 (x.getD 0 0) ((x.drop 2).take s) := by
        unfold dat
        rw [List.take_append_of_le_length (by rw [hr]; omega), List.take_of_length_le (by rw [hr]; omega)]
      rw [← h1, ← e]
    refine ⟨(rec_iff x hx s hs h).1 e1, ?_⟩
    have h2 : (dat (x.getD 0 0) ((x.drop 2).take s)).drop 252 = numB 4 (CM.on 0 (rec252 (x.getD 0 0) ((x.drop 2).take s))) := by
      unfold dat
      rw [List.drop_append, List.drop_of_length_le (by rw [hr]; omega), List.nil_append, hr, Nat.sub_self, List.drop_zero]
    rw [e1, ← h2, ← e]
  · intro ⟨hn, hc⟩
    have e1 := (rec_iff x hx s hs h).2 hn
    unfold dat
    rw [← e1, hc, List.take_append_drop]
theorem fix_err (L : List UInt8) (c : Nat) : (HM.fixM L c).2.2 = 0 ∨ (HM.fixM L c).2.2 = 21 := by
  unfold HM.fixM
  split
  · split
    · exact .inl rfl
    · exact .inr rfl
  · split
    · exact .inl rfl
    · split
      · exact .inl rfl
      · exact .inr rfl
/-- what data read as, by their being a record's data -/
theorem openM_dat (x : List UInt8) (hx : x.length = 256) (n : Nat) (s : Nat) (hs : s = (x.getD 1 0).toNat) (h : s ≤ 240) (h0 : x.getD 0 0 ≠ 0) (h1 : x.getD 0 0 ≠ 255) : openM x n = if x = dat (x.getD 0 0) ((x.drop 2).take s) then (x.getD 0 0, (x.drop 2).take s, n, 0) else (0, [], 0, 21) := by
  unfold openM
  rw [if_neg (fun k => by
    rcases k with k | k | k
    · omega
    · exact h0 k
    · exact h1 k), ← hs]
  by_cases e : x = dat (x.getD 0 0) ((x.drop 2).take s)
  · rw [if_pos e]
    have := (dat_iff x hx s hs h).1 e
    rw [if_pos this.1, if_pos this.2]
  · rw [if_neg e]
    split
    · split
      · rename_i a b
        exact absurd ((dat_iff x hx s hs h).2 ⟨a, b⟩) e
      · rfl
    · rfl
end Go.Proofs.YtnclefdlmbkjmaaDoor.FM
