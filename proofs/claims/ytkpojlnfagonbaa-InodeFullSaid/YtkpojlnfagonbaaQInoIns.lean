/- An entry is put to its place among entries that rise: what the document's With does, plainly. No condition. -/
import Derived.Test.YtkpojlnfagonbaaQInoSearch
import Derived.Test.YtkpojlnfagonbaaQInoFind
namespace Go.Proofs.Ytkpojlnfagonbaa
open Go.RowKit
/-- the document's loop: put before the first greater one, or last -/
def insP : Bool → List EN → EN → List EN
  | put, [], e => if put then [] else [e]
  | put, x :: xs, e => if (!put && less e.n x.n) = true then e :: x :: insP true xs e else x :: insP put xs e
theorem insP_true (e : EN) : ∀ xs, insP true xs e = xs
  | [] => rfl
  | x :: xs => by simp [insP, insP_true e xs]
theorem atE_cons (x : EN) (xs : List EN) (j : Nat) : atE (x :: xs) (j + 1) = atE xs j := by simp [atE]
theorem ins_place (e : EN) : ∀ (es : List EN) (i : Nat), i ≤ es.length → (∀ j, j < i → less e.n (atE es j).n = false) → (i < es.length → less e.n (atE es i).n = true) → insP false es e = es.take i ++ e :: es.drop i
  | [], i, h, _, _ => by
    obtain rfl : i = 0 := by simpa using h
    rfl
  | x :: xs, 0, _, _, h => by
    have h1 : less e.n x.n = true := h (by simp)
    simp [insP, h1, insP_true]
  | x :: xs, i + 1, h, hlo, hhi => by
    have h1 : less e.n x.n = false := hlo 0 (by omega)
    have ih := ins_place e xs i (by simpa using h) (fun j hj => by have := hlo (j + 1) (by omega); rwa [atE_cons] at this) (fun hi => by have := hhi (by simpa using hi); rwa [atE_cons] at this)
    simp [insP, h1, ih]
/-- .. at the place that the search finds -/
theorem ins_search {es : List EN} {e : EN} {i : Nat} (hp : PlaceOf es e.n i) (hn : ¬ (i < es.length ∧ (atE es i).n = e.n)) : insP false es e = es.take i ++ e :: es.drop i := by
  obtain ⟨h1, h2, h3⟩ := hp
  refine ins_place e es i h1 (fun j hj => less_asymm (h2 j hj)) (fun hi => ?_)
  cases h : less e.n (atE es i).n with
  | true => rfl
  | false => exact absurd ⟨hi, less_total (h3 i (Nat.le_refl _) hi) h⟩ hn
theorem findL_some : ∀ (es : List EN) (s : ByteArray), (findL es s).2 = true ↔ ∃ j, j < es.length ∧ (atE es j).n.toList = s.toList
  | [], s => by simp [findL]
  | x :: xs, s => by
    have ih := findL_some xs s
    unfold findL
    by_cases h : x.n.toList = s.toList
    · rw [if_pos h]
      exact ⟨fun _ => ⟨0, by simp, h⟩, fun _ => rfl⟩
    · rw [if_neg h, ih]
      constructor
      · rintro ⟨j, h1, h2⟩
        exact ⟨j + 1, by simpa using h1, by rwa [atE_cons]⟩
      · rintro ⟨j, h1, h2⟩
        cases j with
        | zero => exact absurd h2 h
        | succ j => exact ⟨j, by simpa using h1, by rwa [atE_cons] at h2⟩
theorem toList_inj {a b : ByteArray} (h : a.toList = b.toList) : a = b := by
  rw [Lib.toList_data, Lib.toList_data] at h
  cases a; cases b
  congr 1
  exact Array.toList_inj.1 h
/-- the search finds what Find finds -/
theorem find_search {es : List EN} {s : ByteArray} {i : Nat} (hg : GoodTo es es.length) (hp : PlaceOf es s i) : (findL es s).2 = (decide (i < es.length) && decide ((atE es i).n = s)) := by
  obtain ⟨h1, h2, h3⟩ := hp
  by_cases h : i < es.length ∧ (atE es i).n = s
  · rw [decide_eq_true h.1, decide_eq_true h.2]
    exact (findL_some es s).2 ⟨i, h.1, by rw [h.2]⟩
  · have hb : (decide (i < es.length) && decide ((atE es i).n = s)) = false := by
      rw [← Bool.not_eq_true, Bool.and_eq_true, decide_eq_true_eq, decide_eq_true_eq]
      exact h
    rw [hb, ← Bool.not_eq_true, findL_some]
    rintro ⟨j, hj, hjs⟩
    have hjs := toList_inj hjs
    have hij : ¬ j < i := fun hlt => by
      have := h2 j hlt
      rw [hjs, less_irrefl] at this
      cases this
    rcases Nat.lt_or_ge i j with hlt | hge
    · have h4 := rise_of hg hlt hj
      rw [hjs, h3 i (Nat.le_refl _) (by omega)] at h4
      cases h4
    · obtain rfl : i = j := by omega
      exact h ⟨hj, hjs⟩
theorem atE_ins {es : List EN} {e : EN} {i : Nat} (hi : i ≤ es.length) (j : Nat) : atE (es.take i ++ e :: es.drop i) j = if j < i then atE es j else if j = i then e else atE es (j - 1) := by
  have hl : (es.take i).length = i := by rw [List.length_take]; omega
  unfold atE
  rw [List.getD_eq_getElem?_getD, List.getD_eq_getElem?_getD, List.getD_eq_getElem?_getD]
  by_cases h1 : j < i
  · rw [if_pos h1, List.getElem?_append_left (by omega), List.getElem?_take, if_pos h1]
  · rw [if_neg h1, List.getElem?_append_right (by omega), hl]
    by_cases h2 : j = i
    · rw [if_pos h2, h2, Nat.sub_self]
      rfl
    · rw [if_neg h2, show j - i = (j - i - 1) + 1 by omega, List.getElem?_cons_succ, List.getElem?_drop, show i + (j - i - 1) = j - 1 by omega]
theorem good_ins {es : List EN} {e : EN} {i : Nat} (hg : GoodTo es es.length) (he : okE e = true) (hp : PlaceOf es e.n i) (hn : ¬ (i < es.length ∧ (atE es i).n = e.n)) : GoodTo (es.take i ++ e :: es.drop i) (es.length + 1) := by
  obtain ⟨h1, h2, h3⟩ := hp
  have hgt : ∀ k, i ≤ k → k < es.length → less e.n (atE es k).n = true := fun k hk hk2 => by
    have h4 : less e.n (atE es i).n = true := by
      cases h : less e.n (atE es i).n with
      | true => rfl
      | false => exact absurd ⟨by omega, less_total (h3 i (Nat.le_refl _) (by omega)) h⟩ hn
    rcases Nat.lt_or_ge i k with h5 | h5
    · exact less_trans h4 (rise_of hg h5 hk2)
    · rwa [show k = i by omega]
  intro j hj
  rw [atE_ins h1, atE_ins h1]
  refine ⟨?_, fun hj0 => ?_⟩
  · by_cases a : j < i
    · rw [if_pos a]
      exact (hg j (by omega)).1
    · rw [if_neg a]
      by_cases b : j = i
      · rw [if_pos b]; exact he
      · rw [if_neg b]; exact (hg (j - 1) (by omega)).1
  · by_cases a : j < i
    · rw [if_pos a, if_pos (by omega)]
      exact (hg j (by omega)).2 hj0
    · rw [if_neg a]
      by_cases b : j = i
      · rw [if_pos b, if_pos (by omega)]
        exact h2 (j - 1) (by omega)
      · rw [if_neg b]
        by_cases c : j - 1 = i
        · rw [if_neg (by omega), if_pos c]
          exact hgt (j - 1) (by omega) (by omega)
        · rw [if_neg (by omega), if_neg c]
          exact rise_of hg (by omega) (by omega)
end Go.Proofs.Ytkpojlnfagonbaa

