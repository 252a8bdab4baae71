/- Names and paths, plainly. No condition. -/
import Derived.Lib.Split
import Derived.Lib.Join
import Derived.Lib.IndexAny
import Derived.WalkKit
namespace Go.Proofs.Ytkpojlnfagonbaa
open Go Go.RowKit
/-- is it a name? -/
def rightL (l : List UInt8) : Bool := decide (1 ≤ l.length ∧ l.length ≤ 12 ∧ ¬ 47 ∈ l ∧ ¬ 0 ∈ l ∧ l ≠ [46] ∧ l ≠ [46, 46])
/-- what stands between the slashes -/
def cut : List UInt8 → List (List UInt8)
  | [] => [[]]
  | b :: l => if b = 47 then [] :: cut l else (b :: (cut l).headD []) :: (cut l).tail
theorem cut_nil : cut [] = [[]] := rfl
theorem cut_slash (l : List UInt8) : cut (47 :: l) = [] :: cut l := by rw [cut, if_pos rfl]
theorem cut_other {b : UInt8} (h : b ≠ 47) (l : List UInt8) : cut (b :: l) = (b :: (cut l).headD []) :: (cut l).tail := by rw [cut, if_neg h]
theorem cut_pos (l : List UInt8) : 1 ≤ (cut l).length := by
  cases l with
  | nil => simp [cut]
  | cons b l => unfold cut; split <;> simp
theorem cut_le (l : List UInt8) : (cut l).length ≤ l.length + 1 := by
  induction l with
  | nil => simp [cut]
  | cons b l ih => unfold cut; split <;> simp <;> omega
theorem cut_clean {l : List UInt8} (h : ¬ 47 ∈ l) : cut l = [l] := by
  induction l with
  | nil => rfl
  | cons b l ih =>
    simp only [List.mem_cons, not_or] at h
    rw [cut_other (fun e => h.1 e.symm), ih h.2]
    rfl
theorem cut_at (l m : List UInt8) (h : ¬ 47 ∈ l) : cut (l ++ 47 :: m) = l :: cut m := by
  induction l with
  | nil => exact cut_slash m
  | cons b l ih =>
    simp only [List.mem_cons, not_or] at h
    rw [List.cons_append, cut_other (fun e => h.1 e.symm), ih h.2]
    rfl
/-- the pieces joined by slashes -/
def glue : List (List UInt8) → List UInt8
  | [] => []
  | p :: ps => 47 :: p ++ glue ps
theorem glue_cut (l : List UInt8) : glue (cut l) = 47 :: l := by
  induction l with
  | nil => rfl
  | cons b l ih =>
    by_cases hb : b = 47
    · subst hb
      rw [cut_slash]
      simp [glue, ih]
    · rw [cut_other hb]
      rcases hc : cut l with _ | ⟨p, ps⟩
      · have := cut_pos l
        rw [hc] at this
        simp at this
      · rw [hc] at ih
        simp [glue] at ih ⊢
        exact ih
theorem cut_glue : ∀ (ns : List (List UInt8)), ns ≠ [] → (∀ n ∈ ns, ¬ 47 ∈ n) → cut ((glue ns).drop 1) = ns
  | [], h, _ => absurd rfl h
  | [p], _, hr => by simp [glue]; exact cut_clean (hr p (by simp))
  | p :: q :: ps, _, hr => by
    have ih := cut_glue (q :: ps) (by simp) fun n hn => hr n (by simp [hn])
    simp only [glue, List.cons_append, List.drop_succ_cons, List.drop_zero] at ih ⊢
    rw [cut_at p _ (hr p (by simp)), ih]
def splitL (l : List UInt8) : Option (List (List UInt8)) :=
  if l = [47] then some [] else if l.head? = some 47 ∧ (cut (l.drop 1)).length ≤ 6 ∧ (cut (l.drop 1)).all rightL = true then some (cut (l.drop 1)) else none
def joinL (ns : List (List UInt8)) : Option (List UInt8) :=
  if ns.length ≤ 6 ∧ ns.all rightL = true then some (if ns = [] then [47] else glue ns) else none
theorem right_clean {l : List UInt8} (h : rightL l = true) : ¬ 47 ∈ l := (of_decide_eq_true h).2.2.1
theorem right_ne {l : List UInt8} (h : rightL l = true) : l ≠ [] := fun e => by subst e; exact absurd (of_decide_eq_true h).1 (by simp)
theorem glue_ne {ns : List (List UInt8)} (h : ns ≠ []) (hr : ns.all rightL = true) : glue ns ≠ [47] := by
  cases ns with
  | nil => exact absurd rfl h
  | cons p ps =>
    intro e
    simp only [List.all_cons, Bool.and_eq_true] at hr
    simp only [glue, List.cons_append, List.cons.injEq, List.append_eq_nil_iff] at e
    exact right_ne hr.1 e.2.1
theorem join_split {l : List UInt8} {ns : List (List UInt8)} (h : splitL l = some ns) : joinL ns = some l := by
  unfold splitL at h
  split at h
  · rename_i h1
    cases h
    rw [h1]
    rfl
  · split at h
    · rename_i h1 h2
      cases h
      obtain ⟨h2, h3, h4⟩ := h2
      unfold joinL
      rw [if_pos ⟨h3, h4⟩, if_neg (fun e => by have := cut_pos (l.drop 1); rw [e] at this; simp at this), glue_cut]
      cases l with
      | nil => cases h2
      | cons b l => simp at h2; rw [h2]; rfl
    · cases h
theorem split_join {l : List UInt8} {ns : List (List UInt8)} (h : joinL ns = some l) : splitL l = some ns := by
  unfold joinL at h
  split at h
  · rename_i h1
    cases h
    by_cases hn : ns = []
    · subst hn
      rfl
    · rw [if_neg hn]
      unfold splitL
      have hg := cut_glue ns hn fun n hm => right_clean (List.all_eq_true.1 h1.2 n hm)
      rw [if_neg (glue_ne hn h1.2), hg, if_pos ⟨by cases ns with | nil => exact absurd rfl hn | cons p ps => simp [glue], h1⟩]
  · cases h
theorem glue_length {ns : List (List UInt8)} (hr : ns.all rightL = true) : (glue ns).length ≤ 13 * ns.length := by
  induction ns with
  | nil => simp [glue]
  | cons p ps ih =>
    simp only [List.all_cons, Bool.and_eq_true] at hr
    have h1 := ih hr.2
    have h2 := (of_decide_eq_true hr.1).2.1
    simp only [glue, List.length_append, List.length_cons]
    omega
theorem joinL_length {ns : List (List UInt8)} {l : List UInt8} (h : joinL ns = some l) : l.length ≤ 79 := by
  unfold joinL at h
  split at h
  · rename_i h1
    cases h
    have := glue_length h1.2
    split
    · simp
    · omega
  · cases h
theorem splitL_length {l : List UInt8} {ns : List (List UInt8)} (h : splitL l = some ns) : l.length ≤ 79 := joinL_length (join_split h)
theorem splitL_names {l : List UInt8} {ns : List (List UInt8)} (h : splitL l = some ns) : ns.length ≤ 6 ∧ ns.all rightL = true := by
  have := join_split h
  unfold joinL at this
  split at this
  · assumption
  · cases this
theorem glue_append (a b : List (List UInt8)) : glue (a ++ b) = glue a ++ glue b := by
  induction a with
  | nil => rfl
  | cons p ps ih => simp [glue, ih]
/-- strings.Join's text -/
theorem lib_join_glue (ns : List (List UInt8)) (h : ns ≠ []) : (47 :: Lib.join ns [47]) = glue ns := by
  induction ns with
  | nil => exact absurd rfl h
  | cons p ps ih =>
    cases ps with
    | nil => simp [Lib.join, glue]
    | cons q ps =>
      rw [glue, ← ih (by simp)]
      simp [Lib.join, List.intercalate_cons_cons]
/-- strings.SplitN's pieces -/
theorem index_slash (l : List UInt8) : (¬ 47 ∈ l ∧ Lib.index l [47] = -1) ∨ ∃ a m, l = a ++ 47 :: m ∧ ¬ 47 ∈ a ∧ Lib.index l [47] = a.length := by
  induction l with
  | nil => exact .inl ⟨by simp, rfl⟩
  | cons b l ih =>
    by_cases hb : b = 47
    · subst hb
      exact .inr ⟨[], l, rfl, by simp, by simp [Lib.index]⟩
    · rcases ih with ⟨h1, h2⟩ | ⟨a, m, h1, h2, h3⟩
      · refine .inl ⟨by simp only [List.mem_cons, not_or]; exact ⟨fun e => hb e.symm, h1⟩, ?_⟩
        have hp : ([47] : List UInt8).isPrefixOf (b :: l) = false := by simp [List.isPrefixOf]; exact fun e => hb e.symm
        simp [Lib.index, hp, h2]
      · refine .inr ⟨b :: a, m, by rw [h1]; rfl, by simp only [List.mem_cons, not_or]; exact ⟨fun e => hb e.symm, h2⟩, ?_⟩
        have hp : ([47] : List UInt8).isPrefixOf (b :: l) = false := by simp [List.isPrefixOf]; exact fun e => hb e.symm
        have hne : ¬ ((a.length : Int) == -1) = true := fun e => by have := beq_iff_eq.1 e; omega
        unfold Lib.index
        rw [hp, h3, if_neg hne]
        simp
theorem splitK_cut : ∀ (k : Nat) (l : List UInt8), (Lib.splitK [47] 0 k l = cut l ∧ (cut l).length ≤ k + 1) ∨ ((Lib.splitK [47] 0 k l).length = k + 1 ∧ k + 1 < (cut l).length)
  | 0, l => by
    rcases index_slash l with ⟨h1, h2⟩ | ⟨a, m, h1, h2, h3⟩
    · exact .inl ⟨by rw [cut_clean h1]; rfl, by rw [cut_clean h1]; simp⟩
    · refine .inr ⟨rfl, ?_⟩
      rw [h1, cut_at a m h2]
      have := cut_pos m
      simp only [List.length_cons]
      omega
  | k + 1, l => by
    rcases index_slash l with ⟨h1, h2⟩ | ⟨a, m, h1, h2, h3⟩
    · refine .inl ⟨?_, by rw [cut_clean h1]; simp⟩
      rw [cut_clean h1, Lib.splitK, if_pos (by rw [h2]; rfl)]
    · have hne : ¬ (Lib.index l [47] == -1) = true := fun e => by have := beq_iff_eq.1 e; omega
      have hs : Lib.splitK [47] 0 (k + 1) l = a :: Lib.splitK [47] 0 k m := by
        rw [Lib.splitK, if_neg hne, h3]
        subst h1
        simp
      rw [hs, h1, cut_at a m h2]
      rcases splitK_cut k m with ⟨e1, e2⟩ | ⟨e1, e2⟩
      · exact .inl ⟨by rw [e1], by simpa using e2⟩
      · exact .inr ⟨by simpa using e1, by simpa using e2⟩
/-- are all of them names, and few enough? -/
def fitL (ns : List (List UInt8)) : Bool := decide (ns.length ≤ 6) && ns.all rightL
theorem fit_split (l : List UInt8) : (fitL (Lib.splitK [47] 0 (min 7 (l.length + 1) - 1) l) = true ∧ fitL (cut l) = true ∧ Lib.splitK [47] 0 (min 7 (l.length + 1) - 1) l = cut l) ∨ (fitL (Lib.splitK [47] 0 (min 7 (l.length + 1) - 1) l) = false ∧ fitL (cut l) = false) := by
  have hc := cut_le l
  rcases splitK_cut (min 7 (l.length + 1) - 1) l with ⟨e1, e2⟩ | ⟨e1, e2⟩
  · rw [e1]
    cases h : fitL (cut l)
    · exact .inr ⟨rfl, rfl⟩
    · exact .inl ⟨rfl, rfl, rfl⟩
  · refine .inr ⟨?_, ?_⟩
    · unfold fitL
      rw [decide_eq_false (by omega)]
      rfl
    · unfold fitL
      rw [decide_eq_false (by omega)]
      rfl
theorem splitL_slash (r : List UInt8) (h : r ≠ []) : splitL (47 :: r) = if fitL (cut r) = true then some (cut r) else none := by
  unfold splitL fitL
  rw [if_neg (by simpa using h)]
  simp only [List.head?_cons, List.drop_succ_cons, List.drop_zero, true_and, Bool.and_eq_true, decide_eq_true_eq]
theorem splitL_other {l : List UInt8} (h : l.head? ≠ some 47) : splitL l = none := by
  unfold splitL
  rw [if_neg (fun e => h (by rw [e]; rfl)), if_neg (fun e => h e.1)]
theorem joinL_fit (ns : List (List UInt8)) : joinL ns = if fitL ns = true then some (if ns = [] then [47] else glue ns) else none := by
  unfold joinL fitL
  simp only [Bool.and_eq_true, decide_eq_true_eq]
/-- is the first text a path that the second one is, or is above? -/
def withinL (p t : List UInt8) : Bool :=
  match splitL p, splitL t with
  | some a, some b => b.isPrefixOf a
  | _, _ => false
theorem within_more {p q : List UInt8} {a m : List (List UInt8)} (h1 : splitL p = some a) (h2 : joinL (a ++ m) = some q) : withinL q p = true ∧ withinL p q = decide (m = []) := by
  have h3 := split_join h2
  unfold withinL
  rw [h3, h1]
  refine ⟨?_, ?_⟩
  · simp
  · cases m with
    | nil => simp
    | cons x m =>
      simp only [reduceCtorEq, decide_false]
      rcases hx : (a ++ x :: m).isPrefixOf a with _ | _
      · rfl
      · have := (List.isPrefixOf_iff_prefix.1 hx).length_le
        simp only [List.length_append, List.length_cons] at this
        omega
theorem containsAny_right (l : List UInt8) : Lib.containsAny l [47, 0] = decide (47 ∈ l ∨ 0 ∈ l) := by
  unfold Lib.containsAny
  induction l with
  | nil => simp [Lib.indexAny]
  | cons b l ih =>
    have hge := Lib.indexAny_ge [47, 0] l
    by_cases hb : b = 47 ∨ b = 0
    · have hc : ([47, 0] : List UInt8).contains b = true := by rcases hb with rfl | rfl <;> decide
      have hd : (47 ∈ b :: l ∨ 0 ∈ b :: l) := by rcases hb with rfl | rfl <;> simp
      rw [Lib.indexAny, if_pos hc, decide_eq_true hd]
      rfl
    · have hc : ([47, 0] : List UInt8).contains b = false := by simp only [List.contains_cons, List.contains_nil, Bool.or_false, Bool.or_eq_false_iff, beq_eq_false_iff_ne]; exact ⟨fun e => hb (.inl e), fun e => hb (.inr e)⟩
      have hd : (47 ∈ b :: l ∨ 0 ∈ b :: l) ↔ (47 ∈ l ∨ 0 ∈ l) := by
        simp only [List.mem_cons]
        constructor
        · rintro ((e | e) | (e | e))
          · exact absurd (.inl e.symm) hb
          · exact .inl e
          · exact absurd (.inr e.symm) hb
          · exact .inr e
        · rintro (e | e)
          · exact .inl (.inr e)
          · exact .inr (.inr e)
      rw [Lib.indexAny, if_neg (by rw [hc]; simp), decide_eq_decide.2 hd, ← ih]
      split
      · rename_i h1
        rw [beq_iff_eq.1 h1]
      · rename_i h1
        have : Lib.indexAny l [47, 0] ≠ -1 := fun e => h1 (beq_iff_eq.2 e)
        exact decide_eq_decide.2 (by omega)
end Go.Proofs.Ytkpojlnfagonbaa

