/- The document's With and Without, one by one, plainly. No condition. -/
import Derived.Test.YtkpojlnfagonbaaQInoRefWith
import Derived.Test.YtkpojlnfagonbaaQInoWithout
import Derived.Test.YtkpojlnfagonbaaQInoRefWo
namespace Go.Proofs.Ytkpojlnfagonbaa
open Go Go.RowKit
def stepI (p : IN × Int) (z : EN) : IN × Int := if p.2 = 0 then withI p.1 [z] else p
theorem fold_stay (p : IN × Int) (h : p.2 ≠ 0) : ∀ xs : List EN, xs.foldl stepI p = p
  | [] => rfl
  | x :: xs => by
    rw [List.foldl_cons]
    have : stepI p x = p := by unfold stepI; rw [if_neg h]
    rw [this]
    exact fold_stay p h xs
theorem place_ex {es : List EN} (hg : GoodTo es es.length) (s : ByteArray) : ∃ i, PlaceOf es s i := by
  refine ⟨es.findIdx fun e => !less e.n s, List.findIdx_le_length, fun j hj => ?_, fun j hj hl => ?_⟩
  · have h1 := List.not_of_lt_findIdx hj
    have hjl : j < es.length := Nat.lt_of_lt_of_le hj List.findIdx_le_length
    have h2 : atE es j = es[j] := by
      have := atE_get hjl
      obtain ⟨_, he⟩ := List.getElem?_eq_some_iff.1 this
      exact he.symm
    rw [h2]
    simpa using h1
  · cases h : less (atE es j).n s with
    | false => rfl
    | true =>
      exfalso
      have hlt : es.findIdx (fun e => !less e.n s) < es.length := Nat.lt_of_le_of_lt hj hl
      have h1 := below_of hg hj hl h
      have h2 := List.findIdx_getElem (p := fun e : EN => !less e.n s) (xs := es) (w := hlt)
      have h3 : atE es (es.findIdx fun e => !less e.n s) = es[es.findIdx fun e => !less e.n s] := by
        have := atE_get hlt
        obtain ⟨_, he⟩ := List.getElem?_eq_some_iff.1 this
        exact he.symm
      rw [h3] at h1
      rw [h1] at h2
      cases h2
theorem ins_dir {n : IN} (h : n.dir) {x : EN} (hx : okE x = true) (hf : (findL n.es x.n).2 ≠ true) (h8 : n.es.length ≠ 8) : IN.dir ⟨2, 0, insP false n.es x⟩ := by
  obtain ⟨i, hp⟩ := place_ex h.2.2.2 x.n
  have hfs := find_search h.2.2.2 hp
  have hnn : ¬ (i < n.es.length ∧ (atE n.es i).n = x.n) := by
    rintro ⟨h1, h2⟩
    rw [decide_eq_true h1, decide_eq_true h2] at hfs
    exact hf hfs
  have hl : (n.es.take i ++ x :: n.es.drop i).length = n.es.length + 1 := by
    have := hp.1
    rw [List.length_append, List.length_take, List.length_cons, List.length_drop]; omega
  have hg := good_ins h.2.2.2 hx hp hnn
  refine ⟨rfl, rfl, ?_, ?_⟩
  · show (insP false n.es x).length ≤ 8
    rw [ins_search hp hnn, hl]
    have := h.2.2.1
    omega
  · show GoodTo (insP false n.es x) (insP false n.es x).length
    rw [ins_search hp hnn, hl]
    exact hg
theorem withL_cons (es : List EN) (x : EN) (xs : List EN) : withL es (x :: xs) = if okE x = false then ([], 1) else if (findL es x.n).2 = true then ([], 62) else if es.length = 8 then ([], 67) else withL (insP false es x) xs := rfl
theorem fold_dir : ∀ (xs : List EN) (n : IN), n.dir → xs.foldl stepI (n, 0) = withI n xs
  | [], n, h => by
    have : withI n [] = (⟨2, 0, n.es⟩, 0) := by unfold withI; rw [if_pos h]; rfl
    rw [this]
    obtain ⟨k, z, es⟩ := n
    obtain ⟨h1, h2, _⟩ := h
    simp only at h1 h2
    subst h1
    subst h2
    rfl
  | x :: xs, n, h => by
    rw [List.foldl_cons]
    have h0 : stepI (n, 0) x = withI n [x] := rfl
    rw [h0, withI_one, if_pos h]
    have hw : withI n (x :: xs) = if (withL n.es (x :: xs)).2 = 0 then (⟨2, 0, (withL n.es (x :: xs)).1⟩, 0) else (⟨0, 0, []⟩, (withL n.es (x :: xs)).2) := by unfold withI; rw [if_pos h]
    rw [hw, withL_cons]
    by_cases h1 : okE x = false
    · rw [if_pos h1, if_pos h1]
      exact fold_stay _ (by decide) xs
    · rw [if_neg h1, if_neg h1]
      by_cases h2 : (findL n.es x.n).2 = true
      · rw [if_pos h2, if_pos h2]
        exact fold_stay _ (by decide) xs
      · rw [if_neg h2, if_neg h2]
        by_cases h3 : n.es.length = 8
        · rw [if_pos h3, if_pos h3]
          exact fold_stay _ (by decide) xs
        · rw [if_neg h3, if_neg h3]
          have hd := ins_dir h (by simpa using h1) h2 h3
          rw [fold_dir xs _ hd]
          unfold withI
          rw [if_pos hd]
theorem withI_len (n : IN) (x : EN) : (withI n [x]).1.es.length ≤ 40 := by
  rw [withI_one]
  split
  · rename_i h
    split
    · exact Nat.zero_le _
    · split
      · exact Nat.zero_le _
      · split
        · exact Nat.zero_le _
        · have h1 := insP_len x false n.es
          have h2 := h.2.2.1
          show (insP false n.es x).length ≤ 40
          omega
  · exact Nat.zero_le _
/-- the law's loop begins -/
def startI (n : IN) (more : List EN) : IN × Int := if more.length = 0 ∧ ¬ n.dir then (⟨0, 0, []⟩, 63) else (n, 0)
theorem fold_all (n : IN) (more : List EN) : more.foldl stepI (startI n more) = withI n more := by
  by_cases h : n.dir
  · have : startI n more = (n, 0) := by unfold startI; rw [if_neg (fun x => x.2 h)]
    rw [this]
    exact fold_dir more n h
  · have hw : withI n more = (⟨0, 0, []⟩, 63) := by unfold withI; rw [if_neg h]
    rw [hw]
    cases more with
    | nil =>
      have : startI n [] = (⟨0, 0, []⟩, 63) := by unfold startI; rw [if_pos ⟨rfl, h⟩]
      rw [this]; rfl
    | cons x xs =>
      have : startI n (x :: xs) = (n, 0) := by unfold startI; rw [if_neg (fun y => by simp at y)]
      rw [this, List.foldl_cons]
      have h0 : stepI (n, 0) x = withI n [x] := rfl
      rw [h0, withI_one, if_neg h]
      exact fold_stay _ (by decide) xs
theorem fold_next {more : List EN} {q : Nat} (h : q < more.length) (p : IN × Int) : (more.take (q + 1)).foldl stepI p = stepI ((more.take q).foldl stepI p) (atE more q) := by
  rw [List.take_add_one, atE_get h, List.foldl_append]
  rfl
theorem out_wo (es : List EN) (ys : List ByteArray) (s : ByteArray) : outL (wo es ys) s = wo es (ys ++ [s]) := by
  unfold outL wo
  rw [List.filter_filter]
  congr 1
  funext e
  unfold hasS
  rw [List.any_append]
  simp only [List.any_cons, List.any_nil, Bool.or_false, Bool.not_or]
  rw [Bool.and_comm]
  rfl
theorem wo_nil (es : List EN) : wo es [] = es := by
  unfold wo
  rw [List.filter_eq_self]
  intro e _
  rfl
end Go.Proofs.Ytkpojlnfagonbaa

