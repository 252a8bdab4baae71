/- A region that draws its order, by an invariant of what has come up, the frame and the world: one step for each operation, not one walk for each order. Condition: each operation waits for elder ones alone. -/
import Derived.Test.YtdmganpblkepfaaProg
import Derived.OrdersHeld
import Derived.NoCompiler
import Derived.Deep.RegionHeld
namespace Go.Proofs.Ytdmganpblkepfaa
/-- the operations that one of a region waits for -/
def waitsFor (md : Region.Mode) (ops : Array Oper) (i : Nat) : List Nat := (Region.tabAfter md ops).getD i []
theorem waitsFor_of {md : Region.Mode} {ops : Array Oper} {i : Nat} {o : Oper} (h : ops[i]? = some o) (j : Nat) : j ∈ waitsFor md ops i ↔ ∃ e ∈ o.after, Region.binds md e = true ∧ e.on = j := by
  unfold waitsFor Region.tabAfter
  rw [List.getD_eq_getElem?_getD, List.getElem?_map, Array.getElem?_toList, h]
  simp only [Option.map_some, Option.getD_some, List.mem_map, List.mem_filter, Array.mem_toList_iff]
  constructor
  · rintro ⟨e, ⟨h1, h2⟩, h3⟩; exact ⟨e, h1, h2, h3⟩
  · rintro ⟨e, h1, h2, h3⟩; exact ⟨e, ⟨h1, h2⟩, h3⟩
theorem mem_ready' {md : Region.Mode} {ops : Array Oper} {l : Array Bool} {i : Nat} : i ∈ Region.ready md ops l ↔ i < ops.size ∧ l.getD i true = false ∧ ∀ j ∈ waitsFor md ops i, l.getD j false = true := by
  rw [mem_ready]
  constructor
  · rintro ⟨h0, o, ho, h⟩
    refine ⟨(Array.getElem?_eq_some_iff.1 ho).1, h0, fun j hj => ?_⟩
    obtain ⟨e, he, hb, rfl⟩ := (waitsFor_of ho j).1 hj
    exact h e he hb
  · rintro ⟨hi, h0, h⟩
    refine ⟨h0, ops[i], Array.getElem?_eq_getElem hi, fun e he hb => ?_⟩
    exact h _ ((waitsFor_of (Array.getElem?_eq_getElem hi) _).2 ⟨e, he, hb, rfl⟩)
/-- nothing may come up: all has come up -/
theorem all_listed {md : Region.Mode} {ops : Array Oper} {l : Array Bool} (hl : l.size = ops.size) (hd : ∀ i < ops.size, ∀ j ∈ waitsFor md ops i, j < i) (hr : Region.ready md ops l = []) : ∀ i < ops.size, l.getD i true = true := by
  intro i
  induction i using Nat.strongRecOn with
  | ind i ih =>
    intro hi
    cases h : l.getD i true with
    | true => rfl
    | false =>
      have : i ∈ Region.ready md ops l := mem_ready'.2 ⟨hi, h, fun j hj => by
        have hji := hd i hi j hj
        have := ih j hji (by omega)
        rw [Array.getD_eq_getD_getElem?, Array.getElem?_eq_getElem (by omega), Option.getD_some] at this ⊢
        exact this⟩
      rw [hr] at this
      cases this
section
variable {P : Program} {md : Region.Mode} {ops : Array Oper} {Q : Exit → Act → World → Prop} {S : World → Prop}
theorem count_set {l : Array Bool} {i : Nat} (h : l.getD i true = false) : (l.setIfInBounds i true).toList.count false + 1 = l.toList.count false := by
  have hi : i < l.size := by
    rcases Nat.lt_or_ge i l.size with q | q
    · exact q
    · rw [Array.getD_eq_getD_getElem?, Array.getElem?_eq_none q] at h; cases h
  rw [Array.getD_eq_getD_getElem?, Array.getElem?_eq_getElem hi, Option.getD_some] at h
  have hm : false ∈ l.toList := by rw [← h]; exact Array.getElem_mem_toList hi
  have hc := List.count_pos_iff.2 hm
  rw [Array.toList_setIfInBounds, List.count_set (by simpa using hi)]
  have e : l.toList[i]'(by simpa using hi) = false := by simpa using h
  rw [e, if_pos (by rfl : (false == false) = true), if_neg (by decide)]
  omega
theorem wpAnyH_inv (I : Array Bool → Act → World → Prop) (hd : ∀ i < ops.size, ∀ j ∈ waitsFor md ops i, j < i)
    (hstep : ∀ l a w i, i < ops.size → l.size = ops.size → l.getD i true = false → (∀ j ∈ waitsFor md ops i, l.getD j false = true) → I l a w → wpOp P ops Q i (fun a' w' => S w' ∧ I (l.setIfInBounds i true) a' w') a w)
    (hfin : ∀ l a w, l.size = ops.size → (∀ i < ops.size, l.getD i true = true) → I l a w → Q .normal a w) :
    ∀ (fuel : Nat) (l : Array Bool) (a : Act) (w : World), l.size = ops.size → l.toList.count false ≤ fuel → I l a w → wpAnyH P md ops Q S fuel l a w
  | 0, l, a, w, hl, hc, hI => by
    have hr : Region.ready md ops l = [] := by
      rw [List.eq_nil_iff_forall_not_mem]
      intro i hi
      have := count_set (mem_ready'.1 hi).2.1
      omega
    exact ⟨hr, hfin l a w hl (all_listed hl hd hr) hI⟩
  | fuel + 1, l, a, w, hl, hc, hI => by
    refine ⟨fun hr => hfin l a w hl (all_listed hl hd hr) hI, fun i hi => ?_⟩
    obtain ⟨h1, h2, h3⟩ := mem_ready'.1 hi
    refine wpOp_mono (fun a' w' h => ⟨h.1, wpAnyH_inv I hd hstep hfin fuel _ a' w' (by rw [Array.size_setIfInBounds]; exact hl) ?_ h.2⟩) (hstep l a w i h1 hl h2 h3 hI)
    have := count_set h2
    omega
end
end Go.Proofs.Ytdmganpblkepfaa
