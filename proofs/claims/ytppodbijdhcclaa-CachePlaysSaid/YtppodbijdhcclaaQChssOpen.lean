/- The argument that is a list of lists of changes: what it reads as. No condition. -/
import Derived.Test.YtppodbijdhcclaaQChsOpen
namespace Go.Proofs.Ytppodbijdhcclaa
open Go.RowKit Go.ChangeShapes Go.WideShapes Go.ChangeAt
section
variable {H : Type} {enc : TypeId × Value → H} {w : World} {r : Reach} {base b0 : Nat} {spare : Nat → Bool} {held : Bool} {v : Value} {d : DataW H} {ps : List MemPlace}
set_option maxRecDepth 100000 in
theorem open_chss (hval : Value.okWide Try.prog w r b0 23 v) (h : DataW.Trod enc Try.prog w base spare held 23 v d ps) : ∃ xs, Chss w w.heap.size v xs := by
  obtain ⟨a, len, cap, rfl⟩ := okWide_slice Try.underlying23 hval
  obtain ⟨fuel, hf⟩ := h
  have hf' : DataW.trod enc Try.prog w base spare held fuel 23 [.slice a len cap] = some (d, ps) := hf
  rcases Deep.open_slice1 Try.underlying23 (by kernel_rfl) hf' with ⟨hcs, _⟩ | ⟨a', len', cap', m, n, V, D, Pl, hcs, _, hl, hm, hmm, _, hel⟩
  · simp only [List.cons.injEq, and_true] at hcs
    rw [hcs]
    exact ⟨[], none, 0, [], rfl, by simp, rfl, Row.nil, fun i u h => by simp at h⟩
  · simp only [List.cons.injEq, and_true, Value.slice.injEq] at hcs
    obtain ⟨rfl, rfl, rfl⟩ := hcs
    have hle : len ≤ m := by rw [hmm]; split <;> omega
    obtain ⟨f, hfb⟩ := Deep.choose_lt (α := List CV × List (List UInt8)) (n := len) (p := fun i x => ChL w w.heap.size (V i) x.1 x.2) fun i hi => by
      obtain ⟨cs, ls, h⟩ := chs_of_trod (hel i (by omega)).2
      exact ⟨(cs, ls), h⟩
    refine ⟨(List.range len).map f, some a', cap, (List.range len).map V, by simp, by simp; omega, by simp, ?_, ?_⟩
    · intro j u hu
      have hj : j < len := by have := get_lt hu; simpa using this
      have hc' := (hel j (by omega)).1
      refine ⟨a', rfl, ?_, ?_⟩
      · have := World.block_lt_of_cell? w _ hc'
        rwa [add_block] at this
      · rw [hc', ← hu]
        simp [hj]
    · intro i u hu
      have hj : i < len := by have := get_lt hu; simpa using this
      refine ⟨f i, by simp [hj], ?_⟩
      have : V i = u := by simpa [hj] using hu
      rw [← this]
      exact hfb i hj
end
end Go.Proofs.Ytppodbijdhcclaa

