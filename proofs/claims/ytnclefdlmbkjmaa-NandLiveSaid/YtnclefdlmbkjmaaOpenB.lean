/- What an argument that came in reads as: a slice of truths. No condition. -/
import Derived.Test.YtnclefdlmbkjmaaOpen
namespace Go.Proofs.Ytnclefdlmbkjmaa
open Go.RowKit Go.ChangeShapes Go.WideShapes Go.ChangeAt
/-- v is a slice of the truths bs -/
def Bools (w : World) (B : Nat) (v : Value) (bs : List Bool) : Prop :=
  ∃ A c, v = .slice A bs.length c ∧ bs.length ≤ c ∧ c ≤ maxLen ∧ Row w B A (bs.map Value.bool)
section
variable {H : Type} {enc : TypeId × Value → H} {P : Program} {w : World} {r : Reach} {base b0 : Nat} {spare : Nat → Bool} {held : Bool} {t e : TypeId} {v : Value} {d : DataW H} {ps : List MemPlace}
theorem open_bools (ht : P.underlying t = some (.slice e)) (he : P.underlying e = some .bool) (hc : P.cellsOf e = 1) (hval : Value.okWide P w r b0 t v) (h : DataW.Trod enc P w base spare held t v d ps) : ∃ bs, Bools w w.heap.size v bs := by
  obtain ⟨a, len, cap, rfl⟩ := okWide_slice ht hval
  obtain ⟨fuel, hf⟩ := h
  have hf' : DataW.trod enc P w base spare held fuel t [.slice a len cap] = some (d, ps) := hf
  rcases Deep.open_slice1 ht hc hf' with ⟨hcs, _⟩ | ⟨a', len', cap', m, n, V, D, Pl, hcs, _, hl, hm, hmm, _, hel⟩
  · simp only [List.cons.injEq, and_true] at hcs
    rw [hcs]
    exact ⟨[], none, 0, rfl, by simp, by simp [maxLen], Row.nil⟩
  · simp only [List.cons.injEq, and_true, Value.slice.injEq] at hcs
    obtain ⟨rfl, rfl, rfl⟩ := hcs
    have hle : len ≤ m := by rw [hmm]; split <;> omega
    obtain ⟨f, hfb⟩ := Deep.choose_lt (α := Bool) (n := len) (p := fun i l => V i = .bool l) fun i hi => by
      obtain ⟨m, hmm, _⟩ := DataW.trod_bool he (hel i (by omega)).2
      exact ⟨m, by simpa using hmm⟩
    refine ⟨(List.range len).map f, some a', cap, by simp, by simpa using hl, hm, ?_⟩
    intro j u hu
    have hj : j < len := by have := get_lt hu; simpa using this
    have hc' := (hel j (by omega)).1
    refine ⟨a', rfl, ?_, ?_⟩
    · have := World.block_lt_of_cell? w _ hc'
      rwa [add_block] at this
    · rw [hc', ← hu, hfb j hj]
      simp [hj]
end
end Go.Proofs.Ytnclefdlmbkjmaa
