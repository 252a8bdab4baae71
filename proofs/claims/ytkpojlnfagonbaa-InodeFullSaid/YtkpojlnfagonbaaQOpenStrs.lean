/- The arguments that are slices of texts: what they read as. No condition. -/
import Derived.Test.YtkpojlnfagonbaaQStrs
import Derived.Test.YtkpojlnfagonbaaQCore
import Derived.Test.YtkpojlnfagonbaaProg
import Derived.SliceStrings
import Derived.Deep.Slices
import Derived.ChangeSame
namespace Go.Proofs.Ytkpojlnfagonbaa
open Go.RowKit Go.ChangeShapes Go.WideShapes Go.ChangeAt
section
variable {H : Type} {enc : TypeId × Value → H} {w : World} {r : Reach} {base b0 : Nat} {spare : Nat → Bool} {held : Bool} {v : Value} {d : DataW H} {ps : List MemPlace}
set_option maxRecDepth 100000 in
theorem open_strs (hval : Value.okWide Try.prog w r b0 25 v) (h : DataW.Trod enc Try.prog w base spare held 25 v d ps) : ∃ xs, Strs w w.heap.size v xs := by
  obtain ⟨a, len, cap, rfl⟩ := okWide_slice Try.underlying25 hval
  obtain ⟨fuel, hf⟩ := h
  have hf' : DataW.trod enc Try.prog w base spare held fuel 25 [.slice a len cap] = some (d, ps) := hf
  rcases Deep.open_slice1 Try.underlying25 (by kernel_rfl) hf' with ⟨hcs, _⟩ | ⟨a', len', cap', m, n, V, D, Pl, hcs, _, hl, hm, hmm, _, hel⟩
  · simp only [List.cons.injEq, and_true] at hcs
    rw [hcs]
    exact ⟨[], Strs.nil 0 (by simp [maxLen])⟩
  · simp only [List.cons.injEq, and_true, Value.slice.injEq] at hcs
    obtain ⟨rfl, rfl, rfl⟩ := hcs
    have hle : len ≤ m := by rw [hmm]; split <;> omega
    obtain ⟨f, hfb⟩ := Deep.choose_lt (α := ByteArray) (n := len) (p := fun i s => V i = .string s) fun i hi => by
      obtain ⟨s, e, _, _⟩ := DataW.trod_string Try.underlying9 (hel i (by omega)).2
      exact ⟨s, by simpa using e⟩
    refine ⟨(List.range len).map f, some a', cap, by simp, by simpa using hl, hm, ?_⟩
    intro j u hu
    have hj : j < len := by have := get_lt hu; simpa using this
    have hc' := (hel j (by omega)).1
    refine ⟨a', rfl, ?_, ?_⟩
    · have := World.block_lt_of_cell? w _ hc'
      rwa [add_block] at this
    · rw [hc', hfb j hj, ← hu]
      simp [hj]
end
end Go.Proofs.Ytkpojlnfagonbaa

