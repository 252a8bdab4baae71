/- The arguments that are slices of texts: what they read as; and that internal/bytealg's MaxLen is some int in every world that a row allows. No condition. -/
import Derived.Test.YteihffmenfobaaaDoorQNameSplit
import Derived.Test.YteihffmenfobaaaDoorQCore
import Derived.SliceStrings
import Derived.Shelf.Vars
import Derived.HandedShaped
namespace Go.Proofs.YteihffmenfobaaaDoor
open Go.RowKit Go.ChangeShapes Go.WideShapes Go.ChangeAt
theorem maxI_of {w : World} (h : w.ShapedOpen Tryd.prog) : MaxI w :=
  cell_of_shapedOpen_int (g := 0) (zero := #[.int .i64 0]) (t := 3) h (of_decide_eq_true (by kernel_rfl)) (by kernel_rfl) rfl (by kernel_rfl) (by kernel_rfl) Tryd.underlying3
section
variable {H : Type} {enc : TypeId × Value → H} {w : World} {r : Reach} {base b0 : Nat} {spare : Nat → Bool} {held : Bool} {v : Value} {d : DataW H} {ps : List MemPlace}
theorem open_strs (hval : Value.okWide Tryd.prog w r b0 23 v) (h : DataW.Trod enc Tryd.prog w base spare held 23 v d ps) : ∃ xs, Strs w w.heap.size v xs := by
  obtain ⟨a, len, cap, rfl⟩ := okWide_slice Tryd.underlying23 hval
  obtain ⟨fuel, hf⟩ := h
  have hf' : DataW.trod enc Tryd.prog w base spare held fuel 23 [.slice a len cap] = some (d, ps) := hf
  rcases Deep.open_slice1 Tryd.underlying23 (by kernel_rfl) hf' with ⟨hcs, _⟩ | ⟨a', len', cap', m, n, V, D, Pl, hcs, _, hl, hm, hmm, _, hel⟩
  · simp only [List.cons.injEq, and_true] at hcs
    rw [hcs]
    exact ⟨[], Strs.nil 0 (by simp [maxLen])⟩
  · simp only [List.cons.injEq, and_true, Value.slice.injEq] at hcs
    obtain ⟨rfl, rfl, rfl⟩ := hcs
    have hle : len ≤ m := by rw [hmm]; split <;> omega
    obtain ⟨f, hfb⟩ := Deep.choose_lt (α := ByteArray) (n := len) (p := fun i s => V i = .string s) fun i hi => by
      obtain ⟨s, e, _, _⟩ := DataW.trod_string Tryd.underlying9 (hel i (by omega)).2
      exact ⟨s, by simpa using e⟩
    refine ⟨(List.range len).map f, some a', cap, by simp, by simpa using hl, hm, ?_⟩
    intro j u hu
    have hj : j < len := by have := get_lt hu; simpa using this
    have hc' := (hel j (by omega)).1
    refine ⟨a', rfl, ?_, ?_⟩
    · have := World.block_lt_of_cell? w _ hc'
      rwa [add_block] at this
    · rw [hc', hfb j hj, ← hu]
      simp [hj]
end
end Go.Proofs.YteihffmenfobaaaDoor

