/- NandCuts: the walk as the law wants it. -/
import Derived.Test.YtnclefdlmbkjmaaNandCuts
namespace Go.Proofs.Ytnclefdlmbkjmaa
open Go.RowKit
theorem nandCuts_any (after keep : Int) (v : Value) (w : World) (_ : (Lit.int .i64 after).wf = true) (_ : (Lit.int .i64 keep).wf = true) (h : ∃ os, Script w w.heap.size v os) :
    Calls Try.prog 5 #[.int .i64 after, .int .i64 keep, v] w fun e w' => e = .returned (.bool true) ∧ Below w.heap.size w w' := by
  obtain ⟨os, hs⟩ := h
  have hs' := hs
  obtain ⟨A, c, rfl, _⟩ := hs
  exact cuts_main after keep A c os w hs'
end Go.Proofs.Ytnclefdlmbkjmaa
