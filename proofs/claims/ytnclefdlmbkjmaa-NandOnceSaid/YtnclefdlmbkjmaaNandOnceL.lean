/- NandOnce: the walk as the law wants it. -/
import Derived.Test.YtnclefdlmbkjmaaNandOnce
namespace Go.Proofs.Ytnclefdlmbkjmaa
open Go.RowKit
theorem nandOnce_any (k : Int) (v : Value) (w : World) (h0 : (Lit.int .u8 k).wf = true) (h : ∃ os, Script w w.heap.size v os) :
    Calls Try.prog 4 #[.int .u8 k, v] w fun e w' => e = .returned (.bool true) ∧ Below w.heap.size w w' := by
  obtain ⟨b, rfl⟩ := u8_byte k h0
  obtain ⟨os, hs⟩ := h
  have hs' := hs
  obtain ⟨A, c, rfl, _⟩ := hs
  exact once_main b A c os w hs'
end Go.Proofs.Ytnclefdlmbkjmaa
