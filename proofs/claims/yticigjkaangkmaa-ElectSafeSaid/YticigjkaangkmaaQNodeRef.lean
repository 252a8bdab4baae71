/- The contracts of the document's answers of layer 9: Write, Read, Same. No condition but that what is read is there. -/
import Derived.Test.YticigjkaangkmaaQNode
import Derived.Test.YticigjkaangkmaaQCore
namespace Go.Proofs.Yticigjkaangkmaa
open Go.RowKit
/-- a slice of one byte, just built -/
theorem lit1 (W : World) (base k : Nat) (hk : k < 256) (hb : base ≤ W.heap.size) : Own 5 (W.alloc (.cells #[.int .u8 (k : Int)] 5)) base (.slice (some ⟨W.heap.size, 0, none⟩) 1 1) (numB 1 k) := by
  have h : (W.alloc (.cells #[.int .u8 (k : Int)] 5)).ownsRow base 5 1 (.slice (some ⟨W.heap.size, 0, none⟩) 1 1) 1 [.int .u8 (k : Int)] := World.ownsRow_lit W #[.int .u8 (k : Int)] 1 hb (by simp [maxLen]) rfl
  have e : bv (numB 1 k) = [.int .u8 (k : Int)] := by
    simp only [bv, numB, List.map_cons, List.map_nil, UInt8.toNat_ofNat', List.cons.injEq, and_true, Value.int.injEq, true_and]
    omega
  unfold Own
  rw [e]
  exact h
end Go.Proofs.Yticigjkaangkmaa

