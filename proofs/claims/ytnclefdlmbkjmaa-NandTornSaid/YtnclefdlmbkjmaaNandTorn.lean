/- NandTorn: the walk as the law wants it. -/
import Derived.Test.YtnclefdlmbkjmaaNandTornP
namespace Go.Proofs.Ytnclefdlmbkjmaa
open Go.RowKit
theorem u8_of (k : Int) (h : (Lit.int .u8 k).wf = true) : ∃ b : UInt8, k = ((b.toNat : Nat) : Int) := by
  simp only [Lit.wf, Bool.and_eq_true, IntKind.min, IntKind.max, IntKind.signed, IntKind.bits] at h
  simp at h
  refine ⟨UInt8.ofNat k.toNat, ?_⟩
  rw [UInt8.toNat_ofNat']
  omega
theorem nandTorn_any (k keep : Int) (er : Bool) (w : World) (h0 : (Lit.int .u8 k).wf = true) (_ : (Lit.int .i64 keep).wf = true) :
    Calls Try.prog 7 #[.int .u8 k, .int .i64 keep, .bool er] w fun e w' => e = .returned (.bool true) ∧ Below w.heap.size w w' := by
  obtain ⟨b, rfl⟩ := u8_of k h0
  cases er
  · exact torn_program b keep w
  · exact torn_erase b keep w
end Go.Proofs.Ytnclefdlmbkjmaa
