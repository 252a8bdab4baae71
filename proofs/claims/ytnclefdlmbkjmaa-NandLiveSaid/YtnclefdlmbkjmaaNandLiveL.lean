/- NandLive: the walk as the law wants it. -/
import Derived.Test.YtnclefdlmbkjmaaNandLive
namespace Go.Proofs.Ytnclefdlmbkjmaa
open Go.RowKit
theorem u8_from (k : Int) (h : (Lit.int .u8 k).wf = true) : ∃ b : UInt8, k = ((b.toNat : Nat) : Int) := by
  simp only [Lit.wf, Bool.and_eq_true, IntKind.min, IntKind.max, IntKind.signed, IntKind.bits] at h
  simp at h
  refine ⟨UInt8.ofNat k.toNat, ?_⟩
  rw [UInt8.toNat_ofNat']
  omega
set_option maxHeartbeats 1000000 in
theorem nandLive_any (k : Int) (v : Value) (die : Int) (w : World) (h0 : (Lit.int .u8 k).wf = true) (h1 : ∃ bs, Bools w w.heap.size v bs) (_ : (Lit.int .i64 die).wf = true) :
    Calls Try.prog 8 #[.int .u8 k, v, .int .i64 die] w fun e w' => e = .returned (.bool true) ∧ Below w.heap.size w w' := by
  obtain ⟨b, rfl⟩ := u8_from k h0
  obtain ⟨bs, A, c, rfl, _, _, hr⟩ := h1
  by_cases hl : bs.length ≤ 100
  · exact live_main b A bs c die w hr hl
  · have k0 := nandspeaks_any w
    have d1 : decide ((100 : Int) < (bs.length : Int)) = true := by simp; omega
    clear hr
    go_enter Try.func8, Try.ntmps8
    go_wp2_with ((with_reducible refine k0.mono ?_); rintro e w0 ⟨rfl, b0⟩)
    go_ret
    exact ⟨rfl, b0⟩
end Go.Proofs.Ytnclefdlmbkjmaa
