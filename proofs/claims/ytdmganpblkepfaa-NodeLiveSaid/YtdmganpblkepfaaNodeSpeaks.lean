/- The example of the document for layer 9 holds. No condition. -/
import Derived.Test.YtdmganpblkepfaaNodeRead
import Derived.Lib.SlBytesConst
namespace Go.Proofs.Ytdmganpblkepfaa
open Go.RowKit
set_option maxRecDepth 100000 in
set_option maxHeartbeats 1000000 in
theorem nodespeaks_any (w : World) :
    Calls Try.prog 12 #[] w fun e w' => e = .returned (.bool true) ∧ Below w.heap.size w w' := by
  have hv : Bytes (w.alloc (.cells #[.int .u8 120] 5 (1, 2))) (w.alloc (.cells #[.int .u8 120] 5 (1, 2))).heap.size (.slice (some ⟨w.heap.size, 0, none⟩) 1 1) [120] := Bytes.lit w [120] 1 rfl (by simp [maxLen]) _ rfl _ _ _ rfl _ (by simp)
  have k : Calls Try.prog 13 #[.agg #[.int .i64 7, .int .u64 258, .slice (some ⟨w.heap.size, 0, none⟩) 1 1]] (w.alloc (.cells #[.int .u8 120] 5 (1, 2))) fun x w' => ∃ g c, x = .returned (.tuple #[.slice (some ⟨g, 0, none⟩) 10 c, .int .i64 0]) ∧ Own 5 w' (w.alloc (.cells #[.int .u8 120] 5 (1, 2))).heap.size (.slice (some ⟨g, 0, none⟩) 10 c) (nb 7 258 [120]) ∧ Below (w.alloc (.cells #[.int .u8 120] 5 (1, 2))).heap.size (w.alloc (.cells #[.int .u8 120] 5 (1, 2))) w' := nwrite_yes 7 258 (.slice (some ⟨w.heap.size, 0, none⟩) 1 1) [120] _ (by omega) hv (by simp)
  rw [show nb 7 258 [120] = [7, 2, 1, 0, 0, 0, 0, 0, 0, 120] by decide] at k
  have hb1 := Lib.hid ((Below.refl w.heap.size w).alloc (Nat.le_refl _) (.cells #[.int .u8 120] 5 (1, 2)))
  have HK := Lib.hid k
  have kc := fun (w : World) (C : Array Value) (n c : Nat) => Lib.run_convert_bytes_const (P := Try.prog) w 23 5 C n c Try.underlying23 Try.underlying5
  clear hv k
  go_enter Try.func12, Try.ntmps12
  go_wp2_with fail
  refine HK.out.mono ?_
  rintro e w2 ⟨g, c, rfl, O2, hb2⟩
  have D2 := O2.bytes (by simp [maxLen])
  have hs := str_of D2
  have hb3 := Lib.hid (hb1.out.trans (hb2.mono (by simp)))
  clear D2 O2 hb2
  go_wp2
  go_ret
  exact ⟨rfl, hb3.out⟩
end Go.Proofs.Ytdmganpblkepfaa
