/- The example of the document holds: the check sum of the nine digits. Condition: the table holds its sixteen numbers. -/
import Derived.Test.YtpokndigknkjmaaDoorCrcRef
import Derived.Lib.SlBytesConst
namespace Go.Proofs.YtpokndigknkjmaaDoor
open Go.RowKit

theorem speaks_any (w : World) (ht : Tab w) :
    Calls Tryd.prog 7 #[] w fun e w' => e = .returned (.bool true) ∧ Below w.heap.size w w' := by
  have H := Lib.hid ht
  clear ht
  have kc := fun (w : World) (C : Array Value) (n c : Nat) => Lib.run_convert_bytes_const (P := Tryd.prog) w 25 5 C n c Tryd.underlying25 Tryd.underlying5
  go_enter Tryd.func7, Tryd.ntmps7
  go_wp2_with fail
  refine (sum_call _ [49, 50, 51, 52, 53, 54, 55, 56, 57] _ (w.heap.size + 2) ?c1 ?c2).mono ?_
  case c1 =>
    intro r hr
    exact (Lib.cell?_alloc_marked _ (Lib.cell?_alloc_marked _ (H.out r hr)))
  case c2 =>
    have hd : Bytes (w.alloc (.cells #[.int .u8 49, .int .u8 50, .int .u8 51, .int .u8 52, .int .u8 53, .int .u8 54, .int .u8 55, .int .u8 56, .int .u8 57] 5 (9, 10))) (w.heap.size + 1)
        (.slice (some ⟨w.heap.size, 0, none⟩) 9 9) [49, 50, 51, 52, 53, 54, 55, 56, 57] :=
      ⟨_, _, rfl, by simp, by simp [maxLen], Row.new w _ _ _ _ rfl (by omega)⟩
    exact Joined.one hd (by simp) _ (by simp) _ (by simp) _
  rintro e w' ⟨rfl, rfl⟩
  rw [show CM.on 0 [49, 50, 51, 52, 53, 54, 55, 56, 57] = 3421780262 from by decide +kernel]
  go_wp2
  go_ret
  exact ⟨rfl, ((Below.refl _ _).alloc (Nat.le_refl _) _).alloc (by simp) _⟩
end Go.Proofs.YtpokndigknkjmaaDoor
