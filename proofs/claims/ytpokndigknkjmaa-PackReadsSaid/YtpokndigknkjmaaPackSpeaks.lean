/- The example of the document holds: Nums of two numbers; and PackNames' walk. No condition. -/
import Derived.Test.YtpokndigknkjmaaPackJoin
namespace Go.Proofs.Ytpokndigknkjmaa
open Go.RowKit

theorem str_of {w : World} {B : Nat} {v : Value} {l : List UInt8} (h : Bytes w B v l) : (convert 24 9 v).run Try.prog w = .ok (.string ⟨l.toArray⟩) w :=
  run_str byteTys Try.underlying5 Try.underlying9 h

theorem speaks_any (w : World) :
    Calls Try.prog 8 #[] w fun e w' => e = .returned (.bool true) ∧ Below w.heap.size w w' := by
  go_enter Try.func8, Try.ntmps8
  go_wp2_with fail
  have hb1 := (Below.refl w.heap.size w).alloc (Nat.le_refl _) (.cells #[.int .u64 1, .int .u64 515] 25)
  have hr : Row (w.alloc (.cells #[.int .u64 1, .int .u64 515] 25)) (w.heap.size + 1) (some ⟨w.heap.size, 0, none⟩) (uv [1, 515]) := Row.new w _ _ _ _ rfl (by omega)
  refine (nums_any 2 _ [1, 515] 2 _ (w.heap.size + 1) (by simp) hr (by simp)).mono ?_
  rintro e w2 ⟨A2, n, c2, rfl, hn, O2, hb2⟩
  have hl : [1, 515].flatMap (numB (wid 2)) = [1, 0, 3, 2] := by decide
  rw [hl] at hn O2
  obtain rfl : n = 4 := hn
  have D2 := O2.bytes (by simp [maxLen])
  have hs := str_of D2
  have hb3 := hb1.trans (hb2.mono (by simp))
  clear hl D2 O2 hb2 hr
  go_wp2
  go_ret
  exact ⟨rfl, hb3⟩

theorem packNames_any (w : World) :
    Calls Try.prog 3 #[] w fun e w' => e = .returned (.bool true) ∧ Below w.heap.size w w' := by
  go_enter Try.func3, Try.ntmps3
  go_wp2_with fail
  refine (speaks_any _).mono ?_
  rintro e w1 ⟨rfl, hb1⟩
  go_wp2
  go_ret
  exact ⟨rfl, hb1⟩
end Go.Proofs.Ytpokndigknkjmaa
