/- The contract of the document's Same: are two nodes one? No condition but that the bodies are there. -/
import Derived.Test.YtdmganpblkepfaaNode
namespace Go.Proofs.Ytdmganpblkepfaa
open Go.RowKit
def sameB (k1 k2 : Int) (e1 e2 : Nat) (l1 l2 : List UInt8) : Bool := decide (k1 = k2 ∧ e1 = e2 ∧ l1 = l2)
theorem sameB_yes (k : Int) (e : Nat) (l : List UInt8) : sameB k k e e l l = true := by simp [sameB]
set_option maxRecDepth 100000 in
set_option maxHeartbeats 1000000 in
theorem nsame_any (k1 k2 : Int) (e1 e2 : Nat) (v1 v2 : Value) (l1 l2 : List UInt8) (w : World) (B1 B2 : Nat) (h1 : Bytes w B1 v1 l1) (h2 : Bytes w B2 v2 l2) (hB1 : B1 ≤ w.heap.size) (hB2 : B2 ≤ w.heap.size) :
    Calls Try.prog 15 #[.agg #[.int .i64 k1, .int .u64 (e1 : Int), v1], .agg #[.int .i64 k2, .int .u64 (e2 : Int), v2]] w fun x w' => x = .returned (.bool (sameB k1 k2 e1 e2 l1 l2)) ∧ Below w.heap.size w w' := by
  have b1 := (Below.refl w.heap.size w).alloc (Nat.le_refl _) (.cells #[.int .i64 k1, .int .u64 (e1 : Int), v1] 25)
  have b2 := Lib.hid (b1.alloc b1.size (.cells #[.int .i64 k2, .int .u64 (e2 : Int), v2] 25))
  have D1 := (h1.more hB1).below b2.out
  have D2 := (h2.more hB2).below b2.out
  have S1 := str_of D1
  have S2 := str_of D2
  obtain ⟨A1, c1, rfl, _, _, _⟩ := h1
  obtain ⟨A2, c2, rfl, _, _, _⟩ := h2
  obtain ⟨r, hr⟩ : ∃ r, r = sameB k1 k2 e1 e2 l1 l2 := ⟨_, rfl⟩
  rw [← hr]
  unfold sameB at hr
  clear D1 D2 b1
  by_cases ek : k1 = k2
  · subst ek
    by_cases ee : e1 = e2
    · subst ee
      by_cases el : l1 = l2
      · subst el
        obtain rfl : r = true := by simp [hr]
        clear hr
        go_enter Try.func15, Try.ntmps15
        go_wp2
        go_ret
        exact ⟨rfl, b2.out⟩
      · obtain rfl : r = false := by simp [hr, el]
        clear hr
        have hs : (l1 == l2) = false := by simp [el]
        go_enter Try.func15, Try.ntmps15
        go_wp2
        go_ret
        exact ⟨rfl, b2.out⟩
    · obtain rfl : r = false := by simp [hr, ee]
      clear hr
      have hs : ((e1 : Int) == (e2 : Int)) = false := by simp; omega
      go_enter Try.func15, Try.ntmps15
      go_wp2
      go_ret
      exact ⟨rfl, b2.out⟩
  · obtain rfl : r = false := by simp [hr, ek]
    clear hr
    have hs : (k1 == k2) = false := by simp [ek]
    go_enter Try.func15, Try.ntmps15
    go_wp2
    go_ret
    exact ⟨rfl, b2.out⟩
end Go.Proofs.Ytdmganpblkepfaa
