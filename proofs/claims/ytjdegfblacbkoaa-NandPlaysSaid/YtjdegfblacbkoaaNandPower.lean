/- The contracts of the reference's power. No condition but that the number of acts is one of the machine. -/
import Derived.Test.YtjdegfblacbkoaaProg
import Derived.Test.YtjdegfblacbkoaaBlk
import Derived.Test.YtjdegfblacbkoaaNandMath
namespace Go.Proofs.Ytjdegfblacbkoaa
open Go.RowKit
theorem int_one (w : World) : (sizeOf 3).run Try.prog w = .ok 1 w := by kernel_rfl
theorem bool_one (w : World) : (sizeOf 4).run Try.prog w = .ok 1 w := by kernel_rfl
theorem int_flat (w : World) : (isAgg 3).run Try.prog w = .ok false w := by kernel_rfl
theorem bool_flat (w : World) : (isAgg 4).run Try.prog w = .ok false w := by kernel_rfl
/-- in block p lies the reference's power -/
def RPow (w : World) (p : Nat) (s : NM.Pwr) : Prop := Blk w p 48 s.cells
set_option maxHeartbeats 1000000 in
theorem refCut_any (p : Nat) (s : NM.Pwr) (after keep : Int) (w : World) (h : RPow w p s) :
    Calls Try.prog 30 #[.pointer (some ⟨p, 0, none⟩), .int .i64 after, .int .i64 keep] w fun e w' => e = .returned (.tuple #[]) ∧ RPow w' p (s.cut after keep) ∧ w.grownBy w' (some p) := by
  obtain ⟨off, a0, k0⟩ := s
  have h0 : Blk w p 48 [.bool off, .int .i64 a0, .int .i64 k0] := h
  by_cases hneg : after < 0
  · have hd : decide (after < 0) = true := by simp [hneg]
    have HN := Lib.hid hneg
    clear hneg
    go_enter Try.func30, Try.ntmps30
    go_wp2_with (first | (with_reducible refine wpl_blk_int .i64 after int_one (.tmp 9) (.tmp 7) rfl rfl h0 1 (by simp) rfl rfl [.bool off, .int .i64 after, .int .i64 k0] rfl ?_; intro w1 h1 g1 e1) | (with_reducible refine wpl_blk_int .i64 keep int_one (.tmp 13) (.tmp 11) rfl rfl h1 2 (by simp) rfl rfl [.bool off, .int .i64 after, .int .i64 keep] rfl ?_; intro w2 h2 g2 e2) | (with_reducible refine wpl_blk_int .i64 (-1) int_one (.tmp 18) (.const (.int .i64 (-1))) rfl rfl h2 1 (by simp) rfl rfl [.bool off, .int .i64 (-1), .int .i64 keep] rfl ?_; intro w3 h3 g3 e3))
    go_end0
    exact ⟨rfl, by unfold RPow NM.Pwr.cut NM.Pwr.cells; rw [if_pos HN.out]; exact h3, (g1.trans g2).trans g3⟩
  · have hd : decide (after < 0) = false := by simp [hneg]
    have HN := Lib.hid hneg
    clear hneg
    go_enter Try.func30, Try.ntmps30
    go_wp2_with (first | (with_reducible refine wpl_blk_int .i64 after int_one (.tmp 9) (.tmp 7) rfl rfl h0 1 (by simp) rfl rfl [.bool off, .int .i64 after, .int .i64 k0] rfl ?_; intro w1 h1 g1 e1) | (with_reducible refine wpl_blk_int .i64 keep int_one (.tmp 13) (.tmp 11) rfl rfl h1 2 (by simp) rfl rfl [.bool off, .int .i64 after, .int .i64 keep] rfl ?_; intro w2 h2 g2 e2))
    go_end0
    exact ⟨rfl, by unfold RPow NM.Pwr.cut NM.Pwr.cells; rw [if_neg (by have := HN.out; simp; omega)]; exact h2, g1.trans g2⟩
set_option maxHeartbeats 1000000 in
theorem refOn_any (p : Nat) (s : NM.Pwr) (w : World) (h : RPow w p s) :
    Calls Try.prog 32 #[.pointer (some ⟨p, 0, none⟩)] w fun e w' => e = .returned (.tuple #[]) ∧ RPow w' p s.on ∧ w.grownBy w' (some p) := by
  obtain ⟨off, a0, k0⟩ := s
  have h0 : Blk w p 48 [.bool off, .int .i64 a0, .int .i64 k0] := h
  go_enter Try.func32, Try.ntmps32
  go_wp2_with (first | (with_reducible refine wpl_blk_bool false bool_one (.tmp 4) (.const (.bool false)) rfl rfl h0 0 (by simp) rfl rfl [.bool false, .int .i64 a0, .int .i64 k0] rfl ?_; intro w1 h1 g1 e1) | (with_reducible refine wpl_blk_int .i64 (-1) int_one (.tmp 7) (.const (.int .i64 (-1))) rfl rfl h1 1 (by simp) rfl rfl [.bool false, .int .i64 (-1), .int .i64 k0] rfl ?_; intro w2 h2 g2 e2))
  go_end0
  exact ⟨rfl, h2, g1.trans g2⟩
set_option maxHeartbeats 1000000 in
theorem refAct_any (p : Nat) (s : NM.Pwr) (hs : s.fits) (w : World) (h : RPow w p s) :
    Calls Try.prog 48 #[.pointer (some ⟨p, 0, none⟩)] w fun e w' => e = .returned (.bool s.act.2) ∧ RPow w' p s.act.1 ∧ w.grownBy w' (some p) := by
  obtain ⟨off, a0, k0⟩ := s
  obtain ⟨hs1, hs2⟩ := hs
  simp only at hs1 hs2
  have h0 : Blk w p 48 [.bool off, .int .i64 a0, .int .i64 k0] := h
  by_cases hneg : a0 < 0
  · have hd : decide (a0 < 0) = true := by simp [hneg]
    have HN := Lib.hid hneg
    clear hneg
    go_enter Try.func48, Try.ntmps48
    go_wp2_with (with_reducible refine wpl_blk_load int_flat (.tmp 5) rfl rfl h0 1 rfl rfl ?_)
    go_ret
    unfold NM.Pwr.act
    rw [if_pos HN.out]
    exact ⟨rfl, h, World.grownBy.refl w _⟩
  · have hd : decide (a0 < 0) = false := by simp [hneg]
    have HN := Lib.hid hneg
    clear hneg
    have hw : IntKind.i64.wrap (a0 - 1) = a0 - 1 := by rw [IntKind.wrap_i64]; have := HN.out; omega
    by_cases hz : a0 = 0
    · subst hz
      go_enter Try.func48, Try.ntmps48
      go_wp2_with (first | (with_reducible refine wpl_blk_load int_flat (.tmp 5) rfl rfl h0 1 rfl rfl ?_) | (with_reducible refine wpl_blk_load int_flat (.tmp 10) rfl rfl h0 1 rfl rfl ?_) | (with_reducible refine wpl_blk_bool true bool_one (.tmp 15) (.const (.bool true)) rfl rfl h0 0 (by simp) rfl rfl [.bool true, .int .i64 0, .int .i64 k0] rfl ?_; intro w1 h1 g1 e1) | (with_reducible refine wpl_blk_load int_flat (.tmp 18) rfl rfl h1 1 rfl rfl ?_) | (with_reducible refine wpl_blk_int .i64 (-1) int_one (.tmp 22) (.tmp 20) rfl rfl h1 1 (by simp) rfl rfl [.bool true, .int .i64 (-1), .int .i64 k0] rfl ?_; intro w2 h2 g2 e2) | (with_reducible refine wpl_blk_load bool_flat (.tmp 25) rfl rfl h2 0 rfl rfl ?_))
      go_ret
      unfold NM.Pwr.act
      rw [if_neg (by simp)]
      refine ⟨by simp, ?_, g1.trans g2⟩
      unfold RPow NM.Pwr.cells
      simpa using h2
    · have hz' : (a0 == 0) = false := by simp [hz]
      go_enter Try.func48, Try.ntmps48
      go_wp2_with (first | (with_reducible refine wpl_blk_load int_flat (.tmp 5) rfl rfl h0 1 rfl rfl ?_) | (with_reducible refine wpl_blk_load int_flat (.tmp 10) rfl rfl h0 1 rfl rfl ?_) | (with_reducible refine wpl_blk_load int_flat (.tmp 18) rfl rfl h0 1 rfl rfl ?_) | (with_reducible refine wpl_blk_int .i64 (a0 - 1) int_one (.tmp 22) (.tmp 20) rfl rfl h0 1 (by simp) rfl rfl [.bool off, .int .i64 (a0 - 1), .int .i64 k0] rfl ?_; intro w2 h2 g2 e2) | (with_reducible refine wpl_blk_load bool_flat (.tmp 25) rfl rfl h2 0 rfl rfl ?_))
      go_ret
      unfold NM.Pwr.act
      rw [if_neg (by have := HN.out; simp; omega)]
      refine ⟨by simp [hz'], ?_, g2⟩
      unfold RPow NM.Pwr.cells
      simpa [hz'] using h2
end Go.Proofs.Ytjdegfblacbkoaa
