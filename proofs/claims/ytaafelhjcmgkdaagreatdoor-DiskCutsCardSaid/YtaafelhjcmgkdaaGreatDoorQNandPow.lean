/- The contracts of the program's power. Condition at an act: it is on; the number of acts is one of the machine. -/
import Derived.Test.YtaafelhjcmgkdaaGreatDoorQNandA
namespace Go.Proofs.YtaafelhjcmgkdaaGreatDoor
open Go.RowKit
/-- in block p lies the program's power, which is as s -/
def PPow (w : World) (p : Nat) (s : NM.Pwr) : Prop := ∃ (ends : Bool) (a k : Int), Blk w p 79 [.bool s.off, .bool ends, .int .i64 a, .int .i64 k] ∧ (s.off = false → (ends = false ∧ s.after < 0) ∨ (ends = true ∧ a = s.after ∧ 0 ≤ a ∧ k = s.keep))
section
variable {w w' : World} {p : Nat} {s : NM.Pwr}
theorem PPow.lt (h : PPow w p s) : p < w.heap.size := by
  obtain ⟨_, _, _, h, _⟩ := h
  exact h.lt
theorem PPow.after (h : PPow w p s) (hb : Below w.heap.size w w') : PPow w' p s := by
  obtain ⟨e, a, k, h, r⟩ := h
  exact ⟨e, a, k, h.after hb, r⟩
theorem PPow.alloc (h : PPow w p s) (o : Obj) : PPow (w.alloc o) p s := h.after ((Below.refl _ _).alloc (Nat.le_refl _) o)
theorem PPow.drew (h : PPow w p s) : PPow w.drew p s := h
theorem PPow.grown {row : Option Nat} (h : PPow w p s) (hg : w.grownBy w' row) (hk : some p ≠ row) : PPow w' p s := by
  obtain ⟨e, a, k, h, r⟩ := h
  exact ⟨e, a, k, h.grown hg hk, r⟩
end
set_option maxHeartbeats 1000000 in
theorem cut_any (p : Nat) (s : NM.Pwr) (after keep : Int) (w : World) (h : PPow w p s) :
    Calls Tryz.prog 15 #[.pointer (some ⟨p, 0, none⟩), .int .i64 after, .int .i64 keep] w fun e w' => e = .returned (.tuple #[]) ∧ PPow w' p (s.cut after keep) ∧ w.grownBy w' (some p) := by
  obtain ⟨ends, a0, k0, h0, hr⟩ := h
  obtain ⟨d, hd⟩ : ∃ d, d = decide ((0 : Int) ≤ after) := ⟨_, rfl⟩
  have HD := Lib.hid hd
  obtain ⟨off, ha, kp⟩ := s
  simp only at h0
  have hd' := hd.symm
  clear hr hd
  go_enter Tryz.func15, Tryz.ntmps15
  go_wp2_with (first | (with_reducible refine wpl_blk_bool d bool_one (.tmp 14) (.tmp 10) rfl rfl h0 1 (by simp) rfl rfl [.bool off, .bool d, .int .i64 a0, .int .i64 k0] rfl ?_; intro w1 h1 g1 e1) | (with_reducible refine wpl_blk_int .i64 after int_one (.tmp 16) (.tmp 11) rfl rfl h1 2 (by simp) rfl rfl [.bool off, .bool d, .int .i64 after, .int .i64 k0] rfl ?_; intro w2 h2 g2 e2) | (with_reducible refine wpl_blk_int .i64 keep int_one (.tmp 18) (.tmp 12) rfl rfl h2 3 (by simp) rfl rfl [.bool off, .bool d, .int .i64 after, .int .i64 keep] rfl ?_; intro w3 h3 g3 e3))
  go_end0
  refine ⟨rfl, ⟨d, after, keep, h3, fun _ => ?_⟩, (g1.trans g2).trans g3⟩
  unfold NM.Pwr.cut
  by_cases hn : after < 0
  · exact .inl ⟨by rw [HD.out]; simp; omega, by simp only [if_pos hn]; omega⟩
  · exact .inr ⟨by rw [HD.out]; simp; omega, by simp only [if_neg hn], by omega, rfl⟩
theorem off_any (p : Nat) (s : NM.Pwr) (w : World) (h : PPow w p s) : Calls Tryz.prog 16 #[.pointer (some ⟨p, 0, none⟩)] w fun e w' => e = .returned (.bool s.off) ∧ w = w' := by
  obtain ⟨ends, a0, k0, h0, hr⟩ := h
  have c0 : w.cell? ⟨p, 0, none⟩ = some (.bool s.off) := h0.cell 0
  clear h0 hr
  go_enter Tryz.func16, Tryz.ntmps16
  go_wp2
  go_ret
  exact ⟨rfl, rfl⟩
set_option maxHeartbeats 1000000 in
theorem pon_any (p : Nat) (s : NM.Pwr) (w : World) (h : PPow w p s) :
    Calls Tryz.prog 17 #[.pointer (some ⟨p, 0, none⟩)] w fun e w' => e = .returned (.tuple #[]) ∧ PPow w' p s.on ∧ w.grownBy w' (some p) := by
  obtain ⟨ends, a0, k0, h0, hr⟩ := h
  have c0 := h0.cell 0
  have c1 := h0.cell 1
  have c2 := h0.cell 2
  have c3 := h0.cell 3
  simp only [List.getElem?_cons_succ, List.getElem?_cons_zero] at c0 c1 c2 c3
  have f0 := h0.free 0
  have f1 := h0.free 1
  have f2 := h0.free 2
  have f3 := h0.free 3
  have H := Lib.hid h0
  clear hr h0
  go_enter Tryz.func17, Tryz.ntmps17
  go_wp2_with fail
  trace_state
  go_end0
  have q := (((H.out.set 0 (.bool false)).set 1 (.bool false)).set 2 (.int .i64 0)).set 3 (.int .i64 0)
  refine ⟨rfl, ⟨false, 0, 0, q, fun _ => .inl ⟨rfl, by show (-1 : Int) < 0; omega⟩⟩, ?_⟩
  exact ⟨rfl, rfl, rfl, by simp, fun k hk hne => by
    have hp : k ≠ p := by simpa using hne
    rw [heap_setCell_other _ _ k _ (by simpa using hp), heap_setCell_other _ _ k _ (by simpa using hp), heap_setCell_other _ _ k _ (by simpa using hp), heap_setCell_other _ _ k _ (by simpa using hp)]⟩
set_option maxHeartbeats 2000000 in
theorem draw_any (p : Nat) (s : NM.Pwr) (hs : s.fits) (hoff : s.off = false) (w : World) (h : PPow w p s) :
    Calls Tryz.prog 68 #[.pointer (some ⟨p, 0, none⟩)] w fun e w' => e = .returned (.tuple #[.int .i64 (if s.act.2 then s.keep else 0), .bool s.act.2]) ∧ PPow w' p s.act.1 ∧ w.grownBy w' (some p) := by
  have h' := h
  obtain ⟨ends, a0, k0, h0, hr⟩ := h
  obtain ⟨off, af, kp⟩ := s
  simp only at hoff h0 hr
  subst hoff
  rcases hr rfl with ⟨rfl, ha⟩ | ⟨rfl, rfl, ha, rfl⟩
  · have hact : NM.Pwr.act ⟨false, af, kp⟩ = (⟨false, af, kp⟩, false) := by unfold NM.Pwr.act; rw [if_pos ha]
    rw [hact]
    have H := Lib.hid h'
    clear hr ha h' hact
    go_enter Tryz.func68, Tryz.ntmps68
    go_wp2_with (with_reducible refine wpl_blk_load bool_flat (.tmp 6) rfl rfl h0 1 rfl rfl ?_)
    go_ret2
    exact ⟨rfl, H.out, World.grownBy.refl w _⟩
  · obtain ⟨hs1, hs2⟩ := hs
    simp only at hs1 hs2
    by_cases hz : a0 = 0
    · subst hz
      have hact : NM.Pwr.act ⟨false, 0, k0⟩ = (⟨true, -1, k0⟩, true) := by unfold NM.Pwr.act; rw [if_neg (by simp)]; simp
      rw [hact]
      clear hr h' hact
      go_enter Tryz.func68, Tryz.ntmps68
      go_wp2_with (first | (with_reducible refine wpl_blk_load bool_flat (.tmp 6) rfl rfl h0 1 rfl rfl ?_) | (with_reducible refine wpl_blk_load int_flat (.tmp 11) rfl rfl h0 2 rfl rfl ?_) | (with_reducible refine wpl_blk_bool true bool_one (.tmp 23) (.const (.bool true)) rfl rfl h0 0 (by simp) rfl rfl [.bool true, .bool true, .int .i64 0, .int .i64 k0] rfl ?_; intro w1 h1 g1 e1) | (with_reducible refine wpl_blk_load int_flat (.tmp 26) rfl rfl h1 3 rfl rfl ?_))
      go_ret2
      exact ⟨rfl, ⟨true, 0, k0, h1, fun e => by cases e⟩, g1⟩
    · have hpos : 0 < a0 := by omega
      have hact : NM.Pwr.act ⟨false, a0, k0⟩ = (⟨false, a0 - 1, k0⟩, false) := by unfold NM.Pwr.act; rw [if_neg (by simp; omega)]; simp [hz]
      rw [hact]
      have d1 : decide (0 < a0) = true := by simp [hpos]
      have hw : IntKind.i64.wrap (a0 - 1) = a0 - 1 := by rw [IntKind.wrap_i64]; omega
      have HP := Lib.hid hpos
      clear hr h' hact hz hpos ha
      go_enter Tryz.func68, Tryz.ntmps68
      go_wp2_with (first | (with_reducible refine wpl_blk_load bool_flat (.tmp 6) rfl rfl h0 1 rfl rfl ?_) | (with_reducible refine wpl_blk_load int_flat (.tmp 11) rfl rfl h0 2 rfl rfl ?_) | (with_reducible refine wpl_blk_load int_flat (.tmp 16) rfl rfl h0 2 rfl rfl ?_) | (with_reducible refine wpl_blk_int .i64 (a0 - 1) int_one (.tmp 20) (.tmp 18) rfl rfl h0 2 (by simp) rfl rfl [.bool false, .bool true, .int .i64 (a0 - 1), .int .i64 k0] rfl ?_; intro w1 h1 g1 e1))
      go_ret2
      exact ⟨rfl, ⟨true, a0 - 1, k0, h1, fun _ => .inr ⟨rfl, rfl, by have := HP.out; simp; omega, rfl⟩⟩, g1⟩
end Go.Proofs.YtaafelhjcmgkdaaGreatDoor

