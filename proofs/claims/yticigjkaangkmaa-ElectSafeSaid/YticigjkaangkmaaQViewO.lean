/- Layer 12: Shrink and Grow. No condition. -/
import Derived.Test.YticigjkaangkmaaQViewN
namespace Go.Proofs.Yticigjkaangkmaa
open Go Go.RowKit
theorem yields_vload {ops : Array Oper} {o : Oper} {a : Act} {S : World → Prop} {g : Nat} {t : TypeId} {x0 x1 x2 : Value} (x : Operand) (ho : o.op = .load 24 x) (hgd : Region.wanted o (yielded ops a.tmps) = true)
    (hx : a.eval x = .pointer (some ⟨g, 0, none⟩)) (hS : ∀ w, S w → Blk w g t [x0, x1, x2]) : YieldsIf Try.prog ops S o (.agg #[x0, x1, x2]) a :=
  yields_seg (vs := [x0, x1, x2]) aggV sizeV x ho hgd hx hS rfl rfl
/-- three cells of a block set, one by one -/
theorem set3 {w : World} {g : Nat} {t : TypeId} {x0 x1 x2 : Value} (h : Blk w g t [x0, x1, x2]) (y0 y1 y2 : Value) :
    Blk (((w.setCell ⟨g, 0, none⟩ y0).setCell ⟨g, 1, none⟩ y1).setCell ⟨g, 2, none⟩ y2) g t [y0, y1, y2] ∧ w.grownBy (((w.setCell ⟨g, 0, none⟩ y0).setCell ⟨g, 1, none⟩ y1).setCell ⟨g, 2, none⟩ y2) (some g) := by
  refine ⟨((h.set 0 y0).set 1 y1).set 2 y2, ⟨rfl, rfl, rfl, by simp, fun k _ hk => ?_⟩⟩
  have hne : k ≠ g := by simpa using hk
  rw [heap_setCell_other _ _ k _ (by simpa using hne), heap_setCell_other _ _ k _ (by simpa using hne), heap_setCell_other _ _ k _ (by simpa using hne)]
/-- one chip, or both, as they are handed in -/
theorem has1_any (v : VV) (c : Int) (W : World) : Calls Try.prog 14 #[va v, .slice (some ⟨W.heap.size, 0, none⟩) 1 1] (W.alloc (.cells #[.int .i64 c] 3)) fun e w' => e = .returned (.bool (v.has c)) ∧ Below W.heap.size W w' := by
  have h := hasC_any v (some ⟨W.heap.size, 0, none⟩) [c] 1 (W.alloc (.cells #[.int .i64 c] 3)) (W.heap.size + 1) (by rw [World.size_alloc]; exact Nat.le_refl _) (Row.new W #[.int .i64 c] 3 (0, 0) W.heap.size rfl (Nat.lt_succ_self _)) (by simp)
  refine h.mono ?_
  rintro e w' ⟨rfl, hb⟩
  have b1 := (Below.refl W.heap.size W).alloc (Nat.le_refl _) (.cells #[.int .i64 c] 3)
  exact ⟨by simp, b1.trans (hb.mono b1.size)⟩
theorem has2_any (v : VV) (W : World) : Calls Try.prog 14 #[va v, .slice (some ⟨W.heap.size, 0, none⟩) 2 2] (W.alloc (.cells #[.int .i64 0, .int .i64 1] 3)) fun e w' => e = .returned (.bool (v.has 0 && v.has 1)) ∧ Below W.heap.size W w' := by
  have h := hasC_any v (some ⟨W.heap.size, 0, none⟩) [0, 1] 2 (W.alloc (.cells #[.int .i64 0, .int .i64 1] 3)) (W.heap.size + 1) (by rw [World.size_alloc]; exact Nat.le_refl _) (Row.new W #[.int .i64 0, .int .i64 1] 3 (0, 0) W.heap.size rfl (Nat.lt_succ_self _)) (by simp)
  refine h.mono ?_
  rintro e w' ⟨rfl, hb⟩
  have b1 := (Below.refl W.heap.size W).alloc (Nat.le_refl _) (.cells #[.int .i64 0, .int .i64 1] 3)
  exact ⟨by simp, b1.trans (hb.mono b1.size)⟩
theorem has1_at (v : VV) (c : Int) (W : World) (n : Nat) (hn : W.heap.size = n) : Calls Try.prog 14 #[va v, .slice (some ⟨n, 0, none⟩) 1 1] (W.alloc (.cells #[.int .i64 c] 3)) fun e w' => e = .returned (.bool (v.has c)) ∧ Below W.heap.size W w' := by
  subst hn
  exact has1_any v c W
theorem has2_at (v : VV) (W : World) (n : Nat) (hn : W.heap.size = n) : Calls Try.prog 14 #[va v, .slice (some ⟨n, 0, none⟩) 2 2] (W.alloc (.cells #[.int .i64 0, .int .i64 1] 3)) fun e w' => e = .returned (.bool (v.has 0 && v.has 1)) ∧ Below W.heap.size W w' := by
  subst hn
  exact has2_any v W
theorem VV.shrink_no {v : VV} {c : Int} {b : Nat} (h : v.has c = false) : v.shrink c b = (VV.zero, 1) := by unfold VV.shrink; rw [h]; rfl
theorem VV.shrink_yes {v : VV} {c : Int} {b : Nat} (h : v.has c = true) : v.shrink c b = v.next (c + 1) b := by unfold VV.shrink; rw [h]; rfl
theorem VV.grow_no {v : VV} {b : Nat} (h : (v.has 0 && v.has 1) = true) : v.grow b = (VV.zero, 1) := by unfold VV.grow; rw [if_pos (by simpa using h)]
theorem VV.grow_yes {v : VV} {b : Nat} (h : (v.has 0 && v.has 1) = false) : v.grow b = v.next 3 b := by unfold VV.grow; rw [if_neg (by simpa using h)]
set_option maxRecDepth 100000 in
set_option maxHeartbeats 4000000 in
theorem shrink_any (v : VV) (c : Int) (b : Nat) (w : World) :
    Calls Try.prog 12 #[va v, .int .i64 c, .int .u64 (b : Int)] w fun e w' => e = .returned (.tuple #[va (v.shrink c b).1, .int .i64 (v.shrink c b).2]) ∧ Below w.heap.size w w' := by
  obtain ⟨b1, P1, R1⟩ := boxes w v
  have b1 := Lib.hid b1
  have P1 := Lib.hid P1
  have R1 := Lib.hid R1
  have hgr := Lib.hid R1.out.lt
  obtain ⟨W, hW⟩ : ∃ W, W = (w.alloc (.cells #[.int .u64 (v.n : Int), .int .i64 v.m, .int .u64 (v.b : Int)] 24)).alloc (.cells #[.int .u64 0, .int .i64 0, .int .u64 0] 24) := ⟨_, rfl⟩
  have HW := Lib.hid hW
  rw [← hW] at b1 P1 R1 hgr
  clear hW
  have kh := has1_at v c W (w.heap.size + 1 + 1) (by rw [HW.out]; simp [World.size_alloc])
  cases hr : v.has c
  · rw [hr] at kh
    have HN := Lib.hid (VV.shrink_no (b := b) hr)
    clear hr
    go_enter Try.func12, Try.ntmps12
    go_wp2_with fail
    rw [← HW.out]
    ((with_reducible refine kh.mono ?_); rintro e w2 ⟨rfl, b2⟩)
    have T2 := Lib.hid (b1.out.trans (b2.mono b1.out.size))
    have R2 := Lib.hid (R1.out.after b2)
    have P2 := Lib.hid (P1.out.after b2)
    clear b2
    go_wp2_with ((with_reducible refine wpl_vstore (.tmp 6) (.tmp 13) rfl rfl R2.out rfl rfl rfl rfl rfl ?_); intro w9 R9 g9 e9; have T9 := Lib.hid (T2.out.grown g9 T2.out.size (fun k e => by cases e; exact Nat.le_succ _)); have S9 := Lib.hid R9; clear R9 g9 e9)
    refine bodyPost_ret (vret2 rfl _ S9.out rfl) rfl ?_
    rw [HN.out]
    exact ⟨rfl, T9.out⟩
  · rw [hr] at kh
    have HN := Lib.hid (VV.shrink_yes (b := b) hr)
    have hc := has_chip hr
    clear hr
    obtain ⟨m, hm⟩ : ∃ m, c + 1 = m := ⟨_, rfl⟩
    have KA : Hid (∀ w : World, Calls Try.prog 25 #[.int .i64 c] w fun e w' => e = .returned (.int .i64 m) ∧ w = w') := Lib.hid (by
      rcases hc with rfl | rfl
      · subst hm; exact alone_zero
      · subst hm; exact alone_one)
    have KN := Lib.hid (fun w => next_any v m b w)
    rw [hm] at HN
    obtain ⟨x, hx⟩ : ∃ x, (v.next m b).1 = x := ⟨_, rfl⟩
    obtain ⟨er, her⟩ : ∃ er, (v.next m b).2 = er := ⟨_, rfl⟩
    rw [hx, her] at KN
    have HX : Hid ((v.shrink c b).1 = x ∧ (v.shrink c b).2 = er) := Lib.hid ⟨by rw [HN.out, hx], by rw [HN.out, her]⟩
    clear hc hm hx her HN
    go_enter Try.func12, Try.ntmps12
    go_wp2_with fail
    rw [← HW.out]
    ((with_reducible refine kh.mono ?_); rintro e w2 ⟨rfl, b2⟩)
    have T2 := Lib.hid (b1.out.trans (b2.mono b1.out.size))
    have R2 := Lib.hid (R1.out.after b2)
    have P2 := Lib.hid (P1.out.after b2)
    clear b2
    go_wp2_with fail
    have S0 : Blk w2.drew w.heap.size 24 [.int .u64 (v.n : Int), .int .i64 v.m, .int .u64 (v.b : Int)] := P2.out
    refine wp_region_held_drew (S := (fun w' => Blk w' w.heap.size 24 [.int .u64 (v.n : Int), .int .i64 v.m, .int .u64 (v.b : Int)])) (by kernel_rfl) S0 (fun _ => ?_)
    refine wpAnyH_take (i := 0) (v := va v) rfl (by kernel_rfl) (by kernel_rfl) (by kernel_rfl) (fun _ _ _ h => h) (yields_vload (g := w.heap.size) (.tmp 3) (by kernel_rfl) (by kernel_rfl) (by kernel_rfl) (fun w h => h)) S0 ?_
    refine wpAnyH_take (i := 1) (v := .int .i64 c) rfl (by kernel_rfl) (by kernel_rfl) (by kernel_rfl) (fun _ _ _ h => h) (Or.inl ⟨by kernel_rfl, fun w _ => by go_simp⟩) S0 ?_
    refine wpAnyH_take (i := 3) (v := .int .u64 (b : Int)) rfl (by kernel_rfl) (by kernel_rfl) (by kernel_rfl) (fun _ _ _ h => h) (Or.inl ⟨by kernel_rfl, fun w _ => by go_simp⟩) S0 ?_
    refine wpAnyH_ready (rs := [2]) (by kernel_rfl) (by simp) (AllReadyH.cons rfl (fun K hK => ?_) AllReadyH.nil)
    go_simp
    ((with_reducible refine (KA.out _).mono ?_); rintro x3 w3 ⟨rfl, rfl⟩)
    refine hK.out _ _ S0 (fun _ => ?_)
    clear hK K
    refine wpAnyH_ready (rs := [4]) (by kernel_rfl) (by simp) (AllReadyH.cons rfl (fun K hK => ?_) AllReadyH.nil)
    go_simp
    ((with_reducible refine (KN.out _).mono ?_); rintro x4 w4 ⟨rfl, b4⟩)
    have S1 := S0.after b4
    refine hK.out _ _ S1 (fun _ => ?_)
    clear hK K
    have R4 := Lib.hid (Blk.after (w := w2.drew) R2.out b4)
    have T4 := Lib.hid (T2.out.drew.trans (b4.mono T2.out.size))
    clear b4
    refine wpAnyH_take (i := 5) (v := va x) rfl (by kernel_rfl) (by kernel_rfl) (by kernel_rfl) (fun _ _ _ h => h) (Or.inl ⟨by kernel_rfl, fun w _ => by go_simp⟩) S1 ?_
    refine wpAnyH_take (i := 6) (v := .int .i64 er) rfl (by kernel_rfl) (by kernel_rfl) (by kernel_rfl) (fun _ _ _ h => h) (Or.inl ⟨by kernel_rfl, fun w _ => by go_simp⟩) S1 ?_
    have x0 := R4.out.cell 0
    have x1 := R4.out.cell 1
    have x2 := R4.out.cell 2
    have f0 := R4.out.free 0
    have f1 := R4.out.free 1
    have f2 := R4.out.free 2
    simp only [List.getElem?_cons_zero, List.getElem?_cons_succ] at x0 x1 x2
    obtain ⟨R6, g6⟩ := set3 R4.out (.int .u64 (x.n : Int)) (.int .i64 x.m) (.int .u64 (x.b : Int))
    have S6 := S1.grown g6 (by simp)
    have T6 := Lib.hid (T4.out.grown g6 T4.out.size (fun k e => by cases e; exact Nat.le_succ _))
    have R6 := Lib.hid R6
    clear g6
    refine wpAnyH_ready (rs := [7]) (by kernel_rfl) (by simp) (AllReadyH.cons rfl (fun K hK => ?_) AllReadyH.nil)
    go_simp
    refine hK.out _ _ S6 (fun _ => ?_)
    clear hK K
    refine wpAnyH_take (i := 8) (v := .int .i64 er) rfl (by kernel_rfl) (by kernel_rfl) (by kernel_rfl) (fun _ _ _ h => h) (Or.inl ⟨by kernel_rfl, fun w _ => by go_simp⟩) S6 ?_
    refine wpAnyH_done (by kernel_rfl) ?_ _
    go_wp2_with fail
    refine bodyPost_ret (vret2 rfl _ R6.out rfl) rfl ?_
    rw [HX.out.1, HX.out.2]
    exact ⟨rfl, T6.out⟩
end Go.Proofs.Yticigjkaangkmaa

