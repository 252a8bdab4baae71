/- Layer 10: the contracts of the orders. No condition. -/
import Derived.Test.YtdmganpblkepfaaWearA
import Derived.Deep.QuietTactic
import Derived.BigQuiet
namespace Go.Proofs.Ytdmganpblkepfaa
open Go.RowKit WM
section
variable (a b : LV) (w : World)
theorem two_boxes (x y : Array Value) (t : TypeId) : Below w.heap.size w ((w.alloc (.cells x t)).alloc (.cells y t)) :=
  ((Below.refl w.heap.size w).alloc (Nat.le_refl _) _).alloc (by simp) _
theorem newer_any : Calls Try.prog 44 #[.agg (mrow a).toArray, .agg (mrow b).toArray] w fun e w' => e = .returned (.int .i64 (cmp3 (b.seq : Int) (a.seq : Int))) ∧ Below w.heap.size w w' := by
  show Calls Try.prog 44 #[.agg #[.int .i64 a.block, .int .u64 (a.seq : Int), .int .u64 (a.wear : Int), .slice none 0 0, .int .i64 a.counts], .agg #[.int .i64 b.block, .int .u64 (b.seq : Int), .int .u64 (b.wear : Int), .slice none 0 0, .int .i64 b.counts]] w _
  have hb := Lib.hid (two_boxes w #[.int .i64 a.block, .int .u64 (a.seq : Int), .int .u64 (a.wear : Int), .slice none 0 0, .int .i64 a.counts] #[.int .i64 b.block, .int .u64 (b.seq : Int), .int .u64 (b.wear : Int), .slice none 0 0, .int .i64 b.counts] 87)
  go_enter Try.func44, Try.ntmps44
  go_wp2_with ((with_reducible refine (compare_u64 _ _ _).mono ?_); rintro e w' ⟨rfl, rfl⟩)
  go_ret
  exact ⟨rfl, hb.out⟩
theorem lessWorn_any : Calls Try.prog 49 #[.agg (mrow a).toArray, .agg (mrow b).toArray] w fun e w' => e = .returned (.int .i64 (cmp3 (a.wear : Int) (b.wear : Int))) ∧ Below w.heap.size w w' := by
  show Calls Try.prog 49 #[.agg #[.int .i64 a.block, .int .u64 (a.seq : Int), .int .u64 (a.wear : Int), .slice none 0 0, .int .i64 a.counts], .agg #[.int .i64 b.block, .int .u64 (b.seq : Int), .int .u64 (b.wear : Int), .slice none 0 0, .int .i64 b.counts]] w _
  have hb := Lib.hid (two_boxes w #[.int .i64 a.block, .int .u64 (a.seq : Int), .int .u64 (a.wear : Int), .slice none 0 0, .int .i64 a.counts] #[.int .i64 b.block, .int .u64 (b.seq : Int), .int .u64 (b.wear : Int), .slice none 0 0, .int .i64 b.counts] 87)
  go_enter Try.func49, Try.ntmps49
  go_wp2_with ((with_reducible refine (compare_u64 _ _ _).mono ?_); rintro e w' ⟨rfl, rfl⟩)
  go_ret
  exact ⟨rfl, hb.out⟩
theorem moreWorn_any : Calls Try.prog 50 #[.agg (mrow a).toArray, .agg (mrow b).toArray] w fun e w' => e = .returned (.int .i64 (cmp3 (b.wear : Int) (a.wear : Int))) ∧ Below w.heap.size w w' := by
  have k := lessWorn_any b a ((w.alloc (.cells (mrow a).toArray 87)).alloc (.cells (mrow b).toArray 87))
  have hb := Lib.hid (two_boxes w (mrow a).toArray (mrow b).toArray 87)
  have B0 := Lib.hid ((show Blk (w.alloc (.cells (mrow a).toArray 87)) w.heap.size 87 (mrow a) from heap_alloc_new w _).alloc (.cells (mrow b).toArray 87))
  have B1 := Lib.hid (show Blk ((w.alloc (.cells (mrow a).toArray 87)).alloc (.cells (mrow b).toArray 87)) (w.heap.size + 1) 87 (mrow b) by have h := heap_alloc_new (w.alloc (.cells (mrow a).toArray 87)) (.cells (mrow b).toArray 87); rw [World.size_alloc] at h; exact h)
  have K := Lib.hid k
  have ha := Lib.hid (mrow_len a)
  have hb2 := Lib.hid (mrow_len b)
  generalize mrow a = ra at *
  generalize mrow b = rb at *
  clear k
  go_enter Try.func50, Try.ntmps50
  go_wp2_with (first
    | (with_reducible refine wpl_seg_load aggL sizeL (.tmp 3) rfl rfl B1.out 0 rb (by rw [List.drop_zero, List.take_of_length_le (Nat.le_of_eq hb2.out)]) hb2.out rfl ?_)
    | (with_reducible refine wpl_seg_load aggL sizeL (.tmp 2) rfl rfl B0.out 0 ra (by rw [List.drop_zero, List.take_of_length_le (Nat.le_of_eq ha.out)]) ha.out rfl ?_))
  refine K.out.mono ?_
  rintro e w' ⟨rfl, h⟩
  have T := Lib.hid (hb.out.trans (h.mono hb.out.size))
  clear h
  go_wp2
  go_ret
  exact ⟨rfl, T.out⟩
/-- which of two loads is emptied sooner: below 0, if the first one is -/
def soon3 : Int := firstNZ [cmp3 a.counts b.counts, cmp3 (a.wear : Int) (b.wear : Int), cmp3 a.block b.block]
theorem cmp3_lt (x y : Int) : cmp3 x y < 0 ↔ x < y := by have h := cmp3_neg x y; simpa using h
theorem soon3_neg : decide (soon3 a b < 0) = sooner a b := by
  have n1 := cmp3_lt a.counts b.counts
  have n2 := cmp3_lt (a.wear : Int) (b.wear : Int)
  have n3 := cmp3_lt a.block b.block
  have z1 := cmp3_zero a.counts b.counts
  have z2 := cmp3_zero (a.wear : Int) (b.wear : Int)
  have z3 := cmp3_zero a.block b.block
  rw [Bool.eq_iff_iff, decide_eq_true_iff]
  simp only [decide_eq_true_eq, sooner, Bool.or_eq_true, Bool.and_eq_true]
  unfold soon3 firstNZ firstNZ firstNZ firstNZ
  split
  · split
    · split <;> omega
    · omega
  · omega
set_option maxRecDepth 100000 in
set_option maxHeartbeats 4000000 in
theorem sooner_any : Calls Try.prog 47 #[.agg (mrow a).toArray, .agg (mrow b).toArray] w fun e w' => e = .returned (.int .i64 (soon3 a b)) ∧ Below w.heap.size w w' := by
  show Calls Try.prog 47 #[.agg #[.int .i64 a.block, .int .u64 (a.seq : Int), .int .u64 (a.wear : Int), .slice none 0 0, .int .i64 a.counts], .agg #[.int .i64 b.block, .int .u64 (b.seq : Int), .int .u64 (b.wear : Int), .slice none 0 0, .int .i64 b.counts]] w _
  have hb := Lib.hid (two_boxes w #[.int .i64 a.block, .int .u64 (a.seq : Int), .int .u64 (a.wear : Int), .slice none 0 0, .int .i64 a.counts] #[.int .i64 b.block, .int .u64 (b.seq : Int), .int .u64 (b.wear : Int), .slice none 0 0, .int .i64 b.counts] 87)
  have B0 := Lib.hid ((show Blk (w.alloc (.cells #[.int .i64 a.block, .int .u64 (a.seq : Int), .int .u64 (a.wear : Int), .slice none 0 0, .int .i64 a.counts] 87)) w.heap.size 87 (mrow a) from heap_alloc_new w _).alloc (.cells #[.int .i64 b.block, .int .u64 (b.seq : Int), .int .u64 (b.wear : Int), .slice none 0 0, .int .i64 b.counts] 87))
  have B1 := Lib.hid (show Blk ((w.alloc (.cells #[.int .i64 a.block, .int .u64 (a.seq : Int), .int .u64 (a.wear : Int), .slice none 0 0, .int .i64 a.counts] 87)).alloc (.cells #[.int .i64 b.block, .int .u64 (b.seq : Int), .int .u64 (b.wear : Int), .slice none 0 0, .int .i64 b.counts] 87)) (w.heap.size + 1) 87 (mrow b) by have h := heap_alloc_new (w.alloc (.cells #[.int .i64 a.block, .int .u64 (a.seq : Int), .int .u64 (a.wear : Int), .slice none 0 0, .int .i64 a.counts] 87)) (.cells #[.int .i64 b.block, .int .u64 (b.seq : Int), .int .u64 (b.wear : Int), .slice none 0 0, .int .i64 b.counts] 87); rw [World.size_alloc] at h; exact h)
  unfold soon3
  go_enter Try.func47, Try.ntmps47
  go_wp2
  obtain ⟨W, hW⟩ : ∃ W, W = (w.alloc (.cells #[.int .i64 a.block, .int .u64 (a.seq : Int), .int .u64 (a.wear : Int), .slice none 0 0, .int .i64 a.counts] 87)).alloc (.cells #[.int .i64 b.block, .int .u64 (b.seq : Int), .int .u64 (b.wear : Int), .slice none 0 0, .int .i64 b.counts] 87) := ⟨_, rfl⟩
  rw [← hW] at hb B0 B1 ⊢
  clear hW
  obtain ⟨g, hg⟩ : ∃ g, g = w.heap.size := ⟨_, rfl⟩
  obtain ⟨g1, hg1⟩ : ∃ g1, g1 = w.heap.size + 1 := ⟨_, rfl⟩
  rw [← hg1] at B1 ⊢
  rw [← hg] at B0 ⊢
  clear hg hg1
  have x0 := B0.out.cell 0
  have x2 := B0.out.cell 2
  have x4 := B0.out.cell 4
  have y0 := B1.out.cell 0
  have y2 := B1.out.cell 2
  have y4 := B1.out.cell 4
  simp only [mrow, List.getElem?_cons_zero, List.getElem?_cons_succ] at x0 x2 x4 y0 y2 y4
  obtain ⟨c1, hc1⟩ : ∃ c, c = cmp3 a.counts b.counts := ⟨_, rfl⟩
  obtain ⟨c2, hc2⟩ : ∃ c, c = cmp3 (a.wear : Int) (b.wear : Int) := ⟨_, rfl⟩
  obtain ⟨c3, hc3⟩ : ∃ c, c = cmp3 a.block b.block := ⟨_, rfl⟩
  have k1 := fun w => compare_int a.counts b.counts w
  have k2 := fun w => compare_u64 (a.wear : Int) (b.wear : Int) w
  have k3 := fun w => compare_int a.block b.block w
  have HR := Lib.hid (show firstNZ [cmp3 a.counts b.counts, cmp3 (a.wear : Int) (b.wear : Int), cmp3 a.block b.block] = firstNZ [c1, c2, c3] by rw [hc1, hc2, hc3])
  rw [← hc1] at k1
  rw [← hc2] at k2
  rw [← hc3] at k3
  clear hc1 hc2 hc3
  have KO : Hid (Calls Try.prog 55 #[.slice (some ⟨W.heap.size, 0, none⟩) 3 3] (W.alloc (.cells #[.int .i64 c1, .int .i64 c2, .int .i64 c3] 3)).drew fun e w' => e = .returned (.int .i64 (firstNZ [c1, c2, c3])) ∧ (W.alloc (.cells #[.int .i64 c1, .int .i64 c2, .int .i64 c3] 3)).drew = w') :=
    Lib.hid (or_any _ [c1, c2, c3] 3 _ (W.heap.size + 1) (by exact Row.new W #[.int .i64 c1, .int .i64 c2, .int .i64 c3] 3 (0, 0) W.heap.size rfl (Nat.lt_succ_self _)) (by simp))
  have TZ := Lib.hid (((Below.refl W.heap.size W).alloc (Nat.le_refl _) (.cells #[.int .i64 c1, .int .i64 c2, .int .i64 c3] 3)).drew)
  go_region_held3 (fun w' => w'.cell? ⟨g, 0, none⟩ = some (.int .i64 a.block) ∧ w'.cell? ⟨g, 2, none⟩ = some (.int .u64 (a.wear : Int)) ∧ w'.cell? ⟨g, 4, none⟩ = some (.int .i64 a.counts) ∧ w'.cell? ⟨g1, 0, none⟩ = some (.int .i64 b.block) ∧ w'.cell? ⟨g1, 2, none⟩ = some (.int .u64 (b.wear : Int)) ∧ w'.cell? ⟨g1, 4, none⟩ = some (.int .i64 b.counts))
    (first | go_keep | (exact ⟨x0, x2, x4, y0, y2, y4⟩))
    (first
      | (go_at_call 56; (with_reducible refine (k1 _).mono ?_); rintro x w2 ⟨rfl, rfl⟩)
      | (go_at_call 54; (with_reducible refine (k2 _).mono ?_); rintro x w2 ⟨rfl, rfl⟩)
      | (go_at_call 56; (with_reducible refine (k3 _).mono ?_); rintro x w2 ⟨rfl, rfl⟩)
      | (go_at_call 55; (with_reducible refine KO.out.mono ?_); rintro x w2 ⟨rfl, rfl⟩))
  go_wp2
  go_ret
  rw [HR.out]
  exact ⟨rfl, hb.out.trans (TZ.out.mono hb.out.size)⟩
end
end Go.Proofs.Ytdmganpblkepfaa
