/- Layer 13: what the small calls of package elect, and of the document's, answer. No condition but that a set has 32 bytes. -/
import Derived.Test.YticigjkaangkmaaQChip
namespace Go.Proofs.Yticigjkaangkmaa
open Go Go.RowKit
theorem VV.setE_zero (v : VV) : VV.zero.setE v = if v.right = true then 0 else 1 := by
  unfold VV.setE
  by_cases h : v.right = true
  · have := (VV.right_n h).1
    rw [if_pos ⟨h, (show 0 < v.n by omega)⟩, if_pos h]
  · rw [if_neg (fun q => h q.1), if_neg h]
set_option maxRecDepth 100000 in
theorem eright_any (v : VV) (w : World) : Calls Try.prog 29 #[va v] w fun e w' => e = .returned (.bool v.right) ∧ Below w.heap.size w w' := by
  have b1 := Lib.hid ((Below.refl w.heap.size w).alloc (Nat.le_refl _) (.cells #[.int .u64 (v.n : Int), .int .i64 v.m, .int .u64 (v.b : Int)] 24))
  have P1 := Lib.hid (Blk.new w 24 [.int .u64 (v.n : Int), .int .i64 v.m, .int .u64 (v.b : Int)])
  obtain ⟨q, hq⟩ : ∃ q, VV.zero.setE v = q := ⟨_, rfl⟩
  have hq2 : Hid (v.right = (q == 0)) := Lib.hid (by
    rw [← hq, VV.setE_zero]
    cases v.right <;> rfl)
  go_enter Try.func29, Try.ntmps29
  go_wp2_with fail
  obtain ⟨W, hW⟩ : ∃ W, W = w.alloc (.cells #[.int .u64 (v.n : Int), .int .i64 v.m, .int .u64 (v.b : Int)] 24) := ⟨_, rfl⟩
  obtain ⟨g, hg⟩ : ∃ g, g = w.heap.size := ⟨_, rfl⟩
  rw [← hW] at b1 P1 ⊢
  rw [← hg] at P1 ⊢
  have hgl := Lib.hid P1.out.lt
  clear hW
  have S0 : Blk W.drew g 24 [.int .u64 (v.n : Int), .int .i64 v.m, .int .u64 (v.b : Int)] := P1.out
  refine wp_region_held_drew (S := (fun w' => Blk w' g 24 [.int .u64 (v.n : Int), .int .i64 v.m, .int .u64 (v.b : Int)])) (by kernel_rfl) S0 (fun _ => ?_)
  refine wpAnyH_take (i := 1) (v := va v) rfl (by kernel_rfl) (by kernel_rfl) (by kernel_rfl) (fun _ _ _ h => h) (yields_vload (g := g) (.tmp 1) (by kernel_rfl) (by kernel_rfl) (by kernel_rfl) (fun w h => h)) S0 ?_
  refine wpAnyH_ready (rs := [0]) (by kernel_rfl) (by simp) (AllReadyH.cons rfl (fun K hK => ?_) AllReadyH.nil)
  go_simp
  ((with_reducible refine (newTie_any _).mono ?_); rintro x1 w1 ⟨rfl, hT, b2⟩)
  have S1 := Blk.after (w := W.drew) S0 b2
  refine hK.out _ _ S1 (fun _ => ?_)
  clear hK K
  refine wpAnyH_ready (rs := [2]) (by kernel_rfl) (by simp) (AllReadyH.cons rfl (fun K hK => ?_) AllReadyH.nil)
  go_simp
  ((with_reducible refine (tset_any (g := W.heap.size) hT v).mono ?_); rw [hq]; rintro x2 w2 ⟨rfl, _, b3, hO⟩)
  have S2 := hO g _ _ (Nat.ne_of_lt hgl.out) S1
  refine hK.out _ _ S2 (fun _ => ?_)
  clear hK K
  refine wpAnyH_take (i := 3) (v := .bool (q == 0)) rfl (by kernel_rfl) (by kernel_rfl) (by kernel_rfl) (fun _ _ _ h => h) (Or.inl ⟨by kernel_rfl, fun w _ => by go_simp⟩) S2 ?_
  refine wpAnyH_take (i := 4) (v := .bool (q == 0)) rfl (by kernel_rfl) (by kernel_rfl) (by kernel_rfl) (fun _ _ _ h => h) (Or.inl ⟨by kernel_rfl, fun w _ => by go_simp⟩) S2 ?_
  refine wpAnyH_done (by kernel_rfl) ?_ _
  go_simp
  go_wp2_with fail
  go_ret
  have t2 := b1.out.drew.trans (b2.mono b1.out.size)
  exact ⟨by rw [hq2.out]; rfl, t2.trans (b3.mono b1.out.size)⟩
set_option maxRecDepth 100000 in
theorem holds_any13 (c : EC) (w : World) : Calls Try.prog 30 #[.agg (crow c).toArray] w fun e w' => e = .returned (.bool c.holds) ∧ Below w.heap.size w w' := by
  have x0 := crow_0 c
  have x1 := crow_1 c
  have HH := Lib.hid (show c.holds = (c.h && c.s) from rfl)
  obtain ⟨rc, hrc⟩ : ∃ rc, crow c = rc := ⟨_, rfl⟩
  rw [hrc] at x0 x1 ⊢
  have b1 := Lib.hid ((Below.refl w.heap.size w).alloc (Nat.le_refl _) (.cells rc.toArray 52))
  have B1 : Blk (w.alloc (.cells rc.toArray 52)) w.heap.size 52 rc := Blk.new w _ rc
  have c0 := (B1.cell 0).trans x0
  have c1 := (B1.cell 1).trans x1
  obtain ⟨hh, hhh⟩ : ∃ hh, c.h = hh := ⟨_, rfl⟩
  obtain ⟨hs, hhs⟩ : ∃ hs, c.s = hs := ⟨_, rfl⟩
  rw [hhh, hhs] at HH
  rw [hhh] at c0
  rw [hhs] at c1
  clear hrc x0 x1 hhh hhs B1
  cases hh
  · go_enter Try.func30, Try.ntmps30
    go_wp2
    go_ret
    exact ⟨by rw [HH.out]; rfl, b1.out⟩
  · go_enter Try.func30, Try.ntmps30
    go_wp2
    go_ret
    exact ⟨by rw [HH.out]; rfl, b1.out⟩
set_option maxRecDepth 100000 in
set_option maxHeartbeats 2000000 in
theorem refmay_any (t : VV) (c : EC) (i : Int) (w : World) : Calls Try.prog 34 #[va t, .agg (crow c).toArray, .int .i64 i] w fun e w' => e = .returned (.bool (EC.may t c i)) ∧ Below w.heap.size w w' := by
  have x0 := crow_0 c
  have x1 := crow_1 c
  have x2 := crow_2 c
  have x3 := crow_3 c
  have KH := fun w => refhas_any t i w
  have HM := Lib.hid (show EC.may t c i = (c.h && c.s && c.n && t.has i && decide (t.b ≤ c.e)) from rfl)
  obtain ⟨rc, hrc⟩ : ∃ rc, crow c = rc := ⟨_, rfl⟩
  rw [hrc] at x0 x1 x2 x3 ⊢
  have b1 := Lib.hid (((Below.refl w.heap.size w).alloc (Nat.le_refl _) (.cells #[.int .u64 (t.n : Int), .int .i64 t.m, .int .u64 (t.b : Int)] 24)).alloc (by simp) (.cells rc.toArray 52))
  have P1 : Blk ((w.alloc (.cells #[.int .u64 (t.n : Int), .int .i64 t.m, .int .u64 (t.b : Int)] 24)).alloc (.cells rc.toArray 52)) w.heap.size 24 [.int .u64 (t.n : Int), .int .i64 t.m, .int .u64 (t.b : Int)] := (Blk.new w _ [.int .u64 (t.n : Int), .int .i64 t.m, .int .u64 (t.b : Int)]).alloc _
  have B1 : Blk ((w.alloc (.cells #[.int .u64 (t.n : Int), .int .i64 t.m, .int .u64 (t.b : Int)] 24)).alloc (.cells rc.toArray 52)) (w.heap.size + 1) 52 rc := by
    have h := Blk.new (w.alloc (.cells #[.int .u64 (t.n : Int), .int .i64 t.m, .int .u64 (t.b : Int)] 24)) 52 rc
    rw [World.size_alloc] at h
    exact h
  obtain ⟨W, hW⟩ : ∃ W, W = (w.alloc (.cells #[.int .u64 (t.n : Int), .int .i64 t.m, .int .u64 (t.b : Int)] 24)).alloc (.cells rc.toArray 52) := ⟨_, rfl⟩
  rw [← hW] at b1 P1 B1
  have HW := Lib.hid hW
  have c0 := (B1.cell 0).trans x0
  have c1 := (B1.cell 1).trans x1
  have c2 := (B1.cell 2).trans x2
  have HP := Lib.hid P1
  have HB := Lib.hid (show ∀ w', Below W.heap.size W w' → w'.cell? ⟨w.heap.size + 1, 3, none⟩ = some (.int .u64 (c.e : Int)) ∧ w'.cell? ⟨w.heap.size, 2, none⟩ = some (.int .u64 (t.b : Int)) from fun w' h => ⟨((B1.after h).cell 3).trans x3, (P1.after h).cell 2⟩)
  obtain ⟨hh, hhh⟩ : ∃ hh, c.h = hh := ⟨_, rfl⟩
  obtain ⟨hs, hhs⟩ : ∃ hs, c.s = hs := ⟨_, rfl⟩
  obtain ⟨hn, hhn⟩ : ∃ hn, c.n = hn := ⟨_, rfl⟩
  obtain ⟨hi, hhi⟩ : ∃ hi, t.has i = hi := ⟨_, rfl⟩
  rw [hhh, hhs, hhn, hhi] at HM
  rw [hhh] at c0
  rw [hhs] at c1
  rw [hhn] at c2
  rw [hhi] at KH
  clear hrc x0 x1 x2 x3 hhh hhs hhn hhi B1 P1
  rw [hW] at c0 c1 c2 HP HB b1
  clear hW HW W
  cases hh
  · go_enter Try.func34, Try.ntmps34
    go_wp2
    go_ret
    exact ⟨by rw [HM.out]; rfl, b1.out⟩
  cases hs
  · go_enter Try.func34, Try.ntmps34
    go_wp2
    go_ret
    exact ⟨by rw [HM.out]; rfl, b1.out⟩
  cases hn
  · go_enter Try.func34, Try.ntmps34
    go_wp2
    go_ret
    exact ⟨by rw [HM.out]; rfl, b1.out⟩
  cases hi
  · go_enter Try.func34, Try.ntmps34
    go_wp2_with (with_reducible refine wpl_vload (.tmp 3) rfl rfl HP.out rfl ?_)
    ((with_reducible refine (KH _).mono ?_); rintro e w2 ⟨rfl, b2⟩)
    have T2 := Lib.hid (b1.out.trans (b2.mono b1.out.size))
    clear b2
    go_wp2
    go_ret
    exact ⟨by rw [HM.out]; rfl, T2.out⟩
  · go_enter Try.func34, Try.ntmps34
    go_wp2_with (with_reducible refine wpl_vload (.tmp 3) rfl rfl HP.out rfl ?_)
    ((with_reducible refine (KH _).mono ?_); rintro e w2 ⟨rfl, b2⟩)
    obtain ⟨y3, y2⟩ := HB.out _ b2
    have T2 := Lib.hid (b1.out.trans (b2.mono b1.out.size))
    clear b2
    go_wp2
    go_ret
    refine ⟨?_, T2.out⟩
    rw [HM.out]
    simp
end Go.Proofs.Yticigjkaangkmaa

