/- The walk of ViewSteps: it answers true, and changes nothing that was there. No condition. -/
import Derived.Test.YticigjkaangkmaaQViewTies
namespace Go.Proofs.Yticigjkaangkmaa
open Go Go.RowKit
set_option maxRecDepth 100000 in
set_option maxHeartbeats 4000000 in
theorem viewSteps_any (u vs : Value) (base : Int) (w : World) (hv : ∃ v, IsView u v) (hn : ∃ cs, Nums w w.heap.size .i64 vs cs) (hb : (Lit.int .u64 base).wf = true) :
    Calls Try.prog 3 #[u, vs, .int .u64 base] w fun e w' => e = .returned (.bool true) ∧ Below w.heap.size w w' := by
  obtain ⟨v, rfl, _⟩ := hv
  obtain ⟨cs, A, c, rfl, _, _, hr, _⟩ := hn
  obtain ⟨b, rfl, _⟩ := vu64_wf hb
  have HR := Lib.hid hr
  have b1 := Lib.hid ((Below.refl w.heap.size w).alloc (Nat.le_refl _) (.cells #[.int .u64 (v.n : Int), .int .i64 v.m, .int .u64 (v.b : Int)] 24))
  have P1 := Lib.hid (Blk.new w 24 [.int .u64 (v.n : Int), .int .i64 v.m, .int .u64 (v.b : Int)])
  clear hr hb
  by_cases hl : 100 < cs.length
  · have d1 : decide ((100 : Int) < (cs.length : Int)) = true := by simp; omega
    go_enter Try.func3, Try.ntmps3
    go_wp2_with fail
    refine (vspeaks_any _).mono ?_
    rintro e' w2 ⟨rfl, hb2⟩
    go_wp2
    go_ret
    exact ⟨rfl, b1.out.trans (hb2.mono b1.out.size)⟩
  · have d1 : decide ((100 : Int) < (cs.length : Int)) = false := by simp; omega
    go_enter Try.func3, Try.ntmps3
    go_wp2_with fail
    refine (vspeaks_any _).mono ?_
    rintro e' w1 ⟨rfl, h1⟩
    have T1 := Lib.hid (b1.out.trans (h1.mono b1.out.size))
    have Q1 := Lib.hid (P1.out.after h1)
    obtain ⟨gp, hgp⟩ : ∃ gp, gp = w.heap.size := ⟨_, rfl⟩
    rw [← hgp] at Q1 ⊢
    have HGP := Lib.hid hgp
    clear h1 hgp P1 b1
    go_wp2_with fail
    go_loopw [7, 9, 10, 11, 12, 13, 25] (fun al _ _ _ _ _ i wr => ∃ k : Nat, k ≤ cs.length ∧ i = .int .i64 k ∧ ∃ q : Bool, al = .bool q ∧ Hid (q = (cs.take k).all v.has) ∧ Hid (Blk wr gp 24 [.int .u64 (v.n : Int), .int .i64 v.m, .int .u64 (v.b : Int)]) ∧ Hid (Below w.heap.size w wr)) (fun _ _ _ _ _ _ i _ => cs.length - (intOf i).toNat)
    case atStart => exact ⟨0, Nat.zero_le _, rfl, true, rfl, Lib.hid rfl, Q1, T1⟩
    case round =>
      clear Q1 T1
      obtain ⟨k, hk, rfl, q, rfl, hq, hP, hb⟩ := hrel
      have kG := Lib.hid (fun w => grow_any v b w)
      have kGr := Lib.hid (fun w => refgrow_any v b w)
      by_cases hlt : k < cs.length
      · have hHR := Lib.hid (show Row wr w.heap.size A (cs.map (Value.int .i64)) from HR.out.below hb.out)
        obtain ⟨a, rfl, hab, hck⟩ := hHR.out.at_ (k := k) (by simpa using hlt)
        rw [List.getElem_map] at hck
        have hq2 : (cs.take (k + 1)).all v.has = (q && v.has cs[k]) := by rw [List.take_succ_eq_append_getElem hlt, List.all_append, hq.out]; simp
        obtain ⟨z, hz⟩ : ∃ z, z = cs[k] := ⟨_, rfl⟩
        rw [← hz] at hck hq2
        have kS := Lib.hid (fun w => shrink_any v z b w)
        have kSr := Lib.hid (fun w => refshrink_any v z b w)
        have kH := Lib.hid (fun w => refhas_any v z w)
        have kH1 := Lib.hid (fun (w : World) => show Calls Try.prog 14 #[.agg #[.int .u64 (v.n : Int), .int .i64 v.m, .int .u64 (v.b : Int)], .slice (some ⟨w.heap.size, 0, none⟩) 1 1] (w.alloc (.cells #[.int .i64 z] 3)).drew fun e w' => e = .returned (.bool (v.has z)) ∧ Below w.drew.heap.size w.drew w' from has1_any v z w.drew)
        obtain ⟨x, hx⟩ : ∃ x, (v.shrink z b).1 = x := ⟨_, rfl⟩
        obtain ⟨er, her⟩ : ∃ er, (v.shrink z b).2 = er := ⟨_, rfl⟩
        rw [hx, her] at kS kSr
        obtain ⟨hs, hhs⟩ : ∃ hs, v.has z = hs := ⟨_, rfl⟩
        rw [hhs] at kH kH1 hq2
        have HQ2 := Lib.hid hq2
        clear hx her hhs hz hq2 hq hHR
        have first : Hid (Calls Try.prog 11 #[.agg #[.int .u64 (v.n : Int), .int .i64 v.m, .int .u64 (v.b : Int)], .int .i64 z] wr fun e w' => e = .returned (.bool hs) ∧ Below wr.heap.size wr w') := Lib.hid (kH.out wr)
        cases q
        · skip
          have P3 := hP
          have t3 := hb
          clear first
          go_wp2_with (with_reducible refine wpl_vload (.tmp 3) rfl rfl P3.out rfl ?_)
          ((with_reducible refine (kS.out _).mono ?_); rintro e5 w5 ⟨rfl, b5⟩)
          have P5 := Lib.hid ((P3.out.after b5).alloc (.cells #[.int .u64 (x.n : Int), .int .i64 x.m, .int .u64 (x.b : Int)] 24))
          have t5a := Lib.hid (t3.out.trans (b5.mono t3.out.size))
          have t5 := Lib.hid (t5a.out.alloc t5a.out.size (.cells #[.int .u64 (x.n : Int), .int .i64 x.m, .int .u64 (x.b : Int)] 24))
          have X5 := Lib.hid (Blk.new w5 24 [.int .u64 (x.n : Int), .int .i64 x.m, .int .u64 (x.b : Int)])
          clear b5 P3 t3 t5a
          go_wp2_with (with_reducible refine wpl_vload (.tmp 3) rfl rfl P5.out rfl ?_)
          ((with_reducible refine (kSr.out _).mono ?_); rintro e6 w6 ⟨rfl, b6⟩)
          have P6 := Lib.hid ((P5.out.after b6).alloc (.cells #[.int .u64 (x.n : Int), .int .i64 x.m, .int .u64 (x.b : Int)] 24))
          have X6 := Lib.hid ((X5.out.after b6).alloc (.cells #[.int .u64 (x.n : Int), .int .i64 x.m, .int .u64 (x.b : Int)] 24))
          have Y6 := Lib.hid (Blk.new w6 24 [.int .u64 (x.n : Int), .int .i64 x.m, .int .u64 (x.b : Int)])
          have t6a := Lib.hid (t5.out.trans (b6.mono t5.out.size))
          have t6 := Lib.hid (t6a.out.alloc t6a.out.size (.cells #[.int .u64 (x.n : Int), .int .i64 x.m, .int .u64 (x.b : Int)] 24))
          clear b6 P5 X5 t5 t6a
          go_wp2_with fail
          obtain ⟨W, hW⟩ : ∃ W, W = w6.alloc (.cells #[.int .u64 (x.n : Int), .int .i64 x.m, .int .u64 (x.b : Int)] 24) := ⟨_, rfl⟩
          obtain ⟨gx, hgx⟩ : ∃ gx, gx = w5.heap.size := ⟨_, rfl⟩
          obtain ⟨gy, hgy⟩ : ∃ gy, gy = w6.heap.size := ⟨_, rfl⟩
          rw [← hW] at P6 X6 Y6 t6 ⊢
          rw [← hgx] at X6 ⊢
          rw [← hgy] at Y6 ⊢
          clear hW hgx hgy
          have S0 : Below W.heap.size W W.drew := (Below.refl _ _).drew
          refine wp_region_held_drew (S := (fun w' => Below W.heap.size W w')) (by kernel_rfl) S0 (fun _ => ?_)
          refine wpAnyH_take (i := 0) (v := .agg #[.int .u64 (x.n : Int), .int .i64 x.m, .int .u64 (x.b : Int)]) rfl (by kernel_rfl) (by kernel_rfl) (by kernel_rfl) (fun _ _ _ h => h) (yields_vload (g := gx) (.tmp 10) (by kernel_rfl) (by kernel_rfl) (by kernel_rfl) (fun w h => X6.out.after h)) S0 ?_
          refine wpAnyH_take (i := 1) (v := .agg #[.int .u64 (x.n : Int), .int .i64 x.m, .int .u64 (x.b : Int)]) rfl (by kernel_rfl) (by kernel_rfl) (by kernel_rfl) (fun _ _ _ h => h) (yields_vload (g := gy) (.tmp 12) (by kernel_rfl) (by kernel_rfl) (by kernel_rfl) (fun w h => Y6.out.after h)) S0 ?_
          refine wpAnyH_take (i := 2) (v := .bool false) rfl (by kernel_rfl) (by kernel_rfl) (by kernel_rfl) (fun _ _ _ h => h) (Or.inl ⟨by kernel_rfl, fun w _ => by go_simp⟩) S0 ?_
          refine wpAnyH_take (i := 3) (v := .bool false) rfl (by kernel_rfl) (by kernel_rfl) (by kernel_rfl) (fun _ _ _ h => h) (Or.inl ⟨by kernel_rfl, fun w _ => by go_simp⟩) S0 ?_
          refine wpAnyH_take (i := 4) (v := .int .i64 er) rfl (by kernel_rfl) (by kernel_rfl) (by kernel_rfl) (fun _ _ _ h => h) (Or.inl ⟨by kernel_rfl, fun w _ => by go_simp⟩) S0 ?_
          refine wpAnyH_take (i := 5) (v := .int .i64 er) rfl (by kernel_rfl) (by kernel_rfl) (by kernel_rfl) (fun _ _ _ h => h) (Or.inl ⟨by kernel_rfl, fun w _ => by go_simp⟩) S0 ?_
          refine wpAnyH_take (i := 6) (v := .bool false) rfl (by kernel_rfl) (by kernel_rfl) (by kernel_rfl) (fun _ _ _ h => h) (Or.inl ⟨by kernel_rfl, fun w _ => by go_simp⟩) S0 ?_
          refine wpAnyH_take (i := 7) (v := .bool false) rfl (by kernel_rfl) (by kernel_rfl) (by kernel_rfl) (fun _ _ _ h => h) (Or.inl ⟨by kernel_rfl, fun w _ => by go_simp⟩) S0 ?_
          refine wpAnyH_take (i := 8) (v := .bool false) rfl (by kernel_rfl) (by kernel_rfl) (by kernel_rfl) (fun _ _ _ h => h) (Or.inl ⟨by kernel_rfl, fun w _ => by go_simp⟩) S0 ?_
          refine wpAnyH_take (i := 9) (v := .agg #[.int .u64 (v.n : Int), .int .i64 v.m, .int .u64 (v.b : Int)]) rfl (by kernel_rfl) (by kernel_rfl) (by kernel_rfl) (fun _ _ _ h => h) (yields_vload (g := gp) (.tmp 3) (by kernel_rfl) (by kernel_rfl) (by kernel_rfl) (fun w h => P6.out.after h)) S0 ?_
          refine wpAnyH_take (i := 10) (v := .int .i64 z) rfl (by kernel_rfl) (by kernel_rfl) (by kernel_rfl) (fun _ _ _ h => h) (Or.inl ⟨by kernel_rfl, fun w _ => by go_simp⟩) S0 ?_
          refine wpAnyH_take (i := 13) (v := .agg #[.int .u64 (v.n : Int), .int .i64 v.m, .int .u64 (v.b : Int)]) rfl (by kernel_rfl) (by kernel_rfl) (by kernel_rfl) (fun _ _ _ h => h) (yields_vload (g := gp) (.tmp 3) (by kernel_rfl) (by kernel_rfl) (by kernel_rfl) (fun w h => P6.out.after h)) S0 ?_
          refine wpAnyH_take (i := 14) (v := .int .i64 z) rfl (by kernel_rfl) (by kernel_rfl) (by kernel_rfl) (fun _ _ _ h => h) (Or.inl ⟨by kernel_rfl, fun w _ => by go_simp⟩) S0 ?_
          have A1 : Below W.heap.size W (W.drew.alloc (.cells #[.int .i64 z] 3)) := S0.alloc S0.size _
          refine wpAnyH_ready (rs := [11]) (by kernel_rfl) (by simp) (AllReadyH.cons rfl (fun K hK => ?_) AllReadyH.nil)
          go_simp
          refine hK.out _ _ A1 (fun _ => ?_)
          clear hK K
          refine wpAnyH_ready (rs := [12]) (by kernel_rfl) (by simp) (AllReadyH.cons rfl (fun K hK => ?_) AllReadyH.nil)
          go_simp
          ((with_reducible refine (kH1.out W).mono ?_); rintro e7 w7 ⟨rfl, b7⟩)
          have S1 := S0.trans (b7.mono S0.size)
          refine hK.out _ _ S1 (fun _ => ?_)
          clear hK K b7 A1
          refine wpAnyH_ready (rs := [15]) (by kernel_rfl) (by simp) (AllReadyH.cons rfl (fun K hK => ?_) AllReadyH.nil)
          go_simp
          ((with_reducible refine (kH.out _).mono ?_); rintro e8 w8 ⟨rfl, b8⟩)
          have S2 := S1.trans (b8.mono S1.size)
          refine hK.out _ _ S2 (fun _ => ?_)
          clear hK K b8
          refine wpAnyH_take (i := 16) (v := .bool false) rfl (by kernel_rfl) (by kernel_rfl) (by kernel_rfl) (fun _ _ _ h => h) (Or.inl ⟨by kernel_rfl, fun w _ => by go_simp⟩) S2 ?_
          refine wpAnyH_take (i := 17) (v := .bool false) rfl (by kernel_rfl) (by kernel_rfl) (by kernel_rfl) (fun _ _ _ h => h) (Or.inl ⟨by kernel_rfl, fun w _ => by go_simp⟩) S2 ?_
          refine wpAnyH_done (by kernel_rfl) ?_ _
          go_simp
          have P8 := Lib.hid (P6.out.after S2)
          have t8 := Lib.hid (t6.out.trans (S2.mono t6.out.size))
          clear S0 S1 S2
          go_wp2_with fail
          go_roundw
          case rel => exact ⟨k + 1, by omega, by go_num, false, rfl, Lib.hid (by rw [HQ2.out]; rfl), P8, t8⟩
          case measure => simp [intOf]; omega
        · skip
          go_wp2_with (with_reducible refine wpl_vload (.tmp 3) rfl rfl hP.out rfl ?_)
          ((with_reducible refine first.out.mono ?_); rintro e3 w3 ⟨rfl, b3⟩)
          have P3 := Lib.hid (hP.out.after b3)
          have t3 := Lib.hid (hb.out.trans (b3.mono hb.out.size))
          clear b3 first
          go_wp2_with (with_reducible refine wpl_vload (.tmp 3) rfl rfl P3.out rfl ?_)
          ((with_reducible refine (kS.out _).mono ?_); rintro e5 w5 ⟨rfl, b5⟩)
          have P5 := Lib.hid ((P3.out.after b5).alloc (.cells #[.int .u64 (x.n : Int), .int .i64 x.m, .int .u64 (x.b : Int)] 24))
          have t5a := Lib.hid (t3.out.trans (b5.mono t3.out.size))
          have t5 := Lib.hid (t5a.out.alloc t5a.out.size (.cells #[.int .u64 (x.n : Int), .int .i64 x.m, .int .u64 (x.b : Int)] 24))
          have X5 := Lib.hid (Blk.new w5 24 [.int .u64 (x.n : Int), .int .i64 x.m, .int .u64 (x.b : Int)])
          clear b5 P3 t3 t5a
          go_wp2_with (with_reducible refine wpl_vload (.tmp 3) rfl rfl P5.out rfl ?_)
          ((with_reducible refine (kSr.out _).mono ?_); rintro e6 w6 ⟨rfl, b6⟩)
          have P6 := Lib.hid ((P5.out.after b6).alloc (.cells #[.int .u64 (x.n : Int), .int .i64 x.m, .int .u64 (x.b : Int)] 24))
          have X6 := Lib.hid ((X5.out.after b6).alloc (.cells #[.int .u64 (x.n : Int), .int .i64 x.m, .int .u64 (x.b : Int)] 24))
          have Y6 := Lib.hid (Blk.new w6 24 [.int .u64 (x.n : Int), .int .i64 x.m, .int .u64 (x.b : Int)])
          have t6a := Lib.hid (t5.out.trans (b6.mono t5.out.size))
          have t6 := Lib.hid (t6a.out.alloc t6a.out.size (.cells #[.int .u64 (x.n : Int), .int .i64 x.m, .int .u64 (x.b : Int)] 24))
          clear b6 P5 X5 t5 t6a
          go_wp2_with fail
          obtain ⟨W, hW⟩ : ∃ W, W = w6.alloc (.cells #[.int .u64 (x.n : Int), .int .i64 x.m, .int .u64 (x.b : Int)] 24) := ⟨_, rfl⟩
          obtain ⟨gx, hgx⟩ : ∃ gx, gx = w5.heap.size := ⟨_, rfl⟩
          obtain ⟨gy, hgy⟩ : ∃ gy, gy = w6.heap.size := ⟨_, rfl⟩
          rw [← hW] at P6 X6 Y6 t6 ⊢
          rw [← hgx] at X6 ⊢
          rw [← hgy] at Y6 ⊢
          clear hW hgx hgy
          have S0 : Below W.heap.size W W.drew := (Below.refl _ _).drew
          refine wp_region_held_drew (S := (fun w' => Below W.heap.size W w')) (by kernel_rfl) S0 (fun _ => ?_)
          refine wpAnyH_take (i := 0) (v := .agg #[.int .u64 (x.n : Int), .int .i64 x.m, .int .u64 (x.b : Int)]) rfl (by kernel_rfl) (by kernel_rfl) (by kernel_rfl) (fun _ _ _ h => h) (yields_vload (g := gx) (.tmp 10) (by kernel_rfl) (by kernel_rfl) (by kernel_rfl) (fun w h => X6.out.after h)) S0 ?_
          refine wpAnyH_take (i := 1) (v := .agg #[.int .u64 (x.n : Int), .int .i64 x.m, .int .u64 (x.b : Int)]) rfl (by kernel_rfl) (by kernel_rfl) (by kernel_rfl) (fun _ _ _ h => h) (yields_vload (g := gy) (.tmp 12) (by kernel_rfl) (by kernel_rfl) (by kernel_rfl) (fun w h => Y6.out.after h)) S0 ?_
          refine wpAnyH_take (i := 2) (v := .bool false) rfl (by kernel_rfl) (by kernel_rfl) (by kernel_rfl) (fun _ _ _ h => h) (Or.inl ⟨by kernel_rfl, fun w _ => by go_simp⟩) S0 ?_
          refine wpAnyH_take (i := 3) (v := .bool false) rfl (by kernel_rfl) (by kernel_rfl) (by kernel_rfl) (fun _ _ _ h => h) (Or.inl ⟨by kernel_rfl, fun w _ => by go_simp⟩) S0 ?_
          refine wpAnyH_take (i := 4) (v := .int .i64 er) rfl (by kernel_rfl) (by kernel_rfl) (by kernel_rfl) (fun _ _ _ h => h) (Or.inl ⟨by kernel_rfl, fun w _ => by go_simp⟩) S0 ?_
          refine wpAnyH_take (i := 5) (v := .int .i64 er) rfl (by kernel_rfl) (by kernel_rfl) (by kernel_rfl) (fun _ _ _ h => h) (Or.inl ⟨by kernel_rfl, fun w _ => by go_simp⟩) S0 ?_
          refine wpAnyH_take (i := 6) (v := .bool false) rfl (by kernel_rfl) (by kernel_rfl) (by kernel_rfl) (fun _ _ _ h => h) (Or.inl ⟨by kernel_rfl, fun w _ => by go_simp⟩) S0 ?_
          refine wpAnyH_take (i := 7) (v := .bool false) rfl (by kernel_rfl) (by kernel_rfl) (by kernel_rfl) (fun _ _ _ h => h) (Or.inl ⟨by kernel_rfl, fun w _ => by go_simp⟩) S0 ?_
          refine wpAnyH_take (i := 8) (v := .bool false) rfl (by kernel_rfl) (by kernel_rfl) (by kernel_rfl) (fun _ _ _ h => h) (Or.inl ⟨by kernel_rfl, fun w _ => by go_simp⟩) S0 ?_
          refine wpAnyH_take (i := 9) (v := .agg #[.int .u64 (v.n : Int), .int .i64 v.m, .int .u64 (v.b : Int)]) rfl (by kernel_rfl) (by kernel_rfl) (by kernel_rfl) (fun _ _ _ h => h) (yields_vload (g := gp) (.tmp 3) (by kernel_rfl) (by kernel_rfl) (by kernel_rfl) (fun w h => P6.out.after h)) S0 ?_
          refine wpAnyH_take (i := 10) (v := .int .i64 z) rfl (by kernel_rfl) (by kernel_rfl) (by kernel_rfl) (fun _ _ _ h => h) (Or.inl ⟨by kernel_rfl, fun w _ => by go_simp⟩) S0 ?_
          refine wpAnyH_take (i := 13) (v := .agg #[.int .u64 (v.n : Int), .int .i64 v.m, .int .u64 (v.b : Int)]) rfl (by kernel_rfl) (by kernel_rfl) (by kernel_rfl) (fun _ _ _ h => h) (yields_vload (g := gp) (.tmp 3) (by kernel_rfl) (by kernel_rfl) (by kernel_rfl) (fun w h => P6.out.after h)) S0 ?_
          refine wpAnyH_take (i := 14) (v := .int .i64 z) rfl (by kernel_rfl) (by kernel_rfl) (by kernel_rfl) (fun _ _ _ h => h) (Or.inl ⟨by kernel_rfl, fun w _ => by go_simp⟩) S0 ?_
          have A1 : Below W.heap.size W (W.drew.alloc (.cells #[.int .i64 z] 3)) := S0.alloc S0.size _
          refine wpAnyH_ready (rs := [11]) (by kernel_rfl) (by simp) (AllReadyH.cons rfl (fun K hK => ?_) AllReadyH.nil)
          go_simp
          refine hK.out _ _ A1 (fun _ => ?_)
          clear hK K
          refine wpAnyH_ready (rs := [12]) (by kernel_rfl) (by simp) (AllReadyH.cons rfl (fun K hK => ?_) AllReadyH.nil)
          go_simp
          ((with_reducible refine (kH1.out W).mono ?_); rintro e7 w7 ⟨rfl, b7⟩)
          have S1 := S0.trans (b7.mono S0.size)
          refine hK.out _ _ S1 (fun _ => ?_)
          clear hK K b7 A1
          refine wpAnyH_ready (rs := [15]) (by kernel_rfl) (by simp) (AllReadyH.cons rfl (fun K hK => ?_) AllReadyH.nil)
          go_simp
          ((with_reducible refine (kH.out _).mono ?_); rintro e8 w8 ⟨rfl, b8⟩)
          have S2 := S1.trans (b8.mono S1.size)
          refine hK.out _ _ S2 (fun _ => ?_)
          clear hK K b8
          refine wpAnyH_take (i := 16) (v := .bool false) rfl (by kernel_rfl) (by kernel_rfl) (by kernel_rfl) (fun _ _ _ h => h) (Or.inl ⟨by kernel_rfl, fun w _ => by go_simp⟩) S2 ?_
          refine wpAnyH_take (i := 17) (v := .bool false) rfl (by kernel_rfl) (by kernel_rfl) (by kernel_rfl) (fun _ _ _ h => h) (Or.inl ⟨by kernel_rfl, fun w _ => by go_simp⟩) S2 ?_
          refine wpAnyH_done (by kernel_rfl) ?_ _
          go_simp
          have P8 := Lib.hid (P6.out.after S2)
          have t8 := Lib.hid (t6.out.trans (S2.mono t6.out.size))
          clear S0 S1 S2
          go_wp2_with fail
          go_roundw
          case rel => exact ⟨k + 1, by omega, by go_num, hs, rfl, Lib.hid (by rw [HQ2.out]; rfl), P8, t8⟩
          case measure => simp [intOf]; omega
      · obtain rfl : k = cs.length := by omega
        rw [List.take_length] at hq
        have KC := Lib.hid (fun (w' : World) (h : Below w.heap.size w w') => hasC_any v A cs c w' w.heap.size h.size (HR.out.below h) (by omega))
        rw [← hq.out] at KC
        obtain ⟨x, hx⟩ : ∃ x, (v.grow b).1 = x := ⟨_, rfl⟩
        obtain ⟨er, her⟩ : ∃ er, (v.grow b).2 = er := ⟨_, rfl⟩
        rw [hx, her] at kG kGr
        clear hx her hq
        go_wp2_with (with_reducible refine wpl_vload (.tmp 3) rfl rfl hP.out rfl ?_)
        ((with_reducible refine (kG.out _).mono ?_); rintro e5 w5 ⟨rfl, b5⟩)
        have P5 := Lib.hid (hP.out.after b5)
        have t5 := Lib.hid (hb.out.trans (b5.mono hb.out.size))
        have X5 := Lib.hid (Blk.new w5 24 [.int .u64 (x.n : Int), .int .i64 x.m, .int .u64 (x.b : Int)])
        have P5a := Lib.hid (P5.out.alloc (.cells #[.int .u64 (x.n : Int), .int .i64 x.m, .int .u64 (x.b : Int)] 24))
        have t5a := Lib.hid (t5.out.alloc t5.out.size (.cells #[.int .u64 (x.n : Int), .int .i64 x.m, .int .u64 (x.b : Int)] 24))
        clear b5 P5 t5
        go_wp2_with (with_reducible refine wpl_vload (.tmp 3) rfl rfl P5a.out rfl ?_)
        ((with_reducible refine (kGr.out _).mono ?_); rintro e6 w6 ⟨rfl, b6⟩)
        have P6 := Lib.hid ((P5a.out.after b6).alloc (.cells #[.int .u64 (x.n : Int), .int .i64 x.m, .int .u64 (x.b : Int)] 24))
        have X6 := Lib.hid ((X5.out.after b6).alloc (.cells #[.int .u64 (x.n : Int), .int .i64 x.m, .int .u64 (x.b : Int)] 24))
        have Y6 := Lib.hid (Blk.new w6 24 [.int .u64 (x.n : Int), .int .i64 x.m, .int .u64 (x.b : Int)])
        have t6a := Lib.hid (t5a.out.trans (b6.mono t5a.out.size))
        have t6 := Lib.hid (t6a.out.alloc t6a.out.size (.cells #[.int .u64 (x.n : Int), .int .i64 x.m, .int .u64 (x.b : Int)] 24))
        clear b6 P5a X5 t5a t6a
        go_wp2_with (first
          | (with_reducible refine wpl_vload (.tmp 14) rfl rfl X6.out rfl ?_)
          | (with_reducible refine wpl_vload (.tmp 16) rfl rfl Y6.out rfl ?_)
          | (with_reducible refine wpl_vload (.tmp 3) rfl rfl P6.out rfl ?_))
        ((with_reducible refine (KC.out _ t6.out).mono ?_); rintro e7 w7 ⟨rfl, b7⟩)
        go_wp2
        go_ret
        exact ⟨by simp, t6.out.trans (b7.mono t6.out.size)⟩
end Go.Proofs.Yticigjkaangkmaa

