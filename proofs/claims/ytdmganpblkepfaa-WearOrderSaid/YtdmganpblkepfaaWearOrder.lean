/- The walk of WearOrder: it answers true, and changes nothing that was there. No condition. -/
import Derived.Test.YtdmganpblkepfaaWearOrderM
import Derived.RegionTactic
import Derived.BigRegion
namespace Go.Proofs.Ytdmganpblkepfaa
open Go.RowKit WM
set_option maxRecDepth 100000 in
set_option maxHeartbeats 16000000 in
theorem wearOrder_any (v u : Value) (w : World) (hn : ∃ L, Loads w w.heap.size v L) (hz : ∃ zs, Nums w w.heap.size .i64 u zs) :
    Calls Try.prog 11 #[v, u] w fun e w' => e = .returned (.bool true) ∧ Below w.heap.size w w' := by
  obtain ⟨L, A, c, rfl, hr, hok⟩ := hn
  obtain ⟨zs, A2, c2, rfl, _, _, hr2, _⟩ := hz
  have HR := Lib.hid hr
  have HR2 := Lib.hid hr2
  have HOK := Lib.hid hok
  clear hr hr2 hok
  by_cases hl : 50 < L.length
  · have d1 : decide ((50 : Int) < (L.length : Int)) = true := by simp; omega
    go_enter Try.func11, Try.ntmps11
    go_wp2_with fail
    refine (wearspeaks_any _).mono ?_
    rintro e' w2 ⟨rfl, hb2⟩
    go_wp2
    go_ret
    exact ⟨rfl, hb2⟩
  · have d1 : decide ((50 : Int) < (L.length : Int)) = false := by simp; omega
    by_cases hlz : 100 < zs.length
    · have d2 : decide ((100 : Int) < (zs.length : Int)) = true := by simp; omega
      go_enter Try.func11, Try.ntmps11
      go_wp2_with fail
      refine (wearspeaks_any _).mono ?_
      rintro e' w2 ⟨rfl, hb2⟩
      go_wp2
      go_ret
      exact ⟨rfl, hb2⟩
    · have d2 : decide ((100 : Int) < (zs.length : Int)) = false := by simp; omega
      obtain ⟨ti, hi, hzz, hs, hby⟩ := info_parts infoR
      go_enter Try.func11, Try.ntmps11
      go_wp2_with fail
      refine (wearspeaks_any _).mono ?_
      rintro e' w1 ⟨rfl, h1⟩
      have T1 := Lib.hid (h1.alloc h1.size (.cells #[] 65))
      have O1 := Lib.hid (World.ownsRow_made (base := w.heap.size) (e := 65) (size := 4) w1 #[] 0 h1.size (by simp [maxLen]) rfl)
      have R1 := Lib.hid (HR.out.below T1.out)
      clear h1
      go_wp2_with (first | (at_builtin; refine wpl_append_loads hi hzz rfl hs hby rfl (.tmp 27) (.tmp 28) rfl rfl O1.out A L.length _ L rfl rfl _ R1.out (by omega) T1.out.size L.length (by omega) ?_; intro X cA w3 O3 g3; rw [List.nil_append] at O3; have Q3 := Lib.hid O3; have T3 := Lib.hid (T1.out.grown g3 T1.out.size (fun q e => (O1.out.lt q e).1)); clear O3 g3))
      clear d1 d2 T1 O1 R1
      go_loopw [32] (fun i wr => ∃ k : Nat, k ≤ L.length ∧ i = .int .i64 k ∧ Hid (wr.ownsRow w.heap.size 65 4 (.slice X L.length cA) L.length ((orderTo L k).flatMap rrow)) ∧ Hid (Below w.heap.size w wr)) (fun i _ => L.length - (intOf i).toNat)
      case atStart => exact ⟨0, Nat.zero_le _, rfl, Q3, T3⟩
      case round =>
        clear Q3 T3
        obtain ⟨k, hk, rfl, hO, hb⟩ := hrel
        by_cases hlt : k < L.length
        · obtain ⟨g, rfl, hgb⟩ := rowR_addr hO.out (by omega)
          obtain ⟨x, hx⟩ : ∃ x, x = at_ (orderTo L k) k := ⟨_, rfl⟩
          have HX := Lib.hid hx
          have hMk := Lib.hid (show k < (orderTo L k).length by rw [orderTo_length]; exact hlt)
          have hrx := Lib.hid (show rrow x = [.int .u64 (x.seq : Int), .int .u64 (x.wear : Int), .int .i64 x.block, .int .i64 x.counts] from rfl)
          have hry := Lib.hid (show rrow (modO k x) = [.int .u64 ((k : Int) + 1), .int .u64 (x.wear : Int), .int .i64 (k : Int), .int .i64 x.counts] by simp [rrow, modO])
          have q0 := (World.ownsRow.cellAt hO.out (k * 4) (by omega)).trans (flat_get' hMk.out HX.out hrx.out 0 rfl)
          have q2 := (World.ownsRow.cellAt hO.out (k * 4 + 2) (by omega)).trans (flat_get' hMk.out HX.out hrx.out 2 rfl)
          have f0 := World.ownsRow.frozenAt hO.out (k * 4)
          have f2 := World.ownsRow.frozenAt hO.out (k * 4 + 2)
          have QZ := Lib.hid (show ((wr.setCell ⟨g, k * 4, none⟩ (.int .u64 ((k : Int) + 1))).setCell ⟨g, k * 4 + 2, none⟩ (.int .i64 (k : Int))).ownsRow w.heap.size 65 4 (.slice (some ⟨g, 0, none⟩) L.length cA) L.length ((orderTo L (k + 1)).flatMap rrow) by
            have h := rowR_set (rowR_set hO.out (k * 4) (.int .u64 ((k : Int) + 1))) (k * 4 + 2) (.int .i64 (k : Int))
            rw [seg4_of hMk.out, ← HX.out, hrx.out, seg4_set0 hMk.out rfl, seg4_set hMk.out rfl (by omega)] at h
            have e := seg4_to hMk.out (modO k x)
            rw [hry.out] at e
            rw [orderTo, ← HX.out, ← e]
            exact h)
          have TZ := Lib.hid ((hb.out.setCell (p := ⟨g, k * 4, none⟩) hgb (.int .u64 ((k : Int) + 1))).setCell (p := ⟨g, k * 4 + 2, none⟩) hgb (.int .i64 (k : Int)))
          clear hx
          go_wp2
          clear q0 q2 f0 f2
          go_roundw
          case rel => exact ⟨k + 1, by omega, by go_num, QZ, TZ⟩
          case measure => simp [intOf]; omega
        · obtain rfl : k = L.length := by omega
          obtain ⟨M0, hM0⟩ : ∃ M, M = orderTo L L.length := ⟨_, rfl⟩
          have hM0l : M0.length = L.length := by rw [hM0, orderTo_length]
          have hD := Lib.hid (show Distinct M0 by rw [hM0]; exact orderTo_distinct L)
          rw [← hM0] at hO
          clear hM0
          have RA := Lib.hid (rows_row hO.out)
          have T4 := Lib.hid ((Below.refl wr.heap.size wr).alloc (Nat.le_refl _) (.cells #[] 65))
          have O4 := Lib.hid (World.ownsRow_made (base := wr.heap.size) (e := 65) (size := 4) wr #[] 0 (Nat.le_refl _) (by simp [maxLen]) rfl)
          have R4 := Lib.hid (RA.out.below T4.out)
          go_wp2_with (first | (at_builtin; refine wpl_append_loads hi hzz rfl hs hby rfl (.tmp 48) (.tmp 49) rfl rfl O4.out X L.length _ M0 hM0l rfl _ R4.out (by omega) T4.out.size L.length (by omega) ?_; intro Y cB w5 O5 g5; rw [List.nil_append] at O5; have Q5 := Lib.hid O5; have T5 := Lib.hid (T4.out.grown g5 T4.out.size (fun q e => (O4.out.lt q e).1)); clear O5 g5))
          obtain ⟨W, hW⟩ : ∃ W, W = wr := ⟨_, rfl⟩
          subst hW
          clear T4 O4 R4 hO
          go_loopw [53] (fun i wr => ∃ k : Nat, k ≤ zs.length ∧ i = .int .i64 k ∧ ∃ M : List LV, Hid (M0.Perm M) ∧ Hid (wr.ownsRow W.heap.size 65 4 (.slice Y L.length cB) L.length (M.flatMap rrow)) ∧ Hid (Below W.heap.size W wr)) (fun i _ => zs.length - (intOf i).toNat)
          case atStart => exact ⟨0, Nat.zero_le _, rfl, M0, Lib.hid (List.Perm.refl _), Q5, T5⟩
          case round =>
            clear Q5 T5
            obtain ⟨k, hkz, rfl, M, hP, hO, hbW⟩ := hrel
            have hMl : M.length = L.length := by rw [← hP.out.length_eq, hM0l]
            by_cases hltz : k < zs.length
            · obtain ⟨az, rfl, haz, hcz⟩ := HR2.out.at_ (k := k) (by simpa using hltz)
              rw [List.getElem_map] at hcz
              obtain ⟨z, hzq⟩ : ∃ z, z = zs[k] := ⟨_, rfl⟩
              rw [← hzq] at hcz
              have hcz2 := (hbW.out.cell (p := az.add k) (Nat.lt_of_lt_of_le (by rw [add_block]; exact haz) hb.out.size)).trans ((hb.out.cell (p := az.add k) (by rw [add_block]; omega)).trans hcz)
              clear hzq hcz
              by_cases h0 : L.length = 0
              · have d3 : (L.length : Int) = 0 := by omega
                have d4 : decide ((0 : Int) < (L.length : Int)) = false := by rw [decide_eq_false_iff_not]; omega
                go_wp2
                go_roundw
                case rel => exact ⟨k + 1, by omega, by go_num, M, hP, hO, hbW⟩
                case measure => simp [intOf]; omega
              · have d4 : decide ((0 : Int) < (L.length : Int)) = true := by simp; omega
                obtain ⟨g, rfl, hgb⟩ := rowR_addr hO.out (by omega)
                have a1 := and_65535 z
                have hlow := low_lt z (m := 65536) (by omega)
                obtain ⟨zl, hzl⟩ : ∃ zl, zl = low z 65536 := ⟨_, rfl⟩
                rw [← hzl] at a1 hlow
                clear hzl
                obtain ⟨x, hx⟩ : ∃ x, x = k % L.length := ⟨_, rfl⟩
                obtain ⟨y, hy⟩ : ∃ y, y = zl % L.length := ⟨_, rfl⟩
                have hxl : x < L.length := by rw [hx]; exact Nat.mod_lt _ (by omega)
                have hyl : y < L.length := by rw [hy]; exact Nat.mod_lt _ (by omega)
                have ex : (k : Int) % (L.length : Int) = (x : Int) := by rw [hx]; exact (Int.natCast_emod k L.length).symm
                have ey : (zl : Int) % (L.length : Int) = (y : Int) := by rw [hy]; exact (Int.natCast_emod zl L.length).symm
                have ex2 : Int.tmod (k : Int) (L.length : Int) = (x : Int) := by rw [Int.tmod_eq_emod_of_nonneg (by omega), ex]
                have ey2 : Int.tmod (zl : Int) (L.length : Int) = (y : Int) := by rw [Int.tmod_eq_emod_of_nonneg (by omega), ey]
                have hn0 : ¬ ((L.length : Int) = 0) := by omega
                clear hx hy
                go_wp2_with fail
                go_quiet (fail)
                clear a1 ex ey ex2 ey2 hn0 d4
                go_wp2_with fail
                obtain ⟨W2, hW2⟩ : ∃ W2, W2 = (wr.drewN nq).drew := ⟨_, rfl⟩
                have O2 := Lib.hid (show W2.ownsRow W.heap.size 65 4 (.slice (some ⟨g, 0, none⟩) L.length cB) L.length (M.flatMap rrow) by rw [hW2]; exact hO.out)
                have T2 := Lib.hid (show Below W.heap.size W W2 by rw [hW2]; exact ⟨hbW.out.os, hbW.out.tape, hbW.out.output, hbW.out.size, hbW.out.block⟩)
                clear hO hbW
                obtain ⟨p, hp⟩ : ∃ p, p = at_ M x := ⟨_, rfl⟩
                obtain ⟨r, hr⟩ : ∃ r, r = at_ M y := ⟨_, rfl⟩
                have hxm : x < M.length := by omega
                have hym : y < M.length := by omega
                have cx0 := Lib.hid ((World.ownsRow.cellAt O2.out (x * 4) (by omega)).trans (flat_get' hxm hp rfl 0 rfl))
                have cy0 := Lib.hid ((World.ownsRow.cellAt O2.out (y * 4) (by omega)).trans (flat_get' hym hr rfl 0 rfl))
                have fx0 := Lib.hid (World.ownsRow.frozenAt O2.out (x * 4))
                have cx1 := Lib.hid ((World.ownsRow.cellAt O2.out (x * 4 + 1) (by omega)).trans (flat_get' hxm hp rfl 1 rfl))
                have cy1 := Lib.hid ((World.ownsRow.cellAt O2.out (y * 4 + 1) (by omega)).trans (flat_get' hym hr rfl 1 rfl))
                have fx1 := Lib.hid (World.ownsRow.frozenAt O2.out (x * 4 + 1))
                have cx2 := Lib.hid ((World.ownsRow.cellAt O2.out (x * 4 + 2) (by omega)).trans (flat_get' hxm hp rfl 2 rfl))
                have cy2 := Lib.hid ((World.ownsRow.cellAt O2.out (y * 4 + 2) (by omega)).trans (flat_get' hym hr rfl 2 rfl))
                have fx2 := Lib.hid (World.ownsRow.frozenAt O2.out (x * 4 + 2))
                have cx3 := Lib.hid ((World.ownsRow.cellAt O2.out (x * 4 + 3) (by omega)).trans (flat_get' hxm hp rfl 3 rfl))
                have cy3 := Lib.hid ((World.ownsRow.cellAt O2.out (y * 4 + 3) (by omega)).trans (flat_get' hym hr rfl 3 rfl))
                have fx3 := Lib.hid (World.ownsRow.frozenAt O2.out (x * 4 + 3))
                have hym2 : y < (M.set x r).length := by rw [List.length_set]; exact hym
                obtain ⟨W3, hW3⟩ : ∃ W3, W3 = ((((W2).setCell ⟨g, x * 4, none⟩ (.int .u64 (r.seq : Int))).setCell ⟨g, x * 4 + 1, none⟩ (.int .u64 (r.wear : Int))).setCell ⟨g, x * 4 + 2, none⟩ (.int .i64 r.block)).setCell ⟨g, x * 4 + 3, none⟩ (.int .i64 r.counts) := ⟨_, rfl⟩
                have O3 := Lib.hid (show W3.ownsRow W.heap.size 65 4 (.slice (some ⟨g, 0, none⟩) L.length cB) L.length ((M.set x r).flatMap rrow) by
                  have h := rowR_set (rowR_set (rowR_set (rowR_set (O2.out) (x * 4) (.int .u64 (r.seq : Int))) (x * 4 + 1) (.int .u64 (r.wear : Int))) (x * 4 + 2) (.int .i64 r.block)) (x * 4 + 3) (.int .i64 r.counts)
                  rw [seg4_of hxm, seg4_set0 hxm (rrow_len _), seg4_set hxm rfl (by omega), seg4_set hxm rfl (by omega), seg4_set hxm rfl (by omega)] at h
                  have e1 : ((((rrow (at_ M x)).set 0 (.int .u64 (r.seq : Int))).set 1 (.int .u64 (r.wear : Int))).set 2 (.int .i64 r.block)).set 3 (.int .i64 r.counts) = rrow r := rfl
                  rw [e1, seg4_to hxm] at h
                  rw [hW3]
                  exact h)
                have T3 := Lib.hid (show Below W.heap.size W W3 by rw [hW3]; exact ((((T2.out).setCell (p := ⟨g, x * 4, none⟩) hgb (.int .u64 (r.seq : Int))).setCell (p := ⟨g, x * 4 + 1, none⟩) hgb (.int .u64 (r.wear : Int))).setCell (p := ⟨g, x * 4 + 2, none⟩) hgb (.int .i64 r.block)).setCell (p := ⟨g, x * 4 + 3, none⟩) hgb (.int .i64 r.counts))
                have d0 := Lib.hid ((World.ownsRow.cellAt O3.out (y * 4) (by omega)).trans (flat_get' hym2 rfl rfl 0 rfl))
                have k0 := Lib.hid (World.ownsRow.frozenAt O3.out (y * 4))
                have d1 := Lib.hid ((World.ownsRow.cellAt O3.out (y * 4 + 1) (by omega)).trans (flat_get' hym2 rfl rfl 1 rfl))
                have k1 := Lib.hid (World.ownsRow.frozenAt O3.out (y * 4 + 1))
                have d2 := Lib.hid ((World.ownsRow.cellAt O3.out (y * 4 + 2) (by omega)).trans (flat_get' hym2 rfl rfl 2 rfl))
                have k2 := Lib.hid (World.ownsRow.frozenAt O3.out (y * 4 + 2))
                have d3 := Lib.hid ((World.ownsRow.cellAt O3.out (y * 4 + 3) (by omega)).trans (flat_get' hym2 rfl rfl 3 rfl))
                have k3 := Lib.hid (World.ownsRow.frozenAt O3.out (y * 4 + 3))
                obtain ⟨W4, hW4⟩ : ∃ W4, W4 = ((((W3).setCell ⟨g, y * 4, none⟩ (.int .u64 (p.seq : Int))).setCell ⟨g, y * 4 + 1, none⟩ (.int .u64 (p.wear : Int))).setCell ⟨g, y * 4 + 2, none⟩ (.int .i64 p.block)).setCell ⟨g, y * 4 + 3, none⟩ (.int .i64 p.counts) := ⟨_, rfl⟩
                have O4 := Lib.hid (show W4.ownsRow W.heap.size 65 4 (.slice (some ⟨g, 0, none⟩) L.length cB) L.length ((swapL M x y).flatMap rrow) by
                  have h := rowR_set (rowR_set (rowR_set (rowR_set (O3.out) (y * 4) (.int .u64 (p.seq : Int))) (y * 4 + 1) (.int .u64 (p.wear : Int))) (y * 4 + 2) (.int .i64 p.block)) (y * 4 + 3) (.int .i64 p.counts)
                  rw [seg4_of hym2, seg4_set0 hym2 (rrow_len _), seg4_set hym2 rfl (by omega), seg4_set hym2 rfl (by omega), seg4_set hym2 rfl (by omega)] at h
                  have e2 : ((((rrow (at_ (M.set x r) y)).set 0 (.int .u64 (p.seq : Int))).set 1 (.int .u64 (p.wear : Int))).set 2 (.int .i64 p.block)).set 3 (.int .i64 p.counts) = rrow p := rfl
                  rw [e2, seg4_to hym2] at h
                  rw [hW4, swapL, ← hp, ← hr]
                  exact h)
                have T4 := Lib.hid (show Below W.heap.size W W4 by rw [hW4]; exact ((((T3.out).setCell (p := ⟨g, y * 4, none⟩) hgb (.int .u64 (p.seq : Int))).setCell (p := ⟨g, y * 4 + 1, none⟩) hgb (.int .u64 (p.wear : Int))).setCell (p := ⟨g, y * 4 + 2, none⟩) hgb (.int .i64 p.block)).setCell (p := ⟨g, y * 4 + 3, none⟩) hgb (.int .i64 p.counts))
                have PZ := Lib.hid (hP.out.trans (swapL_perm hxm hym).symm)
                have HW3 := Lib.hid hW3
                have HW4 := Lib.hid hW4
                clear hp hr hxm hym hym2 hW3 hW4
                refine wp_region_held_drew (S := (fun _ => True)) (by kernel_rfl) trivial (fun _ => ?_)
                refine wpAnyH_take (i := 0) (v := .slice (some ⟨g, 0, none⟩) L.length cB) rfl (by kernel_rfl) (by kernel_rfl) (by kernel_rfl) (fun _ _ _ h => h) (Or.inl ⟨by kernel_rfl, fun w _ => by go_simp⟩) trivial ?_
                refine wpAnyH_take (i := 1) (v := .int .i64 (x : Int)) rfl (by kernel_rfl) (by kernel_rfl) (by kernel_rfl) (fun _ _ _ h => h) (Or.inl ⟨by kernel_rfl, fun w _ => by go_simp⟩) trivial ?_
                refine wpAnyH_take (i := 2) (v := .slice (some ⟨g, 0, none⟩) L.length cB) rfl (by kernel_rfl) (by kernel_rfl) (by kernel_rfl) (fun _ _ _ h => h) (Or.inl ⟨by kernel_rfl, fun w _ => by go_simp⟩) trivial ?_
                refine wpAnyH_take (i := 3) (v := .int .i64 (y : Int)) rfl (by kernel_rfl) (by kernel_rfl) (by kernel_rfl) (fun _ _ _ h => h) (Or.inl ⟨by kernel_rfl, fun w _ => by go_simp⟩) trivial ?_
                refine wpAnyH_take (i := 4) (v := .slice (some ⟨g, 0, none⟩) L.length cB) rfl (by kernel_rfl) (by kernel_rfl) (by kernel_rfl) (fun _ _ _ h => h) (Or.inl ⟨by kernel_rfl, fun w _ => by go_simp⟩) trivial ?_
                refine wpAnyH_take (i := 5) (v := .int .i64 (y : Int)) rfl (by kernel_rfl) (by kernel_rfl) (by kernel_rfl) (fun _ _ _ h => h) (Or.inl ⟨by kernel_rfl, fun w _ => by go_simp⟩) trivial ?_
                refine wpAnyH_take (i := 6) (v := .pointer (some ⟨g, y * 4, none⟩)) rfl (by kernel_rfl) (by kernel_rfl) (by kernel_rfl) (fun _ _ _ h => h) (Or.inl ⟨by kernel_rfl, fun w _ => by go_simp⟩) trivial ?_
                refine wpAnyH_take (i := 8) (v := .slice (some ⟨g, 0, none⟩) L.length cB) rfl (by kernel_rfl) (by kernel_rfl) (by kernel_rfl) (fun _ _ _ h => h) (Or.inl ⟨by kernel_rfl, fun w _ => by go_simp⟩) trivial ?_
                refine wpAnyH_take (i := 9) (v := .int .i64 (x : Int)) rfl (by kernel_rfl) (by kernel_rfl) (by kernel_rfl) (fun _ _ _ h => h) (Or.inl ⟨by kernel_rfl, fun w _ => by go_simp⟩) trivial ?_
                refine wpAnyH_take (i := 10) (v := .pointer (some ⟨g, x * 4, none⟩)) rfl (by kernel_rfl) (by kernel_rfl) (by kernel_rfl) (fun _ _ _ h => h) (Or.inl ⟨by kernel_rfl, fun w _ => by go_simp⟩) trivial ?_
                rw [← hW2]
                clear hW2
                refine wpAnyH_ready (rs := [7, 11]) (by kernel_rfl) (by simp) (AllReadyH.cons rfl (fun K hK => ?_) (AllReadyH.cons rfl (fun K hK => ?_) AllReadyH.nil))
                · have zcy0 := cy0.out
                  have zcy1 := cy1.out
                  have zcy2 := cy2.out
                  have zcy3 := cy3.out
                  go_simp
                  clear zcy0 zcy1 zcy2 zcy3
                  refine hK.out _ _ trivial (fun _ => ?_)
                  clear hK K
                  refine wpAnyH_ready (rs := [11]) (by kernel_rfl) (by simp) (AllReadyH.cons rfl (fun K hK => ?_) AllReadyH.nil)
                  have zcx0 := cx0.out
                  have zcx1 := cx1.out
                  have zcx2 := cx2.out
                  have zcx3 := cx3.out
                  go_simp
                  clear zcx0 zcx1 zcx2 zcx3
                  refine hK.out _ _ trivial (fun _ => ?_)
                  clear hK K
                  refine wpAnyH_take (i := 12) (v := .pointer (some ⟨g, x * 4, none⟩)) rfl (by kernel_rfl) (by kernel_rfl) (by kernel_rfl) (fun _ _ _ h => h) (Or.inl ⟨by kernel_rfl, fun w _ => by go_simp⟩) trivial ?_
                  refine wpAnyH_ready (rs := [13]) (by kernel_rfl) (by simp) (AllReadyH.cons rfl (fun K hK => ?_) AllReadyH.nil)
                  have zfx0 := fx0.out
                  have zfx1 := fx1.out
                  have zfx2 := fx2.out
                  have zfx3 := fx3.out
                  have zcx0 := cx0.out
                  have zcx1 := cx1.out
                  have zcx2 := cx2.out
                  have zcx3 := cx3.out
                  go_simp
                  clear zfx0 zfx1 zfx2 zfx3
                  clear zcx0 zcx1 zcx2 zcx3
                  rw [← HW3.out]
                  refine hK.out _ _ trivial (fun _ => ?_)
                  clear hK K
                  refine wpAnyH_take (i := 14) (v := .pointer (some ⟨g, y * 4, none⟩)) rfl (by kernel_rfl) (by kernel_rfl) (by kernel_rfl) (fun _ _ _ h => h) (Or.inl ⟨by kernel_rfl, fun w _ => by go_simp⟩) trivial ?_
                  refine wpAnyH_ready (rs := [15]) (by kernel_rfl) (by simp) (AllReadyH.cons rfl (fun K hK => ?_) AllReadyH.nil)
                  have zd0 := d0.out
                  have zd1 := d1.out
                  have zd2 := d2.out
                  have zd3 := d3.out
                  have zk0 := k0.out
                  have zk1 := k1.out
                  have zk2 := k2.out
                  have zk3 := k3.out
                  go_simp
                  clear zd0 zd1 zd2 zd3
                  clear zk0 zk1 zk2 zk3
                  rw [← HW4.out]
                  refine hK.out _ _ trivial (fun _ => ?_)
                  clear hK K
                  refine wpAnyH_done (by kernel_rfl) ?_ _
                  go_wp2
                  go_roundw
                  case rel => exact ⟨k + 1, by omega, by go_num, swapL M x y, PZ, O4, T4⟩
                  case measure => simp [intOf]; omega
                · have zcx0 := cx0.out
                  have zcx1 := cx1.out
                  have zcx2 := cx2.out
                  have zcx3 := cx3.out
                  go_simp
                  clear zcx0 zcx1 zcx2 zcx3
                  refine hK.out _ _ trivial (fun _ => ?_)
                  clear hK K
                  refine wpAnyH_ready (rs := [7]) (by kernel_rfl) (by simp) (AllReadyH.cons rfl (fun K hK => ?_) AllReadyH.nil)
                  have zcy0 := cy0.out
                  have zcy1 := cy1.out
                  have zcy2 := cy2.out
                  have zcy3 := cy3.out
                  go_simp
                  clear zcy0 zcy1 zcy2 zcy3
                  refine hK.out _ _ trivial (fun _ => ?_)
                  clear hK K
                  refine wpAnyH_take (i := 12) (v := .pointer (some ⟨g, x * 4, none⟩)) rfl (by kernel_rfl) (by kernel_rfl) (by kernel_rfl) (fun _ _ _ h => h) (Or.inl ⟨by kernel_rfl, fun w _ => by go_simp⟩) trivial ?_
                  refine wpAnyH_ready (rs := [13]) (by kernel_rfl) (by simp) (AllReadyH.cons rfl (fun K hK => ?_) AllReadyH.nil)
                  have zfx0 := fx0.out
                  have zfx1 := fx1.out
                  have zfx2 := fx2.out
                  have zfx3 := fx3.out
                  have zcx0 := cx0.out
                  have zcx1 := cx1.out
                  have zcx2 := cx2.out
                  have zcx3 := cx3.out
                  go_simp
                  clear zfx0 zfx1 zfx2 zfx3
                  clear zcx0 zcx1 zcx2 zcx3
                  rw [← HW3.out]
                  refine hK.out _ _ trivial (fun _ => ?_)
                  clear hK K
                  refine wpAnyH_take (i := 14) (v := .pointer (some ⟨g, y * 4, none⟩)) rfl (by kernel_rfl) (by kernel_rfl) (by kernel_rfl) (fun _ _ _ h => h) (Or.inl ⟨by kernel_rfl, fun w _ => by go_simp⟩) trivial ?_
                  refine wpAnyH_ready (rs := [15]) (by kernel_rfl) (by simp) (AllReadyH.cons rfl (fun K hK => ?_) AllReadyH.nil)
                  have zd0 := d0.out
                  have zd1 := d1.out
                  have zd2 := d2.out
                  have zd3 := d3.out
                  have zk0 := k0.out
                  have zk1 := k1.out
                  have zk2 := k2.out
                  have zk3 := k3.out
                  go_simp
                  clear zd0 zd1 zd2 zd3
                  clear zk0 zk1 zk2 zk3
                  rw [← HW4.out]
                  refine hK.out _ _ trivial (fun _ => ?_)
                  clear hK K
                  refine wpAnyH_done (by kernel_rfl) ?_ _
                  go_wp2
                  go_roundw
                  case rel => exact ⟨k + 1, by omega, by go_num, swapL M x y, PZ, O4, T4⟩
                  case measure => simp [intOf]; omega
            · obtain rfl : k = zs.length := by omega
              have hMl : M.length = L.length := by rw [← hP.out.length_eq, hM0l]
              have RB := Lib.hid (rows_row hO.out)
              have RA2 := Lib.hid ((RA.out.below hbW.out).more hbW.out.size)
              have TT := Lib.hid (hb.out.trans (hbW.out.mono hb.out.size))
              have ka := loads_any X M0 cA wr wr.heap.size (Nat.le_refl _) RA2.out (by omega)
              rw [hM0l] at ka
              have KA := Lib.hid ka
              have hvp := victim_perm hD.out hP.out
              clear ka hO RA hbW
              go_wp2_with fail
              ((with_reducible refine KA.out.mono ?_); rintro e w6 ⟨X6, c6, rfl, O6, h6⟩)
              have T6 := Lib.hid (TT.out.trans (h6.mono TT.out.size))
              have U6 := Lib.hid h6
              have kv := victim_any X6 M0 c6 w6 w6.heap.size (Nat.le_refl _) (loads_row O6) (by omega)
              rw [hM0l] at kv
              have kb := fun w7 (h : Below wr.heap.size wr w7) => loads_any Y M cB w7 wr.heap.size h.size (RB.out.below h) (by omega)
              rw [hMl] at kb
              have KB := Lib.hid kb
              have kw := fun (X8 : Option Addr) (c8 : Nat) (w8 : World) (h : Row w8 w8.heap.size X8 (M.flatMap mrow)) => victim_any X8 M c8 w8 w8.heap.size (Nat.le_refl _) h (by omega)
              rw [hMl] at kw
              clear O6 h6 kb KA
              rcases hvp with ⟨v1, v2⟩ | ⟨i, j, v1, v2, hij⟩
              · rw [v1] at kv
                rw [v2] at kw
                have KV := Lib.hid kv
                have KW := Lib.hid kw
                clear kv kw v1 v2
                go_wp2_with fail
                refine KV.out.mono ?_
                rintro e w7 ⟨rfl, h7⟩
                have U7 := Lib.hid (U6.out.trans (h7.mono U6.out.size))
                clear h7
                go_wp2_with fail
                ((with_reducible refine (KB.out _ U7.out).mono ?_); rintro e w8 ⟨X8, c8, rfl, O8, h8⟩)
                have U8 := Lib.hid (U7.out.trans (h8.mono U7.out.size))
                have KW2 := Lib.hid (KW.out X8 c8 w8 (loads_row O8))
                clear O8 h8
                go_wp2_with fail
                refine KW2.out.mono ?_
                rintro e w9 ⟨rfl, h9⟩
                have U9 := Lib.hid (U8.out.trans (h9.mono U8.out.size))
                clear h9
                simp only [Option.isSome_none]
                go_wp2_with fail
                go_quiet (fail)
                go_wp2
                go_ret
                have TZ := TT.out.trans (U9.out.mono TT.out.size)
                exact ⟨rfl, ⟨TZ.os, TZ.tape, TZ.output, TZ.size, TZ.block⟩⟩
              · have hil := victim_lt v1
                have hjl := victim_lt v2
                rw [v1] at kv
                rw [v2] at kw
                have KV := Lib.hid kv
                have KW := Lib.hid kw
                clear kv kw v1 v2
                obtain ⟨a, rfl, haB, hca⟩ := RA2.out.elem rrow_len (by omega) (at_get hil)
                obtain ⟨b, rfl, hbB, hcb⟩ := RB.out.elem rrow_len (by omega) (at_get hjl)
                obtain ⟨l, hl2⟩ : ∃ l, l = at_ M0 i := ⟨_, rfl⟩
                rw [← hl2] at hca hij
                rw [← hij] at hcb
                have HCA := Lib.hid (show ∀ w', Below wr.heap.size wr w' → ∀ q u, (rrow l)[q]? = some u → w'.cell? ((a.add (i * 4)).add q) = some u from fun w' h q u hu => (h.cell (p := (a.add (i * 4)).add q) (by rw [add_block, add_block]; exact haB)).trans (hca q u hu))
                have HCB := Lib.hid (show ∀ w', Below wr.heap.size wr w' → ∀ q u, (rrow l)[q]? = some u → w'.cell? ((b.add (j * 4)).add q) = some u from fun w' h q u hu => (h.cell (p := (b.add (j * 4)).add q) (by rw [add_block, add_block]; exact hbB)).trans (hcb q u hu))
                have HEQ := Lib.hid (load_eq l)
                have hlr := Lib.hid (rrow_len l)
                obtain ⟨rl, hrl⟩ : ∃ rl, rl = rrow l := ⟨_, rfl⟩
                rw [← hrl] at HCA HCB HEQ hlr
                have hi2 : i < L.length := by omega
                have hj2 : j < L.length := by omega
                clear hca hcb hl2 hij hrl hil hjl
                go_wp2_with fail
                refine KV.out.mono ?_
                rintro e w7 ⟨rfl, h7⟩
                have U7 := Lib.hid (U6.out.trans (h7.mono U6.out.size))
                clear h7
                go_wp2_with fail
                ((with_reducible refine (KB.out _ U7.out).mono ?_); rintro e w8 ⟨X8, c8, rfl, O8, h8⟩)
                have U8 := Lib.hid (U7.out.trans (h8.mono U7.out.size))
                have KW2 := Lib.hid (KW.out X8 c8 w8 (loads_row O8))
                clear O8 h8
                go_wp2_with fail
                refine KW2.out.mono ?_
                rintro e w9 ⟨rfl, h9⟩
                have U9 := Lib.hid (U8.out.trans (h9.mono U8.out.size))
                clear h9
                go_wp2_with fail
                have S0 : Below wr.heap.size wr w9.drew := U9.out.drew
                have hEq := HEQ.out
                refine wp_region_held_drew (S := (fun w' => Below wr.heap.size wr w')) (by kernel_rfl) S0 (fun _ => ?_)
                refine wpAnyH_take (i := 0) (v := .bool true) rfl (by kernel_rfl) (by kernel_rfl) (by kernel_rfl) (fun _ _ _ h => h) (Or.inl ⟨by kernel_rfl, fun w _ => by go_simp⟩) S0 ?_
                refine wpAnyH_take (i := 1) (v := .bool true) rfl (by kernel_rfl) (by kernel_rfl) (by kernel_rfl) (fun _ _ _ h => h) (Or.inl ⟨by kernel_rfl, fun w _ => by go_simp⟩) S0 ?_
                refine wpAnyH_take (i := 2) (v := .bool true) rfl (by kernel_rfl) (by kernel_rfl) (by kernel_rfl) (fun _ _ _ h => h) (Or.inl ⟨by kernel_rfl, fun w _ => by go_simp⟩) S0 ?_
                refine wpAnyH_take (i := 3) (v := .bool true) rfl (by kernel_rfl) (by kernel_rfl) (by kernel_rfl) (fun _ _ _ h => h) (Or.inl ⟨by kernel_rfl, fun w _ => by go_simp⟩) S0 ?_
                refine wpAnyH_take (i := 4) (v := .bool true) rfl (by kernel_rfl) (by kernel_rfl) (by kernel_rfl) (fun _ _ _ h => h) (Or.inl ⟨by kernel_rfl, fun w _ => by go_simp⟩) S0 ?_
                refine wpAnyH_take (i := 5) (v := .bool false) rfl (by kernel_rfl) (by kernel_rfl) (by kernel_rfl) (fun _ _ _ h => h) (Or.inl ⟨by kernel_rfl, fun w _ => by go_simp⟩) S0 ?_
                refine wpAnyH_take (i := 6) (v := .bool false) rfl (by kernel_rfl) (by kernel_rfl) (by kernel_rfl) (fun _ _ _ h => h) (Or.inl ⟨by kernel_rfl, fun w _ => by go_simp⟩) S0 ?_
                refine wpAnyH_take (i := 7) (v := .slice (some a) L.length cA) rfl (by kernel_rfl) (by kernel_rfl) (by kernel_rfl) (fun _ _ _ h => h) (Or.inl ⟨by kernel_rfl, fun w _ => by go_simp⟩) S0 ?_
                refine wpAnyH_take (i := 8) (v := .int .i64 (i : Int)) rfl (by kernel_rfl) (by kernel_rfl) (by kernel_rfl) (fun _ _ _ h => h) (Or.inl ⟨by kernel_rfl, fun w _ => by go_simp⟩) S0 ?_
                refine wpAnyH_take (i := 9) (v := .pointer (some (a.add (i * 4)))) rfl (by kernel_rfl) (by kernel_rfl) (by kernel_rfl) (fun _ _ _ h => h) (Or.inl ⟨by kernel_rfl, fun w _ => by go_simp⟩) S0 ?_
                refine wpAnyH_take (i := 10) (v := .agg rl.toArray) rfl (by kernel_rfl) (by kernel_rfl) (by kernel_rfl) (fun _ _ _ h => h) (yields_cells (q := a.add (i * 4)) aggR sizeR (.tmp 105) (by kernel_rfl) (by kernel_rfl) (by kernel_rfl) hlr.out HCA.out) S0 ?_
                refine wpAnyH_take (i := 11) (v := .slice (some b) L.length cB) rfl (by kernel_rfl) (by kernel_rfl) (by kernel_rfl) (fun _ _ _ h => h) (Or.inl ⟨by kernel_rfl, fun w _ => by go_simp⟩) S0 ?_
                refine wpAnyH_take (i := 12) (v := .int .i64 (j : Int)) rfl (by kernel_rfl) (by kernel_rfl) (by kernel_rfl) (fun _ _ _ h => h) (Or.inl ⟨by kernel_rfl, fun w _ => by go_simp⟩) S0 ?_
                refine wpAnyH_take (i := 13) (v := .pointer (some (b.add (j * 4)))) rfl (by kernel_rfl) (by kernel_rfl) (by kernel_rfl) (fun _ _ _ h => h) (Or.inl ⟨by kernel_rfl, fun w _ => by go_simp⟩) S0 ?_
                refine wpAnyH_take (i := 14) (v := .agg rl.toArray) rfl (by kernel_rfl) (by kernel_rfl) (by kernel_rfl) (fun _ _ _ h => h) (yields_cells (q := b.add (j * 4)) aggR sizeR (.tmp 109) (by kernel_rfl) (by kernel_rfl) (by kernel_rfl) hlr.out HCB.out) S0 ?_
                refine wpAnyH_take (i := 15) (v := .bool true) rfl (by kernel_rfl) (by kernel_rfl) (by kernel_rfl) (fun _ _ _ h => h) (Or.inl ⟨by kernel_rfl, fun w _ => by go_simp⟩) S0 ?_
                refine wpAnyH_take (i := 16) (v := .bool true) rfl (by kernel_rfl) (by kernel_rfl) (by kernel_rfl) (fun _ _ _ h => h) (Or.inl ⟨by kernel_rfl, fun w _ => by go_simp⟩) S0 ?_
                refine wpAnyH_take (i := 17) (v := .bool true) rfl (by kernel_rfl) (by kernel_rfl) (by kernel_rfl) (fun _ _ _ h => h) (Or.inl ⟨by kernel_rfl, fun w _ => by go_simp⟩) S0 ?_
                refine wpAnyH_ready (rs := [18]) (by kernel_rfl) (by simp) (AllReadyH.cons rfl (fun K hK => ?_) AllReadyH.nil)
                go_simp
                refine hK.out _ _ S0 (fun _ => ?_)
                clear hK K hEq
                refine wpAnyH_done (by kernel_rfl) ?_ _
                go_wp2
                go_ret
                exact ⟨rfl, TT.out.trans (S0.mono TT.out.size)⟩
end Go.Proofs.Ytdmganpblkepfaa
