/- The contract of look. Condition: the chip is there. -/
import Derived.Test.YtdiocjneakfdgaaGreatDoorQBbtE
namespace Go.Proofs.YtdiocjneakfdgaaGreatDoor
open Go.RowKit
set_option maxRecDepth 100000 in
set_option maxHeartbeats 16000000 in
theorem look_on (a : At) (S : Ch) (s : NM.Pwr) (w : World) (hD : Dev w a S s) (he : S.mayE s = 0) :
    Calls Tryz.prog 80 #[.pointer (some ⟨a.c, 0, none⟩)] w fun e w' => e = .returned (.tuple #[.agg (keptOf (lookTo S.bs 16)).row.toArray, .int .i64 (noneE (lookTo S.bs 16))]) ∧ Below w.heap.size w w' := by
  have z := zeroKept
  have y0 := buildKept0
  have zp := zeroPage
  have zl := zeroLay
  have hz := Kp.zero_length
  have HZ := Lib.hid hz
  have hs0 := segSet_all (hz.trans hz.symm)
  have b0 : Below w.heap.size w ((w.alloc (.cells Kp.zero.row.toArray 159)).alloc (.cells Kp.zero.row.toArray 159)) := ((Below.refl _ _).alloc (Nat.le_refl _) _).alloc (by simp) _
  have R0 : Blk ((w.alloc (.cells Kp.zero.row.toArray 159)).alloc (.cells Kp.zero.row.toArray 159)) w.heap.size 159 Kp.zero.row := (Blk.new w _ _).alloc _
  have F0 : Blk ((w.alloc (.cells Kp.zero.row.toArray 159)).alloc (.cells Kp.zero.row.toArray 159)) (w.heap.size + 1) 159 Kp.zero.row := by
    have := Blk.new (w.alloc (.cells Kp.zero.row.toArray 159)) 159 Kp.zero.row
    rw [World.size_alloc] at this
    exact this
  have HB := Lib.hid b0
  have HR := Lib.hid R0
  have HD := Lib.hid hD
  have hlen := hD.pc.len
  have hbs := Lib.hid hD.pc.bg.2
  have HM : Hid (∀ b k : Int, 0 ≤ b → b < 2 → 0 ≤ k → k < 8 → NM.may s.off S.live S.bs.length b k = 0) := Lib.hid (fun b k h1 h2 h3 h4 => (may_own (by omega) h1 h2 h3 h4).trans he)
  obtain ⟨n, hn⟩ : ∃ n, n = S.bs.length := ⟨_, rfl⟩
  rw [← hn] at hlen
  have HN := Lib.hid hn
  have HLK : Hid (∀ i, i ≤ 16 → ∀ k, lookTo S.bs i = some k → k.ok) := Lib.hid (lookTo_ok hbs.out (by omega) (by omega))
  clear b0 R0 hD hz hn he
  go_enter Tryz.func80, Tryz.ntmps80
  go_wp2_with (with_reducible refine wpl_seg_store sizeKept (.tmp 4) (.tmp 13) rfl rfl F0 0 Kp.zero.row HZ.out (by rw [HZ.out]; exact Nat.le_refl _) (Kp.one _) rfl rfl _ hs0 ?_; intro w1 F1 g1 e1)
  have B1 := Lib.hid (HB.out.grown g1 (by simp; omega) (fun k e => by cases e; omega))
  have R1 := Lib.hid (HR.out.grown g1 (by simp))
  have HF1 := Lib.hid F1
  clear F0 F1 g1 e1 HB HR
  go_loopw [5, 14] (fun u i wr => ∃ j : Nat, j ≤ 2 ∧ i = .int .i64 j ∧ u = .int .i64 (noneE (lookTo S.bs (8 * j))) ∧ Blk wr (w.heap.size + 1) 159 (keptOf (lookTo S.bs (8 * j))).row ∧ Blk wr w.heap.size 159 Kp.zero.row ∧ Below w.heap.size w wr) (fun _ i _ => 2 - (intOf i).toNat)
  case atStart => exact ⟨0, by omega, rfl, rfl, HF1.out, R1.out, B1.out⟩
  case round =>
    rename_i wr
    obtain ⟨j, hj, rfl, rfl, hF, hR, hb⟩ := hrel
    have F2 := Lib.hid hF
    have R2 := Lib.hid hR
    have B2 := Lib.hid hb
    clear hF hR hb HF1 R1 B1
    by_cases hlt : j < 2
    · have dj : decide ((j : Int) < 2) = true := by simp; omega
      go_wp2_with fail
      obtain ⟨W, hW⟩ : ∃ W, W = wr := ⟨_, rfl⟩
      subst hW
      go_loopw [5, 17] (fun u i wr => ∃ k : Nat, k ≤ 8 ∧ i = .int .i64 k ∧ u = .int .i64 (noneE (lookTo S.bs (8 * j + k))) ∧ Blk wr (w.heap.size + 1) 159 (keptOf (lookTo S.bs (8 * j + k))).row ∧ Blk wr w.heap.size 159 Kp.zero.row ∧ Below w.heap.size w wr) (fun _ i _ => 8 - (intOf i).toNat)
      case atStart => exact ⟨0, by omega, rfl, rfl, F2.out, R2.out, B2.out⟩
      case round =>
        rename_i wr
        obtain ⟨k, hk, rfl, rfl, hF, hR, hb⟩ := hrel
        clear F2 R2 B2
        by_cases hlk : k < 8
        · have dv := HD.out.after hb
          have kr := cread_any a S s (j : Int) (k : Int) wr dv.pc dv.pw
          rw [HM.out j k (by omega) (by omega) (by omega) (by omega), show S.readPage 0 (j : Int) (k : Int) = pageOf S.bs j k from rfl] at kr
          have hpl := pageOf_length hbs.out (b := j) (k := k) (by have := HN.out; omega) hlk
          have hstep : lookTo S.bs (8 * j + k + 1) = lookAt S.bs.length S.bs (lookTo S.bs (8 * j + k)) j k := by
            rw [lookTo, show (8 * j + k) / 8 = j by omega, show (8 * j + k) % 8 = k by omega]
          have hfk := HLK.out (8 * j + k) (by omega)
          obtain ⟨f, hf⟩ : ∃ f, f = lookTo S.bs (8 * j + k) := ⟨_, rfl⟩
          rw [← hf] at hF hstep hfk ⊢
          have HST : Hid (lookTo S.bs (8 * j + k + 1) = pickK (tableOf n (pageOf S.bs j k)) f j (pageOf S.bs j k)) := Lib.hid (by rw [hstep, HN.out]; rfl)
          have htok := fun x => tableOf_ok (n := n) hlen.1 hlen.2 (L := pageOf S.bs j k) (x := x)
          obtain ⟨pg, hpg⟩ : ∃ pg, pg = pageOf S.bs j k := ⟨_, rfl⟩
          rw [← hpg] at kr hpl HST htok
          have F3 := Lib.hid hF
          have R3 := Lib.hid hR
          have B3 := Lib.hid hb
          have HPL := Lib.hid hpl
          have HFK := Lib.hid hfk
          have HTOK := Lib.hid htok
          clear hF hR hb dv hpl hstep hfk hf hpg htok
          go_wp2_with (first
            | ((with_reducible refine kr.mono ?_); rintro e w2 ⟨rfl, b2⟩; have N2 := PArr.new w2 pzeros_length; have hsz := Lib.hid (Nat.lt_of_lt_of_le F3.out.lt b2.size); have B4 := Lib.hid ((B3.out.trans (b2.mono B3.out.size)).alloc (Nat.le_trans B3.out.size b2.size) (.cells (cl pzeros) 92)); have R4 := Lib.hid ((R3.out.after b2).alloc (.cells (cl pzeros) 92)); have F4 := Lib.hid ((F3.out.after b2).alloc (.cells (cl pzeros) 92)))
            | (with_reducible refine wpl_pstore (.tmp 8) (.tmp 25) rfl rfl N2 rfl HPL.out rfl ?_; intro w3 N3 g3 e3))
          have B5 := Lib.hid (B4.out.grown g3 B4.out.size (fun k e => by have := Option.some.inj e; have := hsz.out; omega))
          have R5 := Lib.hid (R4.out.grown g3 (by have := hsz.out; simp; omega))
          have F5 := Lib.hid (F4.out.grown g3 (by have := hsz.out; simp; omega))
          have hlt5 : Hid (w.heap.size + 1 < w2.heap.size) := hsz
          obtain ⟨gp, hgp⟩ : ∃ gp, gp = w2.heap.size := ⟨_, rfl⟩
          rw [← hgp] at N3 hlt5
          simp only [← hgp]
          clear B3 R3 F3 B4 R4 F4 hsz g3 e3 N2 kr hgp b2
          have D5 := Lib.hid (HD.out.after B5.out)
          have N5 : PArr w3.drew gp pg := N3
          have zz : (tableOf n pg).isSome = true ∨ (tableOf n pg).isSome = false := by cases (tableOf n pg).isSome <;> simp
          obtain ⟨T, hT⟩ : ∃ T, T = tableOf n pg := ⟨_, rfl⟩
          have kt : ∀ X, Tab X → Calls Tryz.prog 111 #[.int .i64 (n : Int), .agg (cl pg)] X fun e w' => ∃ z : Nat, e = .returned (.tuple #[.int .u64 (z : Int), .agg ((T.map (·.2)).getD (Lay.of 0)).row.toArray, .bool T.isSome]) ∧ (∀ x, T = some x → z = x.1) ∧ Below X.heap.size X w' := by
            rw [hT]
            exact fun X hX => tread_any n hlen.1 hlen.2 pg HPL.out X hX
          have kb : ∀ X, PChip X a S → Calls Tryz.prog 89 #[.pointer (some ⟨a.c, 0, none⟩)] X fun e w' => e = .returned (.int .i64 (n : Int)) ∧ X = w' := by
            rw [HN.out]
            exact fun X hX => blocks_any a S X hX
          rw [← hT] at HST
          have HTOK2 : Hid (∀ x, T = some x → x.2.ok) := Lib.hid (by rw [hT]; exact HTOK.out)
          have hrl : ((T.map (·.2)).getD (Lay.of 0)).row.length = 75 := by
            cases T with
            | none => exact Lay.zero_length
            | some x => exact Lay.row_length (HTOK2.out x rfl)
          obtain ⟨rw', hrw⟩ : ∃ r, r = ((T.map (·.2)).getD (Lay.of 0)).row := ⟨_, rfl⟩
          have h1' : ∀ v ∈ rw', v.oneCell' = true := by rw [hrw]; exact Lay.one _
          rw [← hrw] at kt hrl
          obtain ⟨okb, hok⟩ : ∃ b, b = T.isSome := ⟨_, rfl⟩
          rw [← hok] at kt
          have HRW := Lib.hid hrw
          have HOK := Lib.hid hok
          clear hT hrw hok zz HTOK
          have hzl := Lay.zero_length
          refine wp_region_held_drew (S := fun w' => PArr w' gp pg) (by kernel_rfl) N5 (fun _ => ?_)
          refine wpAnyH_take (i := 0) (v := .pointer (some ⟨a.c, 0, none⟩)) rfl (by kernel_rfl) (by kernel_rfl) (by kernel_rfl) (fun _ _ _ h => h) (Or.inl ⟨by kernel_rfl, fun w _ => by go_simp⟩) N5 ?_
          refine wpAnyH_take (i := 2) (v := .agg (cl pg)) rfl (by kernel_rfl) (by kernel_rfl) (by kernel_rfl) (fun _ _ _ h => h) (yields_pload (g := gp) (.tmp 8) (by kernel_rfl) (by kernel_rfl) (by kernel_rfl) (fun _ h => h)) N5 ?_
          refine wpAnyH_ready (rs := [1, 8]) (by kernel_rfl) (by simp) (AllReadyH.cons rfl (fun K hK => ?_) (AllReadyH.cons rfl (fun K hK => ?_) AllReadyH.nil))
          all_goals have D5d : Dev w3.drew a S s := D5.out.after (Below.refl _ _).drew
          · go_simp
            ((with_reducible refine (kb _ D5d.pc).mono ?_); rintro e w' ⟨rfl, rfl⟩)
            refine hK.out _ _ N5 (fun _ => ?_)
            clear hK K
            refine wpAnyH_ready (rs := [3, 8]) (by kernel_rfl) (by simp) (AllReadyH.cons rfl (fun K hK => ?_) (AllReadyH.cons rfl (fun K hK => ?_) AllReadyH.nil))
            · go_simp
              ((with_reducible refine (kt _ D5d.tab).mono ?_); rintro e w4 ⟨zv, rfl, hzv, b4⟩)
              have HZV := Lib.hid hzv
              clear hzv
              have N4 := N5.after b4
              refine hK.out _ _ N4 (fun _ => ?_)
              clear hK K
              refine wpAnyH_take (i := 4) (v := .tuple #[.int .u64 (zv : Int), .agg rw'.toArray, .bool okb]) rfl (by kernel_rfl) (by kernel_rfl) (by kernel_rfl) (fun _ _ _ h => h) (Or.inl ⟨by kernel_rfl, fun w _ => by go_simp⟩) N4 ?_
              refine wpAnyH_take (i := 5) (v := .int .u64 (zv : Int)) rfl (by kernel_rfl) (by kernel_rfl) (by kernel_rfl) (fun _ _ _ h => h) (Or.inl ⟨by kernel_rfl, fun w _ => by go_simp⟩) N4 ?_
              refine wpAnyH_take (i := 6) (v := .agg rw'.toArray) rfl (by kernel_rfl) (by kernel_rfl) (by kernel_rfl) (fun _ _ _ h => h) (Or.inl ⟨by kernel_rfl, fun w _ => by go_simp⟩) N4 ?_
              refine wpAnyH_take (i := 7) (v := .bool okb) rfl (by kernel_rfl) (by kernel_rfl) (by kernel_rfl) (fun _ _ _ h => h) (Or.inl ⟨by kernel_rfl, fun w _ => by go_simp⟩) N4 ?_
              refine wpAnyH_ready (rs := [8]) (by kernel_rfl) (by simp) (AllReadyH.cons rfl (fun K hK => ?_) AllReadyH.nil)
              go_simp
              have L4 := Blk.new w4 123 (Lay.of 0).row
              have b5 : Below w3.drew.heap.size w3.drew (w4.alloc (.cells (Lay.of 0).row.toArray 123)) := b4.alloc b4.size _
              have N5b := N5.after b5
              have hgl : w3.drew.heap.size ≤ w4.heap.size := b4.size
              refine hK.out _ _ N5b (fun _ => ?_)
              clear hK K
              refine wpAnyH_take (i := 9) (v := .int .u64 (zv : Int)) rfl (by kernel_rfl) (by kernel_rfl) (by kernel_rfl) (fun _ _ _ h => h) (Or.inl ⟨by kernel_rfl, fun w _ => by go_simp⟩) N5b ?_
              obtain ⟨w9, hst, L9, g9, _⟩ := seg_cells (P := Tryz.prog) L4 (hzl.trans hrl.symm) h1'
              have hpl9 := hrl
              refine wpAnyH_ready (rs := [10]) (by kernel_rfl) (by simp) (AllReadyH.cons rfl (fun K hK => ?_) AllReadyH.nil)
              go_simp
              have b9 : Below w3.drew.heap.size w3.drew w9 := b5.grown g9 b5.size (fun k e => by have := Option.some.inj e; omega)
              have N9 : PArr w9 gp pg := N5.after b9
              refine hK.out _ _ N9 (fun _ => ?_)
              clear hK K
              refine wpAnyH_take (i := 11) (v := .bool okb) rfl (by kernel_rfl) (by kernel_rfl) (by kernel_rfl) (fun _ _ _ h => h) (Or.inl ⟨by kernel_rfl, fun w _ => by go_simp⟩) N9 ?_
              refine wpAnyH_done (by kernel_rfl) ?_ _
              obtain ⟨gl, hg⟩ : ∃ gl, gl = w4.heap.size := ⟨_, rfl⟩
              rw [← hg] at L9
              simp only [← hg]
              clear hg hgl L4 b5 N5b b4 N4 N5 N3
              have F9 := Lib.hid (Blk.after (w := w3.drew) F5.out b9)
              have R9 := Lib.hid (Blk.after (w := w3.drew) R5.out b9)
              have B9 : Hid (Below w.heap.size w w9) := Lib.hid ((B5.out.drew).trans (b9.mono (show w.heap.size ≤ w3.drew.heap.size from B5.out.size)))
              clear b9 F5 R5 B5 D5 D5d kt kb g9 hst
              cases T with
              | none =>
                obtain rfl : okb = false := HOK.out
                have hl : lookTo S.bs (8 * j + (k + 1)) = f := HST.out
                have HL := Lib.hid hl
                clear hl
                go_wp2_with fail
                have hl := HL.out
                exact ⟨⟨k + 1, by omega, by go_num, by rw [hl], by rw [hl]; exact F9.out, R9.out, B9.out⟩, by simp [intOf]; omega⟩
              | some x =>
                obtain rfl : okb = true := HOK.out
                have hzx : zv = x.1 := HZV.out x rfl
                have HKR : Hid (rw' ++ (.int .u64 (zv : Int) :: .int .i64 (j : Int) :: bv pg) = (Kp.mk x.1 x.2 j pg).row) := Lib.hid (by rw [HRW.out, hzx]; rfl)
                have hnl : (rw' ++ (.int .u64 (zv : Int) :: .int .i64 (j : Int) :: bv pg)).length = 335 := by simp [hrl, bv_length, HPL.out]
                have hn1 : ∀ v ∈ rw' ++ (.int .u64 (zv : Int) :: .int .i64 (j : Int) :: bv pg), v.oneCell' = true := by rw [HKR.out]; exact Kp.one _
                have HZX := Lib.hid hzx
                clear hzx
                cases f with
                | none =>
                  have hl : lookTo S.bs (8 * j + (k + 1)) = some ⟨x.1, x.2, j, pg⟩ := HST.out
                  have hne : noneE none = 35 := rfl
                  have F9v := F9.out
                  have hk9 : (keptOf none).row.length = 335 := keptOf_length (f := none) HFK.out
                  have hsN := segSet_all (hk9.trans hnl.symm)
                  have HK9 := Lib.hid hk9
                  have HNL := Lib.hid hnl
                  have HSN := Lib.hid hsN
                  clear hk9 hnl hsN hl
                  go_wp2_with (first
                    | (with_reducible refine wpl_seg_load aggLay sizeLay (.tmp 11) rfl rfl L9 0 rw' (by rw [List.drop_zero, List.take_of_length_le (Nat.le_of_eq hrl)]) hrl rfl ?_)
                    | (with_reducible refine wpl_pload (.tmp 8) rfl rfl N9 rfl ?_)
                    | (refine wpl_built (v := .agg (rw' ++ (.int .u64 (zv : Int) :: .int .i64 (j : Int) :: bv pg)).toArray) [(0, .tmp 50), (1, .tmp 51), (2, .tmp 52), (3, .tmp 53)] [(0, .agg rw'.toArray), (1, .int .u64 (zv : Int)), (2, .int .i64 (j : Int)), (3, .agg (cl pg))] rfl rfl (by kernel_rfl) (buildKept hrl (zv : Int) (j : Int) HPL.out _) ?_)
                    | (with_reducible refine wpl_seg_store sizeKept (.tmp 4) (.tmp 54) rfl rfl F9v 0 (rw' ++ (.int .u64 (zv : Int) :: .int .i64 (j : Int) :: bv pg)) HNL.out (by rw [HK9.out]; exact Nat.le_refl _) hn1 rfl rfl _ HSN.out ?_; intro wA FA gA eA))
                  have RA := R9.out.grown gA (by simp)
                  have BA := B9.out.grown gA B9.out.size (fun k e => by have := Option.some.inj e; omega)
                  have hl : lookTo S.bs (8 * j + (k + 1)) = some ⟨x.1, x.2, j, pg⟩ := HST.out
                  exact ⟨⟨k + 1, by omega, by go_num, by rw [hl]; rfl, by rw [hl]; rw [HKR.out] at FA; exact FA, RA, BA⟩, by simp [intOf]; omega⟩
                | some q =>
                  have hne : noneE (some q) = 0 := rfl
                  have c75 : w9.cell? ⟨w.heap.size + 1, 75, none⟩ = some (.int .u64 (q.num : Int)) := by
                    rw [F9.out.cell]
                    show (q.lay.row ++ (.int .u64 (q.num : Int) :: .int .i64 (q.blk : Int) :: bv q.pg))[75]? = _
                    rw [List.getElem?_append_right (by rw [Lay.row_length (HFK.out q rfl).1]; exact Nat.le_refl _), Lay.row_length (HFK.out q rfl).1]
                    rfl
                  by_cases hlq : x.1 < q.num
                  · have dq : decide ((zv : Int) < (q.num : Int)) = true := by rw [HZX.out]; simpa using hlq
                    have dq2 : decide (zv < q.num) = true := by rw [HZX.out]; simpa using hlq
                    have dq3 : zv < q.num := by rw [HZX.out]; exact hlq
                    have HST2 : Hid (lookTo S.bs (8 * j + (k + 1)) = some ⟨x.1, x.2, j, pg⟩) := Lib.hid (HST.out.trans (if_pos hlq))
                    clear hlq
                    have F9v := F9.out
                    have hk9 : (keptOf (some q)).row.length = 335 := keptOf_length (f := (some q)) HFK.out
                    have hsN := segSet_all (hk9.trans hnl.symm)
                    have HK9 := Lib.hid hk9
                    have HNL := Lib.hid hnl
                    have HSN := Lib.hid hsN
                    clear hk9 hnl hsN
                    go_wp2_with (first
                      | (with_reducible refine wpl_seg_load aggLay sizeLay (.tmp 11) rfl rfl L9 0 rw' (by rw [List.drop_zero, List.take_of_length_le (Nat.le_of_eq hrl)]) hrl rfl ?_)
                      | (with_reducible refine wpl_pload (.tmp 8) rfl rfl N9 rfl ?_)
                      | (refine wpl_built (v := .agg (rw' ++ (.int .u64 (zv : Int) :: .int .i64 (j : Int) :: bv pg)).toArray) [(0, .tmp 50), (1, .tmp 51), (2, .tmp 52), (3, .tmp 53)] [(0, .agg rw'.toArray), (1, .int .u64 (zv : Int)), (2, .int .i64 (j : Int)), (3, .agg (cl pg))] rfl rfl (by kernel_rfl) (buildKept hrl (zv : Int) (j : Int) HPL.out _) ?_)
                      | (with_reducible refine wpl_seg_store sizeKept (.tmp 4) (.tmp 54) rfl rfl F9v 0 (rw' ++ (.int .u64 (zv : Int) :: .int .i64 (j : Int) :: bv pg)) HNL.out (by rw [HK9.out]; exact Nat.le_refl _) hn1 rfl rfl _ HSN.out ?_; intro wA FA gA eA))
                    have RA := R9.out.grown gA (by simp)
                    have BA := B9.out.grown gA B9.out.size (fun k e => by have := Option.some.inj e; omega)
                    have hl := HST2.out
                    exact ⟨⟨k + 1, by omega, by go_num, by rw [hl]; rfl, by rw [hl]; rw [HKR.out] at FA; exact FA, RA, BA⟩, by simp [intOf]; omega⟩
                  · have dq : decide ((zv : Int) < (q.num : Int)) = false := by rw [HZX.out]; simpa using hlq
                    have dq2 : decide (zv < q.num) = false := by rw [HZX.out]; simpa using hlq
                    have dq3 : ¬ zv < q.num := by rw [HZX.out]; exact hlq
                    have HST2 : Hid (lookTo S.bs (8 * j + (k + 1)) = some q) := Lib.hid (HST.out.trans (if_neg hlq))
                    clear hlq
                    go_wp2_with fail
                    have hl := HST2.out
                    exact ⟨⟨k + 1, by omega, by go_num, by rw [hl]; rfl, by rw [hl]; exact F9.out, R9.out, B9.out⟩, by simp [intOf]; omega⟩
            · go_simp
              have LA : Blk (w3.alloc (.cells (Lay.of 0).row.toArray 123)).drew w3.heap.size 123 (Lay.of 0).row := Blk.new w3 _ _
              have bA : Below w3.drew.heap.size w3.drew (w3.alloc (.cells (Lay.of 0).row.toArray 123)).drew := (Below.refl w3.drew.heap.size w3.drew).alloc (Nat.le_refl _) (.cells (Lay.of 0).row.toArray 123)
              have NA : PArr (w3.alloc (.cells (Lay.of 0).row.toArray 123)).drew gp pg := N5.after bA
              have DA : Dev (w3.alloc (.cells (Lay.of 0).row.toArray 123)).drew a S s := D5d.after bA
              refine hK.out _ _ NA (fun _ => ?_)
              clear hK K
              refine wpAnyH_ready (rs := [3]) (by kernel_rfl) (by simp) (AllReadyH.cons rfl (fun K hK => ?_) AllReadyH.nil)
              go_simp
              ((with_reducible refine (kt _ DA.tab).mono ?_); rintro e w4 ⟨zv, rfl, hzv, b4⟩)
              have HZV := Lib.hid hzv
              clear hzv
              have b5 : Below w3.drew.heap.size w3.drew w4 := bA.trans (b4.mono bA.size)
              have N4 := N5.after b5
              have L4 := LA.after b4
              have hgl : w3.drew.heap.size ≤ w3.heap.size := Nat.le_refl _
              refine hK.out _ _ N4 (fun _ => ?_)
              clear hK K
              refine wpAnyH_take (i := 4) (v := .tuple #[.int .u64 (zv : Int), .agg rw'.toArray, .bool okb]) rfl (by kernel_rfl) (by kernel_rfl) (by kernel_rfl) (fun _ _ _ h => h) (Or.inl ⟨by kernel_rfl, fun w _ => by go_simp⟩) N4 ?_
              refine wpAnyH_take (i := 5) (v := .int .u64 (zv : Int)) rfl (by kernel_rfl) (by kernel_rfl) (by kernel_rfl) (fun _ _ _ h => h) (Or.inl ⟨by kernel_rfl, fun w _ => by go_simp⟩) N4 ?_
              refine wpAnyH_take (i := 6) (v := .agg rw'.toArray) rfl (by kernel_rfl) (by kernel_rfl) (by kernel_rfl) (fun _ _ _ h => h) (Or.inl ⟨by kernel_rfl, fun w _ => by go_simp⟩) N4 ?_
              refine wpAnyH_take (i := 7) (v := .bool okb) rfl (by kernel_rfl) (by kernel_rfl) (by kernel_rfl) (fun _ _ _ h => h) (Or.inl ⟨by kernel_rfl, fun w _ => by go_simp⟩) N4 ?_
              refine wpAnyH_take (i := 9) (v := .int .u64 (zv : Int)) rfl (by kernel_rfl) (by kernel_rfl) (by kernel_rfl) (fun _ _ _ h => h) (Or.inl ⟨by kernel_rfl, fun w _ => by go_simp⟩) N4 ?_
              obtain ⟨w9, hst, L9, g9, _⟩ := seg_cells (P := Tryz.prog) L4 (hzl.trans hrl.symm) h1'
              have hpl9 := hrl
              refine wpAnyH_ready (rs := [10]) (by kernel_rfl) (by simp) (AllReadyH.cons rfl (fun K hK => ?_) AllReadyH.nil)
              go_simp
              have b9 : Below w3.drew.heap.size w3.drew w9 := b5.grown g9 b5.size (fun k e => by have := Option.some.inj e; omega)
              have N9 : PArr w9 gp pg := N5.after b9
              refine hK.out _ _ N9 (fun _ => ?_)
              clear hK K
              refine wpAnyH_take (i := 11) (v := .bool okb) rfl (by kernel_rfl) (by kernel_rfl) (by kernel_rfl) (fun _ _ _ h => h) (Or.inl ⟨by kernel_rfl, fun w _ => by go_simp⟩) N9 ?_
              refine wpAnyH_done (by kernel_rfl) ?_ _
              clear L4 b5 b4 N4 N5 N3 LA bA NA DA
              obtain ⟨gl, hg⟩ : ∃ gl, gl = w3.heap.size := ⟨_, rfl⟩
              rw [← hg] at L9
              have hg2 : w3.heap.size = gl := hg.symm
              simp only [hg2]
              clear hg hg2 hgl
              have F9 := Lib.hid (Blk.after (w := w3.drew) F5.out b9)
              have R9 := Lib.hid (Blk.after (w := w3.drew) R5.out b9)
              have B9 : Hid (Below w.heap.size w w9) := Lib.hid ((B5.out.drew).trans (b9.mono (show w.heap.size ≤ w3.drew.heap.size from B5.out.size)))
              clear b9 F5 R5 B5 D5 D5d kt kb g9 hst
              cases T with
              | none =>
                obtain rfl : okb = false := HOK.out
                have hl : lookTo S.bs (8 * j + (k + 1)) = f := HST.out
                have HL := Lib.hid hl
                clear hl
                go_wp2_with fail
                have hl := HL.out
                exact ⟨⟨k + 1, by omega, by go_num, by rw [hl], by rw [hl]; exact F9.out, R9.out, B9.out⟩, by simp [intOf]; omega⟩
              | some x =>
                obtain rfl : okb = true := HOK.out
                have hzx : zv = x.1 := HZV.out x rfl
                have HKR : Hid (rw' ++ (.int .u64 (zv : Int) :: .int .i64 (j : Int) :: bv pg) = (Kp.mk x.1 x.2 j pg).row) := Lib.hid (by rw [HRW.out, hzx]; rfl)
                have hnl : (rw' ++ (.int .u64 (zv : Int) :: .int .i64 (j : Int) :: bv pg)).length = 335 := by simp [hrl, bv_length, HPL.out]
                have hn1 : ∀ v ∈ rw' ++ (.int .u64 (zv : Int) :: .int .i64 (j : Int) :: bv pg), v.oneCell' = true := by rw [HKR.out]; exact Kp.one _
                have HZX := Lib.hid hzx
                clear hzx
                cases f with
                | none =>
                  have hl : lookTo S.bs (8 * j + (k + 1)) = some ⟨x.1, x.2, j, pg⟩ := HST.out
                  have hne : noneE none = 35 := rfl
                  have F9v := F9.out
                  have hk9 : (keptOf none).row.length = 335 := keptOf_length (f := none) HFK.out
                  have hsN := segSet_all (hk9.trans hnl.symm)
                  have HK9 := Lib.hid hk9
                  have HNL := Lib.hid hnl
                  have HSN := Lib.hid hsN
                  clear hk9 hnl hsN hl
                  go_wp2_with (first
                    | (with_reducible refine wpl_seg_load aggLay sizeLay (.tmp 11) rfl rfl L9 0 rw' (by rw [List.drop_zero, List.take_of_length_le (Nat.le_of_eq hrl)]) hrl rfl ?_)
                    | (with_reducible refine wpl_pload (.tmp 8) rfl rfl N9 rfl ?_)
                    | (refine wpl_built (v := .agg (rw' ++ (.int .u64 (zv : Int) :: .int .i64 (j : Int) :: bv pg)).toArray) [(0, .tmp 50), (1, .tmp 51), (2, .tmp 52), (3, .tmp 53)] [(0, .agg rw'.toArray), (1, .int .u64 (zv : Int)), (2, .int .i64 (j : Int)), (3, .agg (cl pg))] rfl rfl (by kernel_rfl) (buildKept hrl (zv : Int) (j : Int) HPL.out _) ?_)
                    | (with_reducible refine wpl_seg_store sizeKept (.tmp 4) (.tmp 54) rfl rfl F9v 0 (rw' ++ (.int .u64 (zv : Int) :: .int .i64 (j : Int) :: bv pg)) HNL.out (by rw [HK9.out]; exact Nat.le_refl _) hn1 rfl rfl _ HSN.out ?_; intro wA FA gA eA))
                  have RA := R9.out.grown gA (by simp)
                  have BA := B9.out.grown gA B9.out.size (fun k e => by have := Option.some.inj e; omega)
                  have hl : lookTo S.bs (8 * j + (k + 1)) = some ⟨x.1, x.2, j, pg⟩ := HST.out
                  exact ⟨⟨k + 1, by omega, by go_num, by rw [hl]; rfl, by rw [hl]; rw [HKR.out] at FA; exact FA, RA, BA⟩, by simp [intOf]; omega⟩
                | some q =>
                  have hne : noneE (some q) = 0 := rfl
                  have c75 : w9.cell? ⟨w.heap.size + 1, 75, none⟩ = some (.int .u64 (q.num : Int)) := by
                    rw [F9.out.cell]
                    show (q.lay.row ++ (.int .u64 (q.num : Int) :: .int .i64 (q.blk : Int) :: bv q.pg))[75]? = _
                    rw [List.getElem?_append_right (by rw [Lay.row_length (HFK.out q rfl).1]; exact Nat.le_refl _), Lay.row_length (HFK.out q rfl).1]
                    rfl
                  by_cases hlq : x.1 < q.num
                  · have dq : decide ((zv : Int) < (q.num : Int)) = true := by rw [HZX.out]; simpa using hlq
                    have dq2 : decide (zv < q.num) = true := by rw [HZX.out]; simpa using hlq
                    have dq3 : zv < q.num := by rw [HZX.out]; exact hlq
                    have HST2 : Hid (lookTo S.bs (8 * j + (k + 1)) = some ⟨x.1, x.2, j, pg⟩) := Lib.hid (HST.out.trans (if_pos hlq))
                    clear hlq
                    have F9v := F9.out
                    have hk9 : (keptOf (some q)).row.length = 335 := keptOf_length (f := (some q)) HFK.out
                    have hsN := segSet_all (hk9.trans hnl.symm)
                    have HK9 := Lib.hid hk9
                    have HNL := Lib.hid hnl
                    have HSN := Lib.hid hsN
                    clear hk9 hnl hsN
                    go_wp2_with (first
                      | (with_reducible refine wpl_seg_load aggLay sizeLay (.tmp 11) rfl rfl L9 0 rw' (by rw [List.drop_zero, List.take_of_length_le (Nat.le_of_eq hrl)]) hrl rfl ?_)
                      | (with_reducible refine wpl_pload (.tmp 8) rfl rfl N9 rfl ?_)
                      | (refine wpl_built (v := .agg (rw' ++ (.int .u64 (zv : Int) :: .int .i64 (j : Int) :: bv pg)).toArray) [(0, .tmp 50), (1, .tmp 51), (2, .tmp 52), (3, .tmp 53)] [(0, .agg rw'.toArray), (1, .int .u64 (zv : Int)), (2, .int .i64 (j : Int)), (3, .agg (cl pg))] rfl rfl (by kernel_rfl) (buildKept hrl (zv : Int) (j : Int) HPL.out _) ?_)
                      | (with_reducible refine wpl_seg_store sizeKept (.tmp 4) (.tmp 54) rfl rfl F9v 0 (rw' ++ (.int .u64 (zv : Int) :: .int .i64 (j : Int) :: bv pg)) HNL.out (by rw [HK9.out]; exact Nat.le_refl _) hn1 rfl rfl _ HSN.out ?_; intro wA FA gA eA))
                    have RA := R9.out.grown gA (by simp)
                    have BA := B9.out.grown gA B9.out.size (fun k e => by have := Option.some.inj e; omega)
                    have hl := HST2.out
                    exact ⟨⟨k + 1, by omega, by go_num, by rw [hl]; rfl, by rw [hl]; rw [HKR.out] at FA; exact FA, RA, BA⟩, by simp [intOf]; omega⟩
                  · have dq : decide ((zv : Int) < (q.num : Int)) = false := by rw [HZX.out]; simpa using hlq
                    have dq2 : decide (zv < q.num) = false := by rw [HZX.out]; simpa using hlq
                    have dq3 : ¬ zv < q.num := by rw [HZX.out]; exact hlq
                    have HST2 : Hid (lookTo S.bs (8 * j + (k + 1)) = some q) := Lib.hid (HST.out.trans (if_neg hlq))
                    clear hlq
                    go_wp2_with fail
                    have hl := HST2.out
                    exact ⟨⟨k + 1, by omega, by go_num, by rw [hl]; rfl, by rw [hl]; exact F9.out, R9.out, B9.out⟩, by simp [intOf]; omega⟩
          · go_simp
            have LA : Blk (w3.alloc (.cells (Lay.of 0).row.toArray 123)).drew w3.heap.size 123 (Lay.of 0).row := Blk.new w3 _ _
            have bA : Below w3.drew.heap.size w3.drew (w3.alloc (.cells (Lay.of 0).row.toArray 123)).drew := (Below.refl w3.drew.heap.size w3.drew).alloc (Nat.le_refl _) (.cells (Lay.of 0).row.toArray 123)
            have NA : PArr (w3.alloc (.cells (Lay.of 0).row.toArray 123)).drew gp pg := N5.after bA
            have DA : Dev (w3.alloc (.cells (Lay.of 0).row.toArray 123)).drew a S s := D5d.after bA
            refine hK.out _ _ NA (fun _ => ?_)
            clear hK K
            refine wpAnyH_ready (rs := [1]) (by kernel_rfl) (by simp) (AllReadyH.cons rfl (fun K hK => ?_) AllReadyH.nil)
            go_simp
            ((with_reducible refine (kb _ DA.pc).mono ?_); rintro e w' ⟨rfl, rfl⟩)
            refine hK.out _ _ NA (fun _ => ?_)
            clear hK K
            refine wpAnyH_ready (rs := [3]) (by kernel_rfl) (by simp) (AllReadyH.cons rfl (fun K hK => ?_) AllReadyH.nil)
            go_simp
            ((with_reducible refine (kt _ DA.tab).mono ?_); rintro e w4 ⟨zv, rfl, hzv, b4⟩)
            have HZV := Lib.hid hzv
            clear hzv
            have b5 : Below w3.drew.heap.size w3.drew w4 := bA.trans (b4.mono bA.size)
            have N4 := N5.after b5
            have L4 := LA.after b4
            have hgl : w3.drew.heap.size ≤ w3.heap.size := Nat.le_refl _
            refine hK.out _ _ N4 (fun _ => ?_)
            clear hK K
            refine wpAnyH_take (i := 4) (v := .tuple #[.int .u64 (zv : Int), .agg rw'.toArray, .bool okb]) rfl (by kernel_rfl) (by kernel_rfl) (by kernel_rfl) (fun _ _ _ h => h) (Or.inl ⟨by kernel_rfl, fun w _ => by go_simp⟩) N4 ?_
            refine wpAnyH_take (i := 5) (v := .int .u64 (zv : Int)) rfl (by kernel_rfl) (by kernel_rfl) (by kernel_rfl) (fun _ _ _ h => h) (Or.inl ⟨by kernel_rfl, fun w _ => by go_simp⟩) N4 ?_
            refine wpAnyH_take (i := 6) (v := .agg rw'.toArray) rfl (by kernel_rfl) (by kernel_rfl) (by kernel_rfl) (fun _ _ _ h => h) (Or.inl ⟨by kernel_rfl, fun w _ => by go_simp⟩) N4 ?_
            refine wpAnyH_take (i := 7) (v := .bool okb) rfl (by kernel_rfl) (by kernel_rfl) (by kernel_rfl) (fun _ _ _ h => h) (Or.inl ⟨by kernel_rfl, fun w _ => by go_simp⟩) N4 ?_
            refine wpAnyH_take (i := 9) (v := .int .u64 (zv : Int)) rfl (by kernel_rfl) (by kernel_rfl) (by kernel_rfl) (fun _ _ _ h => h) (Or.inl ⟨by kernel_rfl, fun w _ => by go_simp⟩) N4 ?_
            obtain ⟨w9, hst, L9, g9, _⟩ := seg_cells (P := Tryz.prog) L4 (hzl.trans hrl.symm) h1'
            have hpl9 := hrl
            refine wpAnyH_ready (rs := [10]) (by kernel_rfl) (by simp) (AllReadyH.cons rfl (fun K hK => ?_) AllReadyH.nil)
            go_simp
            have b9 : Below w3.drew.heap.size w3.drew w9 := b5.grown g9 b5.size (fun k e => by have := Option.some.inj e; omega)
            have N9 : PArr w9 gp pg := N5.after b9
            refine hK.out _ _ N9 (fun _ => ?_)
            clear hK K
            refine wpAnyH_take (i := 11) (v := .bool okb) rfl (by kernel_rfl) (by kernel_rfl) (by kernel_rfl) (fun _ _ _ h => h) (Or.inl ⟨by kernel_rfl, fun w _ => by go_simp⟩) N9 ?_
            refine wpAnyH_done (by kernel_rfl) ?_ _
            clear L4 b5 b4 N4 N5 N3 LA bA NA DA
            obtain ⟨gl, hg⟩ : ∃ gl, gl = w3.heap.size := ⟨_, rfl⟩
            rw [← hg] at L9
            have hg2 : w3.heap.size = gl := hg.symm
            simp only [hg2]
            clear hg hg2 hgl
            have F9 := Lib.hid (Blk.after (w := w3.drew) F5.out b9)
            have R9 := Lib.hid (Blk.after (w := w3.drew) R5.out b9)
            have B9 : Hid (Below w.heap.size w w9) := Lib.hid ((B5.out.drew).trans (b9.mono (show w.heap.size ≤ w3.drew.heap.size from B5.out.size)))
            clear b9 F5 R5 B5 D5 D5d kt kb g9 hst
            cases T with
            | none =>
              obtain rfl : okb = false := HOK.out
              have hl : lookTo S.bs (8 * j + (k + 1)) = f := HST.out
              have HL := Lib.hid hl
              clear hl
              go_wp2_with fail
              have hl := HL.out
              exact ⟨⟨k + 1, by omega, by go_num, by rw [hl], by rw [hl]; exact F9.out, R9.out, B9.out⟩, by simp [intOf]; omega⟩
            | some x =>
              obtain rfl : okb = true := HOK.out
              have hzx : zv = x.1 := HZV.out x rfl
              have HKR : Hid (rw' ++ (.int .u64 (zv : Int) :: .int .i64 (j : Int) :: bv pg) = (Kp.mk x.1 x.2 j pg).row) := Lib.hid (by rw [HRW.out, hzx]; rfl)
              have hnl : (rw' ++ (.int .u64 (zv : Int) :: .int .i64 (j : Int) :: bv pg)).length = 335 := by simp [hrl, bv_length, HPL.out]
              have hn1 : ∀ v ∈ rw' ++ (.int .u64 (zv : Int) :: .int .i64 (j : Int) :: bv pg), v.oneCell' = true := by rw [HKR.out]; exact Kp.one _
              have HZX := Lib.hid hzx
              clear hzx
              cases f with
              | none =>
                have hl : lookTo S.bs (8 * j + (k + 1)) = some ⟨x.1, x.2, j, pg⟩ := HST.out
                have hne : noneE none = 35 := rfl
                have F9v := F9.out
                have hk9 : (keptOf none).row.length = 335 := keptOf_length (f := none) HFK.out
                have hsN := segSet_all (hk9.trans hnl.symm)
                have HK9 := Lib.hid hk9
                have HNL := Lib.hid hnl
                have HSN := Lib.hid hsN
                clear hk9 hnl hsN hl
                go_wp2_with (first
                  | (with_reducible refine wpl_seg_load aggLay sizeLay (.tmp 11) rfl rfl L9 0 rw' (by rw [List.drop_zero, List.take_of_length_le (Nat.le_of_eq hrl)]) hrl rfl ?_)
                  | (with_reducible refine wpl_pload (.tmp 8) rfl rfl N9 rfl ?_)
                  | (refine wpl_built (v := .agg (rw' ++ (.int .u64 (zv : Int) :: .int .i64 (j : Int) :: bv pg)).toArray) [(0, .tmp 50), (1, .tmp 51), (2, .tmp 52), (3, .tmp 53)] [(0, .agg rw'.toArray), (1, .int .u64 (zv : Int)), (2, .int .i64 (j : Int)), (3, .agg (cl pg))] rfl rfl (by kernel_rfl) (buildKept hrl (zv : Int) (j : Int) HPL.out _) ?_)
                  | (with_reducible refine wpl_seg_store sizeKept (.tmp 4) (.tmp 54) rfl rfl F9v 0 (rw' ++ (.int .u64 (zv : Int) :: .int .i64 (j : Int) :: bv pg)) HNL.out (by rw [HK9.out]; exact Nat.le_refl _) hn1 rfl rfl _ HSN.out ?_; intro wA FA gA eA))
                have RA := R9.out.grown gA (by simp)
                have BA := B9.out.grown gA B9.out.size (fun k e => by have := Option.some.inj e; omega)
                have hl : lookTo S.bs (8 * j + (k + 1)) = some ⟨x.1, x.2, j, pg⟩ := HST.out
                exact ⟨⟨k + 1, by omega, by go_num, by rw [hl]; rfl, by rw [hl]; rw [HKR.out] at FA; exact FA, RA, BA⟩, by simp [intOf]; omega⟩
              | some q =>
                have hne : noneE (some q) = 0 := rfl
                have c75 : w9.cell? ⟨w.heap.size + 1, 75, none⟩ = some (.int .u64 (q.num : Int)) := by
                  rw [F9.out.cell]
                  show (q.lay.row ++ (.int .u64 (q.num : Int) :: .int .i64 (q.blk : Int) :: bv q.pg))[75]? = _
                  rw [List.getElem?_append_right (by rw [Lay.row_length (HFK.out q rfl).1]; exact Nat.le_refl _), Lay.row_length (HFK.out q rfl).1]
                  rfl
                by_cases hlq : x.1 < q.num
                · have dq : decide ((zv : Int) < (q.num : Int)) = true := by rw [HZX.out]; simpa using hlq
                  have dq2 : decide (zv < q.num) = true := by rw [HZX.out]; simpa using hlq
                  have dq3 : zv < q.num := by rw [HZX.out]; exact hlq
                  have HST2 : Hid (lookTo S.bs (8 * j + (k + 1)) = some ⟨x.1, x.2, j, pg⟩) := Lib.hid (HST.out.trans (if_pos hlq))
                  clear hlq
                  have F9v := F9.out
                  have hk9 : (keptOf (some q)).row.length = 335 := keptOf_length (f := (some q)) HFK.out
                  have hsN := segSet_all (hk9.trans hnl.symm)
                  have HK9 := Lib.hid hk9
                  have HNL := Lib.hid hnl
                  have HSN := Lib.hid hsN
                  clear hk9 hnl hsN
                  go_wp2_with (first
                    | (with_reducible refine wpl_seg_load aggLay sizeLay (.tmp 11) rfl rfl L9 0 rw' (by rw [List.drop_zero, List.take_of_length_le (Nat.le_of_eq hrl)]) hrl rfl ?_)
                    | (with_reducible refine wpl_pload (.tmp 8) rfl rfl N9 rfl ?_)
                    | (refine wpl_built (v := .agg (rw' ++ (.int .u64 (zv : Int) :: .int .i64 (j : Int) :: bv pg)).toArray) [(0, .tmp 50), (1, .tmp 51), (2, .tmp 52), (3, .tmp 53)] [(0, .agg rw'.toArray), (1, .int .u64 (zv : Int)), (2, .int .i64 (j : Int)), (3, .agg (cl pg))] rfl rfl (by kernel_rfl) (buildKept hrl (zv : Int) (j : Int) HPL.out _) ?_)
                    | (with_reducible refine wpl_seg_store sizeKept (.tmp 4) (.tmp 54) rfl rfl F9v 0 (rw' ++ (.int .u64 (zv : Int) :: .int .i64 (j : Int) :: bv pg)) HNL.out (by rw [HK9.out]; exact Nat.le_refl _) hn1 rfl rfl _ HSN.out ?_; intro wA FA gA eA))
                  have RA := R9.out.grown gA (by simp)
                  have BA := B9.out.grown gA B9.out.size (fun k e => by have := Option.some.inj e; omega)
                  have hl := HST2.out
                  exact ⟨⟨k + 1, by omega, by go_num, by rw [hl]; rfl, by rw [hl]; rw [HKR.out] at FA; exact FA, RA, BA⟩, by simp [intOf]; omega⟩
                · have dq : decide ((zv : Int) < (q.num : Int)) = false := by rw [HZX.out]; simpa using hlq
                  have dq2 : decide (zv < q.num) = false := by rw [HZX.out]; simpa using hlq
                  have dq3 : ¬ zv < q.num := by rw [HZX.out]; exact hlq
                  have HST2 : Hid (lookTo S.bs (8 * j + (k + 1)) = some q) := Lib.hid (HST.out.trans (if_neg hlq))
                  clear hlq
                  go_wp2_with fail
                  have hl := HST2.out
                  exact ⟨⟨k + 1, by omega, by go_num, by rw [hl]; rfl, by rw [hl]; exact F9.out, R9.out, B9.out⟩, by simp [intOf]; omega⟩
        · obtain rfl : k = 8 := by omega
          have F9 := Lib.hid hF
          have R9 := Lib.hid hR
          have B9 := Lib.hid hb
          clear hF hR hb
          go_wp2_with fail
          exact ⟨⟨j + 1, by omega, by go_num, rfl, F9.out, R9.out, B9.out⟩, by simp [intOf]; omega⟩
    · obtain rfl : j = 2 := by omega
      have hkl := keptOf_length (HLK.out 16 (by omega))
      have F9 := F2.out
      have R9 := R2.out
      rw [show 8 * 2 = 16 from rfl] at F9
      have hsA := segSet_all (HZ.out.trans hkl.symm)
      have HKL := Lib.hid hkl
      obtain ⟨f, hf⟩ : ∃ f, f = lookTo S.bs 16 := ⟨_, rfl⟩
      have HF := Lib.hid hf
      have hf8 : lookTo S.bs (8 * 2) = f := hf.symm
      rw [← hf] at F9 hsA HKL
      simp only [hf8]
      clear hf hf8 hkl
      go_wp2_with (first
        | (with_reducible refine wpl_seg_load aggKept sizeKept (.tmp 4) rfl rfl F9 0 (keptOf f).row (by rw [List.drop_zero, List.take_of_length_le (Nat.le_of_eq HKL.out)]) HKL.out rfl ?_)
        | (with_reducible refine wpl_seg_store sizeKept (.tmp 2) (.tmp 57) rfl rfl R9 0 (keptOf f).row HKL.out (by rw [HZ.out]; exact Nat.le_refl _) (Kp.one _) rfl rfl _ hsA ?_; intro wA RA gA eA))
      refine bodyPost_ret (kept_ret2 rfl _ RA HKL.out rfl) rfl ?_
      rw [← HF.out]
      exact ⟨rfl, B2.out.grown gA B2.out.size (fun k e => by have := Option.some.inj e; omega)⟩
end Go.Proofs.YtdiocjneakfdgaaGreatDoor

