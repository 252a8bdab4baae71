/- The contract of frame's Read: the record of the page. Condition: the table holds its sixteen numbers; the array's length. -/
import Derived.Test.YtnclefdlmbkjmaaDoorFrameWriteP
import Derived.Test.YtnclefdlmbkjmaaDoorFrameDat
import Derived.Test.YtnclefdlmbkjmaaDoorPackRd
import Derived.Test.YtnclefdlmbkjmaaDoorHamFix
import Derived.Test.YtnclefdlmbkjmaaDoorFrameRead
namespace Go.Proofs.YtnclefdlmbkjmaaDoor
open Go.RowKit
theorem bytes_nil (w : World) (B : Nat) : Bytes w B (.slice none 0 0) [] := ⟨none, 0, rfl, Nat.le_refl _, by simp [maxLen], Row.nil⟩
theorem parr_mid {w : World} {g o n c : Nat} {L X : List UInt8} (hA : PArr w g L) (hX : (L.drop o).take n = X) (hn : X.length = n) (hc : n ≤ c) (h : c ≤ 258) : Bytes w w.heap.size (.slice (some ⟨g, o, none⟩) n c) X :=
  ⟨some ⟨g, o, none⟩, c, by rw [hn], by omega, by simp only [maxLen]; omega, fun j u hu => by
    refine ⟨_, rfl, hA.lt, ?_⟩
    have hadd : (⟨g, o, none⟩ : Addr).add j = ⟨g, o + j, none⟩ := by unfold Addr.add; split <;> simp_all
    rw [hadd, hA.cell, ← Array.getElem?_toList, cl_list]
    have hj : j < n := by have := get_lt hu; rw [bv_length, hn] at this; exact this
    have e : bv X = ((bv L).drop o).take n := by rw [← hX]; simp [bv]
    rw [e, List.getElem?_take, if_pos hj, List.getElem?_drop] at hu
    exact hu⟩
theorem pop_top (b : Nat) (hb : b < 256) : HM.popT (b / 32) 8 = HM.popT (b / 32) 3 := HM.popT_big (b / 32) 3 (by omega) 5
theorem lay_all {L m : List UInt8} (h : m.length = L.length) : lay L 0 m = m := by
  unfold lay
  rw [List.take_zero, List.nil_append, List.drop_of_length_le (by omega), List.append_nil]
theorem size_drew' (w : World) : w.drew.heap.size = w.heap.size := rfl
set_option maxRecDepth 100000 in
set_option maxHeartbeats 8000000 in
theorem read_any (L : List UInt8) (hL : L.length = 258) (w : World) (ht : Tab w) :
    Calls Tryd.prog 11 #[.agg (cl L)] w fun e w' => ∃ v, e = .returned (.tuple #[.int .u8 (((FM.readM L).1.toNat : Nat) : Int), v, .int .i64 (((FM.readM L).2.2.1 : Nat) : Int), .int .i64 (((FM.readM L).2.2.2 : Nat) : Int)]) ∧ Bytes w' w'.heap.size v (FM.readM L).2.1 ∧ Below w.heap.size w w' := by
  have z2 := zeroData
  have A0 := Lib.hid (PArr.new w hL)
  have B0 : Hid (Below w.heap.size w (w.alloc (.cells (cl L) 26))) := Lib.hid ((Below.refl _ _).alloc (Nat.le_refl _) _)
  have k1 := blank_any L hL
  obtain ⟨bk, hbk⟩ : ∃ bk, bk = FM.blank L := ⟨_, rfl⟩
  rw [← hbk] at k1
  have HBK := Lib.hid hbk
  have HT := Lib.hid ht
  clear hbk ht
  go_enter Tryd.func11, Tryd.ntmps11
  go_wp2_with (with_reducible refine wpl_pload (.tmp 1) rfl rfl A0.out rfl ?_)
  ((with_reducible refine (k1 _).mono ?_); rintro e w2 ⟨rfl, hb2⟩)
  have A2 := Lib.hid (A0.out.after hb2)
  have B2 := Lib.hid (B0.out.trans (hb2.mono B0.out.size))
  clear A0 B0 hb2 k1
  cases bk with
  | true =>
    have HR : Hid (FM.readM L = (0, [], 0, 20)) := Lib.hid (by unfold FM.readM; rw [if_pos HBK.out.symm])
    go_wp2_with fail
    (try simp only [Exit.inBlock, Exit.then])
    refine bodyPost_ret (results_tmp4 rfl _ _ _) rfl ?_
    rw [HR.out]
    exact ⟨_, rfl, bytes_nil _ _, B2.out⟩
  | false =>
    obtain ⟨b, hb, hc, HB⟩ := pbyte_at L hL (k := 257) (by omega)
    have hcell := (A2.out.cell 257).trans hc
    have k2 := ones8 (b / 32) (by omega)
    rw [pop_top b hb] at k2
    obtain ⟨a, ha⟩ : ∃ a, a = HM.popT (b / 32) 3 := ⟨_, rfl⟩
    have ha3 : a ≤ 3 := ha ▸ HM.popT_le _ _
    rw [← ha] at k2
    have HA3 : Hid (a = FM.above L) := Lib.hid (by rw [ha, HB.out]; rfl)
    have q32 : ((b / 32 : Nat) : Int) = (b : Int) / 32 := by omega
    rw [q32] at k2
    clear ha hc q32
    go_wp2_with fail
    ((with_reducible refine (k2 _).mono ?_); rintro e w' ⟨rfl, rfl⟩)
    clear k2
    by_cases h1 : 1 < a
    · have HR : Hid (FM.readM L = (0, [], 0, 21)) := Lib.hid (by
        unfold FM.readM
        rw [← HBK.out, ← HA3.out, if_pos h1]
        rfl)
      have d1 : decide ((1 : Int) < (a : Int)) = true := by simp; omega
      go_wp2_with fail
      (try simp only [Exit.inBlock, Exit.then])
      refine bodyPost_ret (results_tmp4 rfl _ _ _) rfl ?_
      rw [HR.out]
      exact ⟨_, rfl, bytes_nil _ _, B2.out⟩
    · have d1 : decide ((1 : Int) < (a : Int)) = false := by simp; omega
      go_wp2_with fail
      obtain ⟨D, hD⟩ : ∃ D, D = L.take 256 := ⟨_, rfl⟩
      have hDL : D.length = 256 := by rw [hD, List.length_take, hL]; rfl
      have HDD := Lib.hid hD
      have hlt2 : w.heap.size < w2.heap.size := A2.out.lt
      have D4 : Hid (Arr (w2.alloc (.cells (cl HM.zeros) 45)).drew w2.heap.size HM.zeros) := Lib.hid (Arr.new w2 HM.zeros_length).drew
      have P4 : Hid (PArr (w2.alloc (.cells (cl HM.zeros) 45)).drew w.heap.size L) := Lib.hid (A2.out.alloc _).drew
      have B4 : Hid (Below w.heap.size w (w2.alloc (.cells (cl HM.zeros) 45)).drew) := Lib.hid (B2.out.alloc B2.out.size _).drew
      have Y4 := Lib.hid (parr_mid P4.out (o := 0) (n := 258) (c := 258) (X := L) (by rw [List.drop_zero, List.take_of_length_le (by omega)]) hL (by omega) (by omega))
      obtain ⟨gd, hgd⟩ : ∃ gd, gd = w2.heap.size := ⟨_, rfl⟩
      rw [← hgd] at D4 hlt2 ⊢
      obtain ⟨ch, hch⟩ : ∃ ch, ch = FM.chk L := ⟨_, rfl⟩
      have hc6 := (L.getD 256 0).toNat_lt
      have hc7 := (L.getD 257 0).toNat_lt
      have hch2 : ch < 65536 := by rw [hch]; unfold FM.chk; omega
      have hle : le ((L.drop 256).take 2) = ch := by
        have hx : L.drop 256 = [L.getD 256 0, L.getD 257 0] := by
          apply List.ext_getElem?
          intro i
          rw [List.getElem?_drop]
          match i with
          | 0 => exact FM.getD_get (by omega)
          | 1 => exact FM.getD_get (by omega)
          | i + 2 => rw [List.getElem?_eq_none (by omega)]; rfl
        rw [hx, hch]
        show (L.getD 256 0).toNat + 256 * ((L.getD 257 0).toNat + 256 * 0) = _
        unfold FM.chk
        omega
      have hdl : (L.drop 256).length = 2 := by rw [List.length_drop, hL]
      obtain ⟨T, hT⟩ : ∃ T, T = L.drop 256 := ⟨_, rfl⟩
      rw [← hT] at hle hdl
      have HLE := Lib.hid hle
      have HTT := Lib.hid hT
      have HCH := Lib.hid hch
      clear hD A2 B2 hgd hch hc6 hc7 hle hT hcell
      go_region_held3 (fun _ => True) (trivial) ((refine step_copy byteTys (by rfl) (.tmp 22) (.tmp 23) (by rfl) D4.out.1 0 256 _ (by rfl) _ (by rfl) _ Y4.out HDD.out.symm (by rw [HM.zeros_length]; omega) 256 hDL ?_; intro w5 h5 g5 e5))
      have D5 : Hid (Arr w5 gd D) := Lib.hid ⟨by rw [← lay_all (L := HM.zeros) (m := D) (by rw [hDL, HM.zeros_length])]; exact h5.out, hDL⟩
      have P5 := Lib.hid (P4.out.grown g5 (by omega))
      have B5 := Lib.hid (B4.out.grown g5 B4.out.size (fun k e => by cases e; omega))
      clear h5 g5 e5 D4 P4 B4 Y4
      have Y5 := parr_mid P5.out (o := 256) (n := 2) (c := 2) (X := T) (by rw [← HTT.out, List.take_of_length_le (by omega)]) hdl (by omega) (by omega)
      have k3 := newreader_any _ T w5 Y5 (by omega)
      clear Y5
      go_wp2_with fail
      ((with_reducible refine k3.mono ?_); rintro e w6 ⟨gr, hrr, rfl, R6, hg1, hg2, hlt, hb6⟩)
      have D6 := Lib.hid (D5.out.after hb6)
      have P6 := Lib.hid (P5.out.after hb6)
      have B6 := Lib.hid (B5.out.trans (hb6.mono B5.out.size))
      have hlt6 : gd < w5.heap.size := D5.out.lt
      have k4 := rnum_yes gr hrr T false 2 w6 R6 (by rw [show wid 2 = 2 by decide]; omega)
      rw [show wid 2 = 2 by decide, HLE.out] at k4
      clear D5 P5 B5 hb6 k3 R6
      go_wp2_with fail
      ((with_reducible refine k4.mono ?_); rintro e w7 ⟨rfl, _, hg7⟩)
      have D7 := Lib.hid (D6.out.grown hg7 (by omega))
      have P7 := Lib.hid (P6.out.grown hg7 (by omega))
      have B7 := Lib.hid (B6.out.grown hg7 B6.out.size (fun k e => by cases e; omega))
      clear D6 P6 B6 hg7 k4 hg1 hg2 hlt
      have k5 := fix_any D hDL ch hch2
      obtain ⟨x, hx⟩ : ∃ x, x = (HM.fixM D ch).1 := ⟨_, rfl⟩
      obtain ⟨n, hn⟩ : ∃ n, n = (HM.fixM D ch).2.1 := ⟨_, rfl⟩
      obtain ⟨e, he⟩ : ∃ e, e = (HM.fixM D ch).2.2 := ⟨_, rfl⟩
      have hxL : x.length = 256 := hx ▸ HM.fixM_length D ch hDL
      have sm := HM.fixM_small D ch
      have hee := FM.fix_err D ch
      rw [← hx, ← hn, ← he] at k5
      rw [← hn, ← he] at sm
      rw [← he] at hee
      have HRD : Hid (FM.readM L = if e ≠ 0 then (0, [], 0, 21) else FM.openM x (n + a)) := Lib.hid (by
        unfold FM.readM
        rw [← HBK.out, ← HA3.out, if_neg h1, ← HDD.out, ← HCH.out, ← hx, ← hn, ← he]
        rfl)
      have w16 : IntKind.u16.wrap (ch : Int) = (ch : Int) := by rw [IntKind.wrap_u16]; omega
      clear hx hn he
      go_wp2_with (with_reducible refine wpl_load (.tmp 7) rfl rfl D7.out rfl ?_)
      ((with_reducible refine (k5 _).mono ?_); rintro e' w8 ⟨rfl, hb8⟩)
      have D8 := Lib.hid (D7.out.after hb8)
      have B8 := Lib.hid (B7.out.trans (hb8.mono B7.out.size))
      clear D7 P7 B7 hb8 k5 w16
      by_cases he0 : e = 0
      · subst he0
        rw [if_neg (fun h => h rfl)] at HRD
        obtain ⟨s1, hs1, hc1, HS1⟩ := byte_at x hxL (k := 1) (by omega)
        obtain ⟨x0, hx0, hc0, HX0⟩ := byte_at x hxL (k := 0) (by omega)
        go_wp2_with (with_reducible refine wpl_store (.tmp 7) (.tmp 33) rfl rfl D8.out rfl hxL rfl ?_; intro w9 X9 g9 e9; have q1 := (X9.cell 1).trans hc1; have q0 := (X9.cell 0).trans hc0)
        have X9' := Lib.hid X9
        have B9 := Lib.hid (B8.out.grown g9 B8.out.size (fun k e => by cases e; omega))
        clear X9 g9 e9 D8 B8
        go_quiet (fail)
        clear q0 q1 hc0 hc1
        have X10 : Hid (Arr (w9.drewN nq) gd x) := X9'
        have B10 : Hid (Below w.heap.size w (w9.drewN nq)) := Lib.hid ⟨B9.out.os, B9.out.tape, B9.out.output, B9.out.size, B9.out.block⟩
        obtain ⟨W, hW⟩ : ∃ W, W = w9.drewN nq := ⟨_, rfl⟩
        rw [← hW] at X10 B10 ⊢
        clear hW X9' B9
        have k6 := fits_any x0 (s1 : Int)
        by_cases hf : 1 ≤ x0 ∧ x0 ≤ 254 ∧ (s1 : Int) ≤ 240
        · rw [decide_eq_true hf] at k6
          have hs240 : s1 ≤ 240 := by omega
          have n0 : x.getD 0 0 ≠ 0 := fun e => by rw [e] at HX0; have := HX0.out; have h2 : (0 : UInt8).toNat = 0 := rfl; omega
          have n1 : x.getD 0 0 ≠ 255 := fun e => by rw [e] at HX0; have := HX0.out; have h2 : (255 : UInt8).toNat = 255 := rfl; omega
          rw [FM.openM_dat x hxL (n + a) s1 HS1.out hs240 n0 n1] at HRD
          obtain ⟨Bd, hBd⟩ : ∃ Bd, Bd = (x.drop 2).take s1 := ⟨_, rfl⟩
          have hBl : Bd.length = s1 := by rw [hBd, List.length_take, List.length_drop, hxL]; omega
          rw [← hBd] at HRD
          have Y10 := arr_mid X10.out (o := 2) (n := s1) (c := 254) (X := Bd) hBd.symm hBl (by omega) (by omega)
          obtain ⟨LL, hPL, hLL⟩ := Joined.one Y10 (Nat.le_refl _) W.heap.size rfl (W.heap.size + 1) (by omega) 24
          have k7 := join_any _ LL _ _ (by rw [World.size_alloc]; exact Nat.le_refl _) hPL (by rw [hLL]; omega)
          rw [hLL, hBl] at k7
          have X11 := Lib.hid (X10.out.alloc (.cells #[.slice (some ⟨gd, 2, none⟩) s1 254] 24))
          have B11 := Lib.hid (B10.out.alloc B10.out.size (.cells #[.slice (some ⟨gd, 2, none⟩) s1 254] 24))
          have ww1 : IntKind.i64.wrap (2 + (s1 : Int)) = 2 + (s1 : Int) := by rw [IntKind.wrap_i64]; omega
          have ww2 : (0 : Int) ≤ 2 + (s1 : Int) := by omega
          have ww3 : (2 + (s1 : Int)).toNat = 2 + s1 := by omega
          have ww5 : 2 + (s1 : Int) ≤ 256 := by omega
          have ww6 : (2 : Int) ≤ 2 + (s1 : Int) := by omega
          clear hf hBd Y10 hPL hLL X10 B10 n0 n1
          go_wp2_with fail
          ((with_reducible refine (k6 _).mono ?_); rintro e w' ⟨rfl, rfl⟩)
          go_wp2_with fail
          ((with_reducible refine k7.mono ?_); rintro e w12 ⟨g3, c3, rfl, hg3, O12, hb12⟩)
          have X12 := Lib.hid (X11.out.after hb12)
          have B12 := Lib.hid (B11.out.trans (hb12.mono B11.out.size))
          have Y12 := O12.bytes (by rw [hBl]; simp [maxLen]; omega)
          clear ww1 ww2 ww3 ww5 ww6 hg3 hb12 X11 B11 k6 k7
          go_wp2_with fail
          have X13 : Arr w12.drew gd x := X12.out.drew
          obtain ⟨LL, hPL, hLL⟩ : Joined (w12.alloc (.cells #[.slice (some ⟨g3, 0, none⟩) s1 c3] 24)).drew (w12.heap.size + 1) (.slice (some ⟨w12.heap.size, 0, none⟩) 1 1) Bd := (Joined.one Y12 (Nat.le_refl _) w12.heap.size rfl (w12.heap.size + 1) (by omega) 24).keep fun p hp => rfl
          have B13 : Below w.heap.size w (w12.alloc (.cells #[.slice (some ⟨g3, 0, none⟩) s1 c3] 24)).drew := (B12.out.alloc B12.out.size _).drew
          have X14 : Arr (w12.alloc (.cells #[.slice (some ⟨g3, 0, none⟩) s1 c3] 24)).drew gd x := (X12.out.alloc _).drew
          have k8 := record_any (x.getD 0 0) Bd _ LL hLL (by omega) (w12.alloc (.cells #[.slice (some ⟨g3, 0, none⟩) s1 c3] 24)).drew _ (by rw [size_drew', World.size_alloc]; exact Nat.le_refl _) hPL (HT.out.below B13 HT.out.lt)
          rw [hBl, ← HX0.out] at k8
          obtain ⟨Z, hZ⟩ : ∃ Z, Z = FM.dat (x.getD 0 0) Bd := ⟨_, rfl⟩
          have hZL : Z.length = 256 := hZ ▸ FM.dat_length _ _ (by omega)
          rw [← hZ] at k8 HRD
          have hEq := fun w => equalIn_cl hxL hZL w
          refine wp_region_held_drew (S := fun w' => Arr w' gd x) (by kernel_rfl) X13 (fun _ => ?_)
          refine wpAnyH_take (i := 0) (v := .agg (cl x)) rfl (by kernel_rfl) (by kernel_rfl) (by kernel_rfl) (fun _ _ _ h => h) (yields_load (.tmp 7) rfl rfl rfl (fun _ h => h)) X13 ?_
          refine wpAnyH_take (i := 1) (v := .int .u8 (x0 : Int)) rfl (by kernel_rfl) (by kernel_rfl) (by kernel_rfl) (fun _ _ _ h => h) (Or.inl ⟨by rfl, fun w _ => by go_simp⟩) X13 ?_
          refine wpAnyH_take (i := 2) (v := .int .i64 (s1 : Int)) rfl (by kernel_rfl) (by kernel_rfl) (by kernel_rfl) (fun _ _ _ h => h) (Or.inl ⟨by rfl, fun w _ => by go_simp⟩) X13 ?_
          refine wpAnyH_take (i := 3) (v := .slice (some ⟨g3, 0, none⟩) s1 c3) rfl (by kernel_rfl) (by kernel_rfl) (by kernel_rfl) (fun _ _ _ h => h) (Or.inl ⟨by rfl, fun w _ => by go_simp⟩) X13 ?_
          refine wpAnyH_ready (rs := [4]) (by kernel_rfl) (by simp) (AllReadyH.cons rfl (fun K hK => ?_) AllReadyH.nil)
          go_simp
          refine hK.out _ _ X14 (fun _ => ?_)
          clear hK K X13
          refine wpAnyH_ready (rs := [5]) (by kernel_rfl) (by simp) (AllReadyH.cons rfl (fun K hK => ?_) AllReadyH.nil)
          go_simp
          ((with_reducible refine k8.mono ?_); rintro e w15 ⟨rfl, hb15⟩)
          have X15 := X14.after hb15
          have B15 := B13.trans (hb15.mono B13.size)
          have Y15 := Y12.below (B := w12.heap.size) (w' := w15) (((Below.refl w12.heap.size w12).alloc (Nat.le_refl _) _).drew.trans (hb15.mono (by rw [size_drew', World.size_alloc]; omega)))
          have hz15 : w12.heap.size ≤ w15.heap.size := Nat.le_trans (by rw [size_drew', World.size_alloc]; omega) hb15.size
          have HY15 := Lib.hid (Y15.more hz15)
          refine hK.out _ _ X15 (fun _ => ?_)
          clear hK K X14 hb15 k8 Y12 Y15 hz15 hPL
          by_cases hxz : x = Z
          · rw [decide_eq_true hxz] at hEq
            rw [if_pos hxz] at HRD
            have hres : Value.tuple #[.int .u8 (x0 : Int), .slice (some ⟨g3, 0, none⟩) s1 c3, .int .i64 ((n : Int) + (a : Int)), .int .i64 0] = .tuple #[.int .u8 (((x.getD 0 0).toNat : Nat) : Int), .slice (some ⟨g3, 0, none⟩) s1 c3, .int .i64 ((n + a : Nat) : Int), .int .i64 ((0 : Nat) : Int)] := by
              rw [← HX0.out, Int.natCast_add]; rfl
            have HRES := Lib.hid hres
            clear hres hxz hZ
            refine wpAnyH_ready (rs := [6]) (by kernel_rfl) (by simp) (AllReadyH.cons rfl (fun K hK => ?_) AllReadyH.nil)
            go_simp
            refine hK.out _ _ X15 (fun _ => ?_)
            clear hK K
            refine wpAnyH_done (by kernel_rfl) ?_ _
            go_wp2_with fail
            (try simp only [Exit.inBlock, Exit.then])
            refine bodyPost_ret (results_tmp4 rfl _ _ _) rfl ?_
            rw [HRD.out]
            exact ⟨_, congrArg _ HRES.out, HY15.out, B15⟩
          · rw [decide_eq_false hxz] at hEq
            rw [if_neg hxz] at HRD
            clear hxz hZ
            refine wpAnyH_ready (rs := [6]) (by kernel_rfl) (by simp) (AllReadyH.cons rfl (fun K hK => ?_) AllReadyH.nil)
            go_simp
            refine hK.out _ _ X15 (fun _ => ?_)
            clear hK K
            refine wpAnyH_done (by kernel_rfl) ?_ _
            go_wp2_with fail
            (try simp only [Exit.inBlock, Exit.then])
            refine bodyPost_ret (results_tmp4 rfl _ _ _) rfl ?_
            rw [HRD.out]
            exact ⟨_, rfl, bytes_nil _ _, B15⟩
        · rw [decide_eq_false hf] at k6
          have HR : Hid (FM.readM L = (0, [], 0, 21)) := Lib.hid (by
            rw [HRD.out]
            unfold FM.openM
            rw [if_pos]
            rw [← HS1.out]
            by_cases h240 : 240 < s1
            · exact .inl h240
            · by_cases e0 : x0 = 0
              · exact .inr (.inl (UInt8.toNat_inj.1 (by rw [← HX0.out, e0]; rfl)))
              · exact .inr (.inr (UInt8.toNat_inj.1 (by rw [← HX0.out]; show x0 = 255; omega))))
          clear hf
          go_wp2_with fail
          ((with_reducible refine (k6 _).mono ?_); rintro e w' ⟨rfl, rfl⟩)
          go_wp2_with fail
          (try simp only [Exit.inBlock, Exit.then])
          refine bodyPost_ret (results_tmp4 rfl _ _ _) rfl ?_
          rw [HR.out]
          exact ⟨_, rfl, bytes_nil _ _, B10.out⟩
      · rcases hee with hee | hee
        · exact absurd hee he0
        subst hee
        have HR : Hid (FM.readM L = (0, [], 0, 21)) := Lib.hid (by rw [HRD.out, if_pos he0])
        go_wp2_with (with_reducible refine wpl_store (.tmp 7) (.tmp 33) rfl rfl D8.out rfl hxL rfl ?_; intro w9 X9 g9 e9)
        (try simp only [Exit.inBlock, Exit.then])
        refine bodyPost_ret (results_tmp4 rfl _ _ _) rfl ?_
        rw [HR.out]
        exact ⟨_, rfl, bytes_nil _ _, B8.out.grown g9 B8.out.size (fun k e => by cases e; omega)⟩
end Go.Proofs.YtnclefdlmbkjmaaDoor
