/- The walk of NandTorn where it programs: it answers true, and changes nothing that was there. No condition. -/
import Derived.Test.YtnclefdlmbkjmaaNandTornE
namespace Go.Proofs.Ytnclefdlmbkjmaa
open Go.RowKit
def Bk.two (d : List UInt8) (m : Nat) : Bk := ⟨d :: NM.wr m NM.ff d :: List.replicate 6 NM.ff, 2, false⟩
set_option maxRecDepth 100000 in
set_option maxHeartbeats 8000000 in
theorem torn_program (b : UInt8) (keep : Int) (w : World) : Calls Try.prog 7 #[.int .u8 ((b.toNat : Nat) : Int), .int .i64 keep, .bool false] w fun e w' => e = .returned (.bool true) ∧ Below w.heap.size w w' := by
  have k0 := nandspeaks_any w
  have kp := lpage_any b
  obtain ⟨d, hd⟩ : ∃ d, d = lpage b := ⟨_, rfl⟩
  have hL : d.length = 258 := by rw [hd]; exact lpage_length b
  rw [← hd] at kp
  clear hd
  have z := zeroPage
  go_enter Try.func7, Try.ntmps7
  go_wp2_with ((with_reducible refine k0.mono ?_); rintro e w0 ⟨rfl, b0⟩)
  have k1 := newpower_any w0
  have B0 := Lib.hid b0
  clear b0 k0
  go_wp2_with ((with_reducible refine k1.mono ?_); rintro e w1 ⟨rfl, P1, b1⟩)
  have k2 := C1.new 16 2 w0.heap.size (by omega) (by omega) _ w1 P1 (z := 16) rfl
  have hf : At.from ⟨w1.heap.size + 1, w1.heap.size, w0.heap.size, none, none⟩ w.heap.size := At.from_new (Nat.le_trans B0.out.size b1.size) B0.out.size
  have B1 := Lib.hid (B0.out.trans (b1.mono B0.out.size))
  clear P1 b1 k1 B0
  go_wp2_with ((with_reducible refine k2.mono ?_); rintro e w2 ⟨rfl, C2, b2⟩)
  have B2 : Hid (Below w.heap.size w w2) := Lib.hid (B1.out.trans (b2.mono B1.out.size))
  have H2 := Lib.hid C2
  have Hf := Lib.hid hf
  obtain ⟨a, ha⟩ : ∃ a : At, a = ⟨w1.heap.size + 1, w1.heap.size, w0.heap.size, none, none⟩ := ⟨_, rfl⟩
  have hac : a.c = w1.heap.size + 1 := by rw [ha]
  rw [← hac]
  rw [← ha] at H2 Hf
  clear C2 b2 k2 B1 hf ha hac
  go_wp2_with ((with_reducible refine (kp _).mono ?_); rintro e w3 ⟨rfl, b3⟩)
  have B3 := Lib.hid (B2.out.trans (b3.mono B2.out.size))
  have H3 := Lib.hid (H2.out.after b3)
  have k3 := H3.out.prog fresh_off fresh_fits (by omega) (k := 0) (by omega) rfl hL (zb := 2) (zk := 0) rfl rfl (m := 258) (z := 0) rfl
  rw [one_eq hL] at k3
  clear b3 H2 B2
  go_wp2_with ((with_reducible refine k3.mono ?_); rintro e w4 ⟨rfl, C4, q4⟩; have c4 := C4.cell0)
  have B4 := Lib.hid (Below.chg B3.out q4 Hf.out (Nat.le_refl _))
  have H4 : Hid (C1 w4 a 16 2 (Bk.one d) 1 NM.Pwr.fresh) := Lib.hid C4
  clear C4 q4 k3 H3 B3
  have k4 : Calls _ _ _ _ _ := H4.out.cut 0 keep
  go_wp2_with ((with_reducible refine k4.mono ?_); rintro e w5 ⟨rfl, C5, q5⟩)
  have B5 := Lib.hid (Below.chg B4.out q5 Hf.out (Nat.le_refl _))
  have H5 : Hid (C1 w5 a 16 2 (Bk.one d) 1 (cutP keep)) := Lib.hid C5
  clear C5 q5 k4 H4 B4 c4
  go_wp2_with ((with_reducible refine (kp _).mono ?_); rintro e w6 ⟨rfl, b6⟩)
  have B6 := Lib.hid (B5.out.trans (b6.mono B5.out.size))
  have H6 := Lib.hid (H5.out.after b6)
  have k6 := H6.out.prog (by rfl) (cutP_fits keep) (by omega) (k := 1) (by omega) rfl hL (zb := 2) (zk := 1) rfl rfl (m := (min (max keep 0) 258).toNat) (z := 30) rfl
  obtain ⟨m, hm⟩ : ∃ m, m = (min (max keep 0) 258).toNat := ⟨_, rfl⟩
  rw [← hm] at k6
  clear hm b6 H5 B5
  go_wp2_with ((with_reducible refine k6.mono ?_); rintro e w7 ⟨rfl, C7, q7⟩; have c7 := C7.cell0)
  have B7 := Lib.hid (Below.chg B6.out q7 Hf.out (Nat.le_refl _))
  have H7 : Hid (C1 w7 a 16 2 (Bk.two d m) 2 ⟨true, -1, keep⟩) := Lib.hid C7
  clear C7 q7 k6 H6 B6
  have k7 := H7.out.on
  go_wp2_with ((with_reducible refine k7.mono ?_); rintro e w8 ⟨rfl, C8, q8⟩)
  have B8 := Lib.hid (Below.chg B7.out q8 Hf.out (Nat.le_refl _))
  have H8 : Hid (C1 w8 a 16 2 (Bk.two d m) 2 (onP keep)) := Lib.hid C8
  clear C8 q8 k7 H7 B7 c7
  have k8 := H8.out.read rfl (k := 1) (by omega) (zb := 2) (zk := 1) rfl rfl
  obtain ⟨x, hx⟩ : ∃ x, x = NM.wr m NM.ff d := ⟨_, rfl⟩
  rw [show (Bk.two d m).pg.getD 1 [] = x from hx.symm] at k8
  have hxl : x.length = 258 := by rw [hx, NM.wr_length]; exact NM.ff_length
  have HX : Hid (∀ i, i < 258 → x.getD i 0 = if i < m then d.getD i 0 else 255) := Lib.hid (by rw [hx]; exact torn_at hL m)
  clear hx
  go_wp2_with (first | ((with_reducible refine k8.mono ?_); rintro e w9 ⟨rfl, C9, b9⟩) | ((with_reducible refine wpl_pstore (.tmp 11) (.tmp 103) rfl rfl (PArr.new _ pzeros_length) rfl hxl rfl ?_); intro w10 R10 g10 e10))
  have B9 := Lib.hid (B8.out.trans (b9.mono B8.out.size))
  have hgx : ¬ a.all w9.heap.size := fun e => Nat.lt_irrefl _ (C9.all_lt e)
  obtain ⟨gx, hgxe⟩ : ∃ gx, gx = w9.heap.size := ⟨_, rfl⟩
  have B10 := Lib.hid (pkept_new B9.out g10)
  have H10 := Lib.hid (C9.after (pkept_new (Below.refl _ _) g10))
  rw [← hgxe] at hgx R10 ⊢
  have X10 := Lib.hid R10
  clear R10 g10 e10 C9 b9 k8 H8 B8 B9 hgxe
  have k10 := H10.out.read rfl (k := 0) (by omega) (zb := 2) (zk := 0) rfl rfl
  rw [show (Bk.two d m).pg.getD 0 [] = d from rfl] at k10
  go_wp2_with (first | ((with_reducible refine k10.mono ?_); rintro e w11 ⟨rfl, C11, b11⟩) | ((with_reducible refine wpl_pstore (.tmp 13) (.tmp 108) rfl rfl (PArr.new _ pzeros_length) rfl hL rfl ?_); intro w12 R12 g12 e12))
  have B11 := Lib.hid (B10.out.trans (b11.mono B10.out.size))
  have hgy : ¬ a.all w11.heap.size := fun e => Nat.lt_irrefl _ (C11.all_lt e)
  obtain ⟨gy, hgye⟩ : ∃ gy, gy = w11.heap.size := ⟨_, rfl⟩
  have B12 := Lib.hid (pkept_new B11.out g12)
  have H12 := Lib.hid (C11.after (pkept_new (Below.refl _ _) g12))
  have X12 := Lib.hid ((X10.out.after b11).after (pkept_new (Below.refl _ _) g12))
  rw [← hgye] at hgy R12 ⊢
  have Y12 := Lib.hid R12
  clear R12 g12 e12 C11 b11 k10 H10 B10 B11 hgye X10
  go_wp2_with ((with_reducible refine (kp _).mono ?_); rintro e w13 ⟨rfl, b13⟩)
  have B13 := Lib.hid (B12.out.trans (b13.mono B12.out.size))
  have H13 := Lib.hid (H12.out.after b13)
  have X13 := Lib.hid (X12.out.after b13)
  have Y13 := Lib.hid (Y12.out.after b13)
  clear b13 B12 H12 X12 Y12
  go_loopw [112] (fun i wr => ∃ j : Nat, j ≤ 258 ∧ i = .int .i64 j ∧ Below w13.heap.size w13 wr) (fun i _ => 258 - (intOf i).toNat)
  case atStart => exact ⟨0, by omega, rfl, Below.refl _ _⟩
  case round =>
    obtain ⟨j, hj, rfl, hb⟩ := hrel
    by_cases hlt : j < 258
    · obtain ⟨y, hy⟩ : ∃ y, y = d.getD j 0 := ⟨_, rfl⟩
      have hi := page_index hL hlt hy
      have hxj := HX.out j hlt
      rw [← hy] at hxj
      have hcj : wr.cell? ⟨gx, j, none⟩ = some (.int .u8 (((x.getD j 0).toNat : Nat) : Int)) := by
        rw [(X13.out.after hb).cell, cl_get (by omega), getD_at (by omega)]
      have HB := Lib.hid hb
      clear hb hy
      by_cases hjm : j < m
      · rw [if_pos hjm] at hxj
        rw [hxj] at hcj
        have e5 := u8_and' y y
        rw [u8_and_self] at e5
        obtain ⟨n, hn⟩ : ∃ n, n = y.toNat := ⟨_, rfl⟩
        rw [← hn] at hi hcj e5
        clear hn hxj HX hjm
        go_wp2_with fail
        exact ⟨⟨j + 1, by omega, by go_num, HB.out⟩, by simp [intOf]; omega⟩
      · rw [if_neg hjm] at hxj
        rw [hxj, show (255 : UInt8).toNat = 255 from rfl] at hcj
        have e5 := u8_and' 255 y
        rw [u8_and_ff, show ((((255 : UInt8).toNat : Nat)) : Int) = 255 from rfl] at e5
        obtain ⟨n, hn⟩ : ∃ n, n = y.toNat := ⟨_, rfl⟩
        rw [← hn] at hi e5
        have hcj' : wr.cell? ⟨gx, j, none⟩ = some (.int .u8 255) := hcj
        clear hn hxj HX hjm hcj
        by_cases hy255 : n = 255
        · subst hy255
          go_wp2_with fail
          exact ⟨⟨j + 1, by omega, by go_num, HB.out⟩, by simp [intOf]; omega⟩
        · have d2 : ((255 : Int) != (n : Int)) = true := by simp; omega
          have d3 : (255 : Int) ≠ (n : Int) := by omega
          go_wp2_with fail
          exact ⟨⟨j + 1, by omega, by go_num, HB.out⟩, by simp [intOf]; omega⟩
    · obtain rfl : j = 258 := by omega
      have R20 := Y13.out.after hb
      have H20 := Lib.hid (H13.out.after hb)
      have B20 := Lib.hid (B13.out.trans (hb.mono B13.out.size))
      have hEq : ∀ w, (Op.equalIn 10000 55 (.agg (cl d)) (.agg (cl d))).run Try.prog w = .ok true w := fun w => by
        have := equalIn_pcl hL hL w
        rwa [decide_eq_true rfl] at this
      clear hb B13 H13 X13 Y13 HX hxl hgx
      go_wp2_with fail
      refine wp_region_held_drew (S := fun w' => PArr w' gy d) (by kernel_rfl) R20.drew (fun _ => ?_)
      have R20d := R20.drew
      have H20d := Lib.hid (H20.out.after (Below.refl _ _).drew)
      have B20d := Lib.hid (B20.out.drew)
      refine wpAnyH_take (i := 0) (v := .int .i64 0) rfl (by kernel_rfl) (by kernel_rfl) (by kernel_rfl) (fun _ _ _ h => h) (Or.inl ⟨by kernel_rfl, fun w _ => by go_simp⟩) R20d ?_
      refine wpAnyH_take (i := 1) (v := .bool true) rfl (by kernel_rfl) (by kernel_rfl) (by kernel_rfl) (fun _ _ _ h => h) (Or.inl ⟨by kernel_rfl, fun w _ => by go_simp⟩) R20d ?_
      refine wpAnyH_take (i := 2) (v := .bool true) rfl (by kernel_rfl) (by kernel_rfl) (by kernel_rfl) (fun _ _ _ h => h) (Or.inl ⟨by kernel_rfl, fun w _ => by go_simp⟩) R20d ?_
      refine wpAnyH_take (i := 3) (v := .int .i64 0) rfl (by kernel_rfl) (by kernel_rfl) (by kernel_rfl) (fun _ _ _ h => h) (Or.inl ⟨by kernel_rfl, fun w _ => by go_simp⟩) R20d ?_
      refine wpAnyH_take (i := 4) (v := .bool true) rfl (by kernel_rfl) (by kernel_rfl) (by kernel_rfl) (fun _ _ _ h => h) (Or.inl ⟨by kernel_rfl, fun w _ => by go_simp⟩) R20d ?_
      refine wpAnyH_take (i := 5) (v := .bool true) rfl (by kernel_rfl) (by kernel_rfl) (by kernel_rfl) (fun _ _ _ h => h) (Or.inl ⟨by kernel_rfl, fun w _ => by go_simp⟩) R20d ?_
      refine wpAnyH_take (i := 6) (v := .bool true) rfl (by kernel_rfl) (by kernel_rfl) (by kernel_rfl) (fun _ _ _ h => h) (Or.inl ⟨by kernel_rfl, fun w _ => by go_simp⟩) R20d ?_
      refine wpAnyH_take (i := 7) (v := .agg (cl d)) rfl (by kernel_rfl) (by kernel_rfl) (by kernel_rfl) (fun _ _ _ h => h) (yields_pload (g := gy) (.tmp 13) (by kernel_rfl) (by kernel_rfl) (by kernel_rfl) (fun _ h => h)) R20d ?_
      refine wpAnyH_take (i := 8) (v := .int .u8 ((b.toNat : Nat) : Int)) rfl (by kernel_rfl) (by kernel_rfl) (by kernel_rfl) (fun _ _ _ h => h) (Or.inl ⟨by kernel_rfl, fun w _ => by go_simp⟩) R20d ?_
      refine wpAnyH_ready (rs := [9]) (by kernel_rfl) (by simp) (AllReadyH.cons rfl (fun K hK => ?_) AllReadyH.nil)
      go_simp
      ((with_reducible refine (kp _).mono ?_); rintro e w21 ⟨rfl, b21⟩)
      have B21 := Lib.hid (B20d.out.trans (b21.mono B20d.out.size))
      have H21 := Lib.hid (H20d.out.after b21)
      have R21 := R20d.after b21
      refine hK.out _ _ R21 (fun _ => ?_)
      clear hK K b21 B20d H20d R20d
      refine wpAnyH_take (i := 10) (v := .bool true) rfl (by kernel_rfl) (by kernel_rfl) (by kernel_rfl) (fun _ _ _ h => h) (Or.inl ⟨by kernel_rfl, fun w _ => by go_simp⟩) R21 ?_
      refine wpAnyH_take (i := 11) (v := .bool true) rfl (by kernel_rfl) (by kernel_rfl) (by kernel_rfl) (fun _ _ _ h => h) (Or.inl ⟨by kernel_rfl, fun w _ => by go_simp⟩) R21 ?_
      refine wpAnyH_take (i := 12) (v := .bool true) rfl (by kernel_rfl) (by kernel_rfl) (by kernel_rfl) (fun _ _ _ h => h) (Or.inl ⟨by kernel_rfl, fun w _ => by go_simp⟩) R21 ?_
      refine wpAnyH_take (i := 13) (v := .pointer (some ⟨a.c, 0, none⟩)) rfl (by kernel_rfl) (by kernel_rfl) (by kernel_rfl) (fun _ _ _ h => h) (Or.inl ⟨by kernel_rfl, fun w _ => by go_simp⟩) R21 ?_
      refine wpAnyH_take (i := 14) (v := .int .u8 ((b.toNat : Nat) : Int)) rfl (by kernel_rfl) (by kernel_rfl) (by kernel_rfl) (fun _ _ _ h => h) (Or.inl ⟨by kernel_rfl, fun w _ => by go_simp⟩) R21 ?_
      refine wpAnyH_ready (rs := [15]) (by kernel_rfl) (by simp) (AllReadyH.cons rfl (fun K hK => ?_) AllReadyH.nil)
      go_simp
      ((with_reducible refine (kp _).mono ?_); rintro e w22 ⟨rfl, b22⟩)
      have B22 := Lib.hid (B21.out.trans (b22.mono B21.out.size))
      have H22 := Lib.hid (H21.out.after b22)
      have R22 := R21.after b22
      refine hK.out _ _ R22 (fun _ => ?_)
      clear hK K b22 B21 H21 R21
      have k23 := H22.out.order rfl (onP_fits keep) (by omega) (k := 1) (by omega) (by show (2 : Nat) ≠ 1; omega) hL (zb := 2) (zk := 1) rfl rfl
      refine wpAnyH_ready (rs := [16]) (by kernel_rfl) (by simp) (AllReadyH.cons rfl (fun K hK => ?_) AllReadyH.nil)
      go_simp
      ((with_reducible refine k23.mono ?_); rintro e w23 ⟨rfl, C23, q23⟩)
      have B23 := Lib.hid (Below.chg B22.out q23 Hf.out (Nat.le_refl _))
      have H23 := Lib.hid C23
      have R23 := R22.chg q23 hgy
      refine hK.out _ _ R23 (fun _ => ?_)
      clear hK K k23 q23 C23 B22 H22 R22
      refine wpAnyH_take (i := 17) (v := .bool true) rfl (by kernel_rfl) (by kernel_rfl) (by kernel_rfl) (fun _ _ _ h => h) (Or.inl ⟨by kernel_rfl, fun w _ => by go_simp⟩) R23 ?_
      refine wpAnyH_take (i := 18) (v := .bool true) rfl (by kernel_rfl) (by kernel_rfl) (by kernel_rfl) (fun _ _ _ h => h) (Or.inl ⟨by kernel_rfl, fun w _ => by go_simp⟩) R23 ?_
      refine wpAnyH_take (i := 19) (v := .bool true) rfl (by kernel_rfl) (by kernel_rfl) (by kernel_rfl) (fun _ _ _ h => h) (Or.inl ⟨by kernel_rfl, fun w _ => by go_simp⟩) R23 ?_
      refine wpAnyH_take (i := 20) (v := .pointer (some ⟨a.c, 0, none⟩)) rfl (by kernel_rfl) (by kernel_rfl) (by kernel_rfl) (fun _ _ _ h => h) (Or.inl ⟨by kernel_rfl, fun w _ => by go_simp⟩) R23 ?_
      refine wpAnyH_take (i := 21) (v := .int .u8 ((b.toNat : Nat) : Int)) rfl (by kernel_rfl) (by kernel_rfl) (by kernel_rfl) (fun _ _ _ h => h) (Or.inl ⟨by kernel_rfl, fun w _ => by go_simp⟩) R23 ?_
      refine wpAnyH_ready (rs := [22]) (by kernel_rfl) (by simp) (AllReadyH.cons rfl (fun K hK => ?_) AllReadyH.nil)
      go_simp
      ((with_reducible refine (kp _).mono ?_); rintro e w24 ⟨rfl, b24⟩)
      have B24 := Lib.hid (B23.out.trans (b24.mono B23.out.size))
      have H24 := Lib.hid (H23.out.after b24)
      have R24 := R23.after b24
      refine hK.out _ _ R24 (fun _ => ?_)
      clear hK K b24 B23 H23 R23
      have k25 := H24.out.prog rfl (onP_fits keep) (by omega) (k := 2) (by omega) rfl hL (zb := 2) (zk := 2) rfl rfl (m := 258) (z := 0) rfl
      refine wpAnyH_ready (rs := [23]) (by kernel_rfl) (by simp) (AllReadyH.cons rfl (fun K hK => ?_) AllReadyH.nil)
      go_simp
      ((with_reducible refine k25.mono ?_); rintro e w25 ⟨rfl, C25, q25⟩)
      have B25 := Lib.hid (Below.chg B24.out q25 Hf.out (Nat.le_refl _))
      have H25 := Lib.hid C25
      have R25 := R24.chg q25 hgy
      refine hK.out _ _ R25 (fun _ => ?_)
      clear hK K k25 q25 C25 B24 H24 R24
      refine wpAnyH_take (i := 24) (v := .bool true) rfl (by kernel_rfl) (by kernel_rfl) (by kernel_rfl) (fun _ _ _ h => h) (Or.inl ⟨by kernel_rfl, fun w _ => by go_simp⟩) R25 ?_
      refine wpAnyH_take (i := 25) (v := .bool true) rfl (by kernel_rfl) (by kernel_rfl) (by kernel_rfl) (fun _ _ _ h => h) (Or.inl ⟨by kernel_rfl, fun w _ => by go_simp⟩) R25 ?_
      refine wpAnyH_ready (rs := [26]) (by kernel_rfl) (by simp) (AllReadyH.cons rfl (fun K hK => ?_) AllReadyH.nil)
      go_simp
      refine hK.out _ _ R25 (fun _ => ?_)
      clear hK K
      refine wpAnyH_done (by kernel_rfl) ?_ _
      go_wp2_with fail
      go_ret
      exact ⟨rfl, B25.out⟩
end Go.Proofs.Ytnclefdlmbkjmaa
