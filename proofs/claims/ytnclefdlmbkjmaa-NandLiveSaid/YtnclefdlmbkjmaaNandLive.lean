/- The walk of NandLive: it answers true, and changes nothing that was there. No condition. -/
import Derived.Test.YtnclefdlmbkjmaaNandOff
import Derived.Test.YtnclefdlmbkjmaaNandTornM
import Derived.Test.YtnclefdlmbkjmaaYields
import Derived.Test.YtnclefdlmbkjmaaOpenB
namespace Go.Proofs.Ytnclefdlmbkjmaa
open Go.RowKit
set_option maxRecDepth 100000 in
set_option maxHeartbeats 8000000 in
theorem live_main (b : UInt8) (A : Option Addr) (bs : List Bool) (c : Nat) (die : Int) (w : World) (hr : Row w w.heap.size A (bs.map Value.bool)) (hl : bs.length ≤ 100) :
    Calls Try.prog 8 #[.int .u8 ((b.toNat : Nat) : Int), .slice A bs.length c, .int .i64 die] w fun e w' => e = .returned (.bool true) ∧ Below w.heap.size w w' := by
  have k0 := nandspeaks_any w
  have kp := lpage_any b
  obtain ⟨d, hd⟩ : ∃ d, d = lpage b := ⟨_, rfl⟩
  have hL : d.length = 258 := by rw [hd]; exact lpage_length b
  rw [← hd] at kp
  clear hd
  have z := zeroPage
  have d1 : decide ((100 : Int) < (bs.length : Int)) = false := by simp; omega
  obtain ⟨q, hq⟩ : ∃ q, bits .and .i64 die 31 = q := ⟨_, rfl⟩
  go_enter Try.func8, Try.ntmps8
  go_wp2_with ((with_reducible refine k0.mono ?_); rintro e w0 ⟨rfl, b0⟩)
  have k1 := newpower_any w0
  have B0 := Lib.hid b0
  clear b0 k0 d1
  go_wp2_with ((with_reducible refine k1.mono ?_); rintro e w1 ⟨rfl, P1, b1⟩)
  have k2 := new_any 16 (by omega) w0.heap.size _ w1 P1
  rw [show ((16 : Nat) : Int) = 16 from rfl] at k2
  have hf : At.from ⟨w1.heap.size + 1, w1.heap.size, w0.heap.size, none, none⟩ w.heap.size := At.from_new (Nat.le_trans B0.out.size b1.size) B0.out.size
  have B1 := Lib.hid (B0.out.trans (b1.mono B0.out.size))
  have HP1 := Lib.hid P1
  clear P1 b1 k1 B0
  go_wp2_with ((with_reducible refine k2.mono ?_); rintro e w2 ⟨rfl, C2, b2⟩)
  have B2 : Hid (Below w.heap.size w w2) := Lib.hid (B1.out.trans (b2.mono B1.out.size))
  have H2 := Lib.hid C2
  have P2 := Lib.hid (HP1.out.after b2)
  have Hf := Lib.hid hf
  obtain ⟨a, ha⟩ : ∃ a : At, a = ⟨w1.heap.size + 1, w1.heap.size, w0.heap.size, none, none⟩ := ⟨_, rfl⟩
  have hac : a.c = w1.heap.size + 1 := by rw [ha]
  rw [← hac]
  rw [← ha] at Hf
  have HA := Lib.hid ha
  clear C2 b2 k2 B1 hf hac HP1 ha
  go_wp2_with ((with_reducible refine (kp _).mono ?_); rintro e w3 ⟨rfl, b3⟩)
  have B3 := Lib.hid (B2.out.trans (b3.mono B2.out.size))
  have k3 := CL.start hL (b := 4) (by omega) (H2.out.after b3) (P2.out.after b3) HA.out (zb := 4) rfl
  rw [one_eq hL] at k3
  clear b3 H2 B2 P2 HA
  go_wp2_with ((with_reducible refine k3.mono ?_); rintro e w4 ⟨rfl, C4, q4⟩)
  have B4 := Lib.hid (Below.chg B3.out q4 Hf.out (Nat.le_refl _))
  have H4 : Hid (CL w4 a 16 4 (Bk.one d) 1 false false) := Lib.hid C4
  clear C4 q4 k3 B3
  go_loopw [9, 36] (fun dd i wr => ∃ j : Nat, j ≤ bs.length ∧ i = .int .i64 j ∧ ∃ dead out, dd = .bool dead ∧ CL wr a 16 4 (Bk.one d) 1 out dead ∧ Below w.heap.size w wr) (fun _ i _ => bs.length - (intOf i).toNat)
  case atStart => exact ⟨0, by omega, rfl, false, false, rfl, H4.out, B4.out⟩
  case round =>
    rename_i wr
    obtain ⟨j, hj, rfl, dead, out, rfl, hC, hb⟩ := hrel
    clear B4 H4
    by_cases hlt : j < bs.length
    · obtain ⟨p, rfl, hab, hcell⟩ := hr.at_ (k := j) (by rw [List.length_map]; exact hlt)
      rw [List.getElem_map] at hcell
      have hc2 := (hb.cell (p := p.add j) (by rw [add_block]; exact hab)).trans hcell
      obtain ⟨v, hv⟩ : ∃ v, v = bs[j] := ⟨_, rfl⟩
      rw [← hv] at hc2
      have HB := Lib.hid hb
      have HC := Lib.hid hC
      clear hcell hv hb hC
      by_cases hjq : (j : Int) = q
      · subst hjq
        have kd := HC.out.die
        go_wp2_with (first | ((with_reducible refine kd.mono ?_); rintro e w5 ⟨rfl, C5, q5⟩))
        have H5 := Lib.hid C5
        have B5 := Lib.hid (Below.chg HB.out q5 Hf.out (Nat.le_refl _))
        clear C5 q5 kd HC HB
        have kput := H5.out.put v
        cases v
        · go_wp2_with (first | ((with_reducible refine kput.mono ?_); rintro e w6 ⟨rfl, C6, q6⟩))
          have H6 : Hid (CL w6 a 16 4 (Bk.one d) 1 true true) := Lib.hid C6
          have B6 := Lib.hid (Below.chg B5.out q6 Hf.out (Nat.le_refl _))
          clear C6 q6 kput B5
          have kc := H6.out.count
          have kr := H6.out.readDead rfl 4 0
          go_wp2_with (first | ((with_reducible refine kc.mono ?_); rintro e w' ⟨rfl, rfl⟩) | ((with_reducible refine kr.mono ?_); rintro e w8 ⟨rfl, b8⟩) | ((with_reducible refine wpl_pstore (.tmp 13) (.tmp 55) rfl rfl (PArr.new _ pzeros_length) rfl pzeros_length rfl ?_); intro w9 R9 g9 e9))
          have B8 := Lib.hid (B6.out.trans (b8.mono B6.out.size))
          have C8 := H6.out.after b8
          have hgx : ¬ a.all w8.heap.size := fun e => Nat.lt_irrefl _ (C8.all_lt e)
          obtain ⟨gx, hgxe⟩ : ∃ gx, gx = w8.heap.size := ⟨_, rfl⟩
          have B9 := Lib.hid (pkept_new B8.out g9)
          have H9 := Lib.hid (C8.after (pkept_new (Below.refl _ _) g9))
          rw [← hgxe] at hgx R9 ⊢
          clear g9 e9 C8 b8 kc kr H6 B6 B8 hgxe
          have HX := Lib.hid R9
          clear R9
          have kl := H9.out.live (v := false) rfl
          have ke := H9.out.eraseDead rfl 4
          go_wp2_with (first | ((with_reducible refine kl.mono ?_); rintro e w' ⟨rfl, rfl⟩) | ((with_reducible refine ke.mono ?_); rintro e w10 ⟨rfl, C10, q10⟩))
          have B10 := Lib.hid (Below.chg B9.out q10 Hf.out (Nat.le_refl _))
          have H10 := Lib.hid C10
          clear C10 q10 ke kl H9 B9
          go_wp2_with ((with_reducible refine (kp _).mono ?_); rintro e w11 ⟨rfl, b11⟩)
          have B11 := Lib.hid (B10.out.trans (b11.mono B10.out.size))
          have H11 := Lib.hid (H10.out.after b11)
          have kg := H11.out.programDead rfl 4 1 hL
          clear b11 H10 B10
          go_wp2_with ((with_reducible refine kg.mono ?_); rintro e w12 ⟨rfl, C12, q12⟩)
          have B12 := Lib.hid (Below.chg B11.out q12 Hf.out (Nat.le_refl _))
          have H12 := Lib.hid C12
          clear C12 q12 kg H11 B11
          have kn := H12.out.count
          go_wp2_with ((with_reducible refine kn.mono ?_); rintro e w' ⟨rfl, rfl⟩)
          try (go_wp2_with fail)
          exact ⟨⟨j + 1, by omega, by go_num, true, true, rfl, H12.out, B12.out⟩, by simp [intOf]; omega⟩
        · go_wp2_with (first | ((with_reducible refine kput.mono ?_); rintro e w6 ⟨rfl, C6, q6⟩))
          have H6 : Hid (CL w6 a 16 4 (Bk.one d) 1 false true) := Lib.hid C6
          have B6 := Lib.hid (Below.chg B5.out q6 Hf.out (Nat.le_refl _))
          clear C6 q6 kput B5
          have kc := H6.out.count
          have kr := H6.out.readDead rfl 4 0
          go_wp2_with (first | ((with_reducible refine kc.mono ?_); rintro e w' ⟨rfl, rfl⟩) | ((with_reducible refine kr.mono ?_); rintro e w8 ⟨rfl, b8⟩) | ((with_reducible refine wpl_pstore (.tmp 13) (.tmp 55) rfl rfl (PArr.new _ pzeros_length) rfl pzeros_length rfl ?_); intro w9 R9 g9 e9))
          have B8 := Lib.hid (B6.out.trans (b8.mono B6.out.size))
          have C8 := H6.out.after b8
          have hgx : ¬ a.all w8.heap.size := fun e => Nat.lt_irrefl _ (C8.all_lt e)
          obtain ⟨gx, hgxe⟩ : ∃ gx, gx = w8.heap.size := ⟨_, rfl⟩
          have B9 := Lib.hid (pkept_new B8.out g9)
          have H9 := Lib.hid (C8.after (pkept_new (Below.refl _ _) g9))
          rw [← hgxe] at hgx R9 ⊢
          clear g9 e9 C8 b8 kc kr H6 B6 B8 hgxe
          have HX := Lib.hid R9
          clear R9
          have kl := H9.out.live (v := false) rfl
          have ke := H9.out.eraseDead rfl 4
          go_wp2_with (first | ((with_reducible refine kl.mono ?_); rintro e w' ⟨rfl, rfl⟩) | ((with_reducible refine ke.mono ?_); rintro e w10 ⟨rfl, C10, q10⟩))
          have B10 := Lib.hid (Below.chg B9.out q10 Hf.out (Nat.le_refl _))
          have H10 := Lib.hid C10
          clear C10 q10 ke kl H9 B9
          go_wp2_with ((with_reducible refine (kp _).mono ?_); rintro e w11 ⟨rfl, b11⟩)
          have B11 := Lib.hid (B10.out.trans (b11.mono B10.out.size))
          have H11 := Lib.hid (H10.out.after b11)
          have kg := H11.out.programDead rfl 4 1 hL
          clear b11 H10 B10
          go_wp2_with ((with_reducible refine kg.mono ?_); rintro e w12 ⟨rfl, C12, q12⟩)
          have B12 := Lib.hid (Below.chg B11.out q12 Hf.out (Nat.le_refl _))
          have H12 := Lib.hid C12
          clear C12 q12 kg H11 B11
          have kn := H12.out.count
          go_wp2_with ((with_reducible refine kn.mono ?_); rintro e w' ⟨rfl, rfl⟩)
          try (go_wp2_with fail)
          exact ⟨⟨j + 1, by omega, by go_num, true, false, rfl, H12.out, B12.out⟩, by simp [intOf]; omega⟩
      · have dq : ((j : Int) == q) = false := by simp [hjq]
        have kput := HC.out.put v
        have B5 := HB
        clear HC HB
        cases v
        · cases dead
          · go_wp2_with (first | ((with_reducible refine kput.mono ?_); rintro e w6 ⟨rfl, C6, q6⟩))
            have H6 : Hid (CL w6 a 16 4 (Bk.one d) 1 true false) := Lib.hid C6
            have B6 := Lib.hid (Below.chg B5.out q6 Hf.out (Nat.le_refl _))
            clear C6 q6 kput B5
            have kc := H6.out.count
            have kr := H6.out.readDead rfl 4 0
            go_wp2_with (first | ((with_reducible refine kc.mono ?_); rintro e w' ⟨rfl, rfl⟩) | ((with_reducible refine kr.mono ?_); rintro e w8 ⟨rfl, b8⟩) | ((with_reducible refine wpl_pstore (.tmp 13) (.tmp 55) rfl rfl (PArr.new _ pzeros_length) rfl pzeros_length rfl ?_); intro w9 R9 g9 e9))
            have B8 := Lib.hid (B6.out.trans (b8.mono B6.out.size))
            have C8 := H6.out.after b8
            have hgx : ¬ a.all w8.heap.size := fun e => Nat.lt_irrefl _ (C8.all_lt e)
            obtain ⟨gx, hgxe⟩ : ∃ gx, gx = w8.heap.size := ⟨_, rfl⟩
            have B9 := Lib.hid (pkept_new B8.out g9)
            have H9 := Lib.hid (C8.after (pkept_new (Below.refl _ _) g9))
            rw [← hgxe] at hgx R9 ⊢
            clear g9 e9 C8 b8 kc kr H6 B6 B8 hgxe
            have HX := Lib.hid R9
            clear R9
            have kl := H9.out.live (v := false) rfl
            have ke := H9.out.eraseDead rfl 4
            go_wp2_with (first | ((with_reducible refine kl.mono ?_); rintro e w' ⟨rfl, rfl⟩) | ((with_reducible refine ke.mono ?_); rintro e w10 ⟨rfl, C10, q10⟩))
            have B10 := Lib.hid (Below.chg B9.out q10 Hf.out (Nat.le_refl _))
            have H10 := Lib.hid C10
            clear C10 q10 ke kl H9 B9
            go_wp2_with ((with_reducible refine (kp _).mono ?_); rintro e w11 ⟨rfl, b11⟩)
            have B11 := Lib.hid (B10.out.trans (b11.mono B10.out.size))
            have H11 := Lib.hid (H10.out.after b11)
            have kg := H11.out.programDead rfl 4 1 hL
            clear b11 H10 B10
            go_wp2_with ((with_reducible refine kg.mono ?_); rintro e w12 ⟨rfl, C12, q12⟩)
            have B12 := Lib.hid (Below.chg B11.out q12 Hf.out (Nat.le_refl _))
            have H12 := Lib.hid C12
            clear C12 q12 kg H11 B11
            have kn := H12.out.count
            go_wp2_with ((with_reducible refine kn.mono ?_); rintro e w' ⟨rfl, rfl⟩)
            try (go_wp2_with fail)
            exact ⟨⟨j + 1, by omega, by go_num, false, true, rfl, H12.out, B12.out⟩, by simp [intOf]; omega⟩
          · go_wp2_with (first | ((with_reducible refine kput.mono ?_); rintro e w6 ⟨rfl, C6, q6⟩))
            have H6 : Hid (CL w6 a 16 4 (Bk.one d) 1 true true) := Lib.hid C6
            have B6 := Lib.hid (Below.chg B5.out q6 Hf.out (Nat.le_refl _))
            clear C6 q6 kput B5
            have kc := H6.out.count
            have kr := H6.out.readDead rfl 4 0
            go_wp2_with (first | ((with_reducible refine kc.mono ?_); rintro e w' ⟨rfl, rfl⟩) | ((with_reducible refine kr.mono ?_); rintro e w8 ⟨rfl, b8⟩) | ((with_reducible refine wpl_pstore (.tmp 13) (.tmp 55) rfl rfl (PArr.new _ pzeros_length) rfl pzeros_length rfl ?_); intro w9 R9 g9 e9))
            have B8 := Lib.hid (B6.out.trans (b8.mono B6.out.size))
            have C8 := H6.out.after b8
            have hgx : ¬ a.all w8.heap.size := fun e => Nat.lt_irrefl _ (C8.all_lt e)
            obtain ⟨gx, hgxe⟩ : ∃ gx, gx = w8.heap.size := ⟨_, rfl⟩
            have B9 := Lib.hid (pkept_new B8.out g9)
            have H9 := Lib.hid (C8.after (pkept_new (Below.refl _ _) g9))
            rw [← hgxe] at hgx R9 ⊢
            clear g9 e9 C8 b8 kc kr H6 B6 B8 hgxe
            have HX := Lib.hid R9
            clear R9
            have kl := H9.out.live (v := false) rfl
            have ke := H9.out.eraseDead rfl 4
            go_wp2_with (first | ((with_reducible refine kl.mono ?_); rintro e w' ⟨rfl, rfl⟩) | ((with_reducible refine ke.mono ?_); rintro e w10 ⟨rfl, C10, q10⟩))
            have B10 := Lib.hid (Below.chg B9.out q10 Hf.out (Nat.le_refl _))
            have H10 := Lib.hid C10
            clear C10 q10 ke kl H9 B9
            go_wp2_with ((with_reducible refine (kp _).mono ?_); rintro e w11 ⟨rfl, b11⟩)
            have B11 := Lib.hid (B10.out.trans (b11.mono B10.out.size))
            have H11 := Lib.hid (H10.out.after b11)
            have kg := H11.out.programDead rfl 4 1 hL
            clear b11 H10 B10
            go_wp2_with ((with_reducible refine kg.mono ?_); rintro e w12 ⟨rfl, C12, q12⟩)
            have B12 := Lib.hid (Below.chg B11.out q12 Hf.out (Nat.le_refl _))
            have H12 := Lib.hid C12
            clear C12 q12 kg H11 B11
            have kn := H12.out.count
            go_wp2_with ((with_reducible refine kn.mono ?_); rintro e w' ⟨rfl, rfl⟩)
            try (go_wp2_with fail)
            exact ⟨⟨j + 1, by omega, by go_num, true, true, rfl, H12.out, B12.out⟩, by simp [intOf]; omega⟩
        · cases dead
          · go_wp2_with (first | ((with_reducible refine kput.mono ?_); rintro e w6 ⟨rfl, C6, q6⟩))
            have H6 : Hid (CL w6 a 16 4 (Bk.one d) 1 false false) := Lib.hid C6
            have B6 := Lib.hid (Below.chg B5.out q6 Hf.out (Nat.le_refl _))
            clear C6 q6 kput B5
            have kc := H6.out.count
            have kr := H6.out.read rfl (k := 0) (by omega) (zb := 4) (zk := 0) rfl rfl
            rw [show (Bk.one d).pg.getD 0 [] = d from rfl] at kr
            go_wp2_with (first | ((with_reducible refine kc.mono ?_); rintro e w' ⟨rfl, rfl⟩) | ((with_reducible refine kr.mono ?_); rintro e w8 ⟨rfl, b8⟩) | ((with_reducible refine wpl_pstore (.tmp 13) (.tmp 55) rfl rfl (PArr.new _ pzeros_length) rfl hL rfl ?_); intro w9 R9 g9 e9))
            have B8 := Lib.hid (B6.out.trans (b8.mono B6.out.size))
            have C8 := H6.out.after b8
            have hgx : ¬ a.all w8.heap.size := fun e => Nat.lt_irrefl _ (C8.all_lt e)
            obtain ⟨gx, hgxe⟩ : ∃ gx, gx = w8.heap.size := ⟨_, rfl⟩
            have B9 := Lib.hid (pkept_new B8.out g9)
            have H9 := Lib.hid (C8.after (pkept_new (Below.refl _ _) g9))
            rw [← hgxe] at hgx R9 ⊢
            clear g9 e9 C8 b8 kc kr H6 B6 B8 hgxe
            have hEq : ∀ w, (Op.equalIn 10000 55 (.agg (cl d)) (.agg (cl d))).run Try.prog w = .ok true w := fun w => by
              have := equalIn_pcl hL hL w
              rwa [decide_eq_true rfl] at this
            refine wp_region_held_drew (S := fun w' => PArr w' gx d) (by kernel_rfl) R9.drew (fun _ => ?_)
            have R9d := R9.drew
            have H9d := Lib.hid (H9.out.after (Below.refl _ _).drew)
            have B9d := Lib.hid (B9.out.drew)
            refine wpAnyH_take (i := 0) (v := .int .i64 0) rfl (by kernel_rfl) (by kernel_rfl) (by kernel_rfl) (fun _ _ _ h => h) (Or.inl ⟨by kernel_rfl, fun w _ => by go_simp⟩) R9d ?_
            refine wpAnyH_take (i := 1) (v := .bool false) rfl (by kernel_rfl) (by kernel_rfl) (by kernel_rfl) (fun _ _ _ h => h) (Or.inl ⟨by kernel_rfl, fun w _ => by go_simp⟩) R9d ?_
            refine wpAnyH_take (i := 2) (v := .bool false) rfl (by kernel_rfl) (by kernel_rfl) (by kernel_rfl) (fun _ _ _ h => h) (Or.inl ⟨by kernel_rfl, fun w _ => by go_simp⟩) R9d ?_
            refine wpAnyH_take (i := 3) (v := .agg (cl d)) rfl (by kernel_rfl) (by kernel_rfl) (by kernel_rfl) (fun _ _ _ h => h) (yields_pload (g := gx) (.tmp 13) (by kernel_rfl) (by kernel_rfl) (by kernel_rfl) (fun _ h => h)) R9d ?_
            refine wpAnyH_take (i := 4) (v := .int .u8 ((b.toNat : Nat) : Int)) rfl (by kernel_rfl) (by kernel_rfl) (by kernel_rfl) (fun _ _ _ h => h) (Or.inl ⟨by kernel_rfl, fun w _ => by go_simp⟩) R9d ?_
            refine wpAnyH_ready (rs := [5]) (by kernel_rfl) (by simp) (AllReadyH.cons rfl (fun K hK => ?_) AllReadyH.nil)
            go_simp
            ((with_reducible refine (kp _).mono ?_); rintro e w10 ⟨rfl, b10⟩)
            have B10 := Lib.hid (B9d.out.trans (b10.mono B9d.out.size))
            have H10 := Lib.hid (H9d.out.after b10)
            have R10 := R9d.after b10
            refine hK.out _ _ R10 (fun _ => ?_)
            clear hK K b10 B9d H9d R9d
            refine wpAnyH_take (i := 6) (v := .bool false) rfl (by kernel_rfl) (by kernel_rfl) (by kernel_rfl) (fun _ _ _ h => h) (Or.inl ⟨by kernel_rfl, fun w _ => by go_simp⟩) R10 ?_
            refine wpAnyH_take (i := 7) (v := .bool false) rfl (by kernel_rfl) (by kernel_rfl) (by kernel_rfl) (fun _ _ _ h => h) (Or.inl ⟨by kernel_rfl, fun w _ => by go_simp⟩) R10 ?_
            refine wpAnyH_take (i := 8) (v := .bool false) rfl (by kernel_rfl) (by kernel_rfl) (by kernel_rfl) (fun _ _ _ h => h) (Or.inl ⟨by kernel_rfl, fun w _ => by go_simp⟩) R10 ?_
            refine wpAnyH_take (i := 9) (v := .pointer (some ⟨a.c, 0, none⟩)) rfl (by kernel_rfl) (by kernel_rfl) (by kernel_rfl) (fun _ _ _ h => h) (Or.inl ⟨by kernel_rfl, fun w _ => by go_simp⟩) R10 ?_
            have kk := H10.out.live (v := true) rfl
            refine wpAnyH_ready (rs := [10]) (by kernel_rfl) (by simp) (AllReadyH.cons rfl (fun K hK => ?_) AllReadyH.nil)
            go_simp
            ((with_reducible refine kk.mono ?_); rintro e w' ⟨rfl, rfl⟩)
            refine hK.out _ _ R10 (fun _ => ?_)
            clear hK K kk
            refine wpAnyH_take (i := 11) (v := .bool false) rfl (by kernel_rfl) (by kernel_rfl) (by kernel_rfl) (fun _ _ _ h => h) (Or.inl ⟨by kernel_rfl, fun w _ => by go_simp⟩) R10 ?_
            refine wpAnyH_ready (rs := [12]) (by kernel_rfl) (by simp) (AllReadyH.cons rfl (fun K hK => ?_) AllReadyH.nil)
            go_simp
            refine hK.out _ _ R10 (fun _ => ?_)
            clear hK K
            refine wpAnyH_done (by kernel_rfl) ?_ _
            go_wp2_with fail
            exact ⟨⟨j + 1, by omega, by go_num, false, false, rfl, H10.out, B10.out⟩, by simp [intOf]; omega⟩
          · go_wp2_with (first | ((with_reducible refine kput.mono ?_); rintro e w6 ⟨rfl, C6, q6⟩))
            have H6 : Hid (CL w6 a 16 4 (Bk.one d) 1 false true) := Lib.hid C6
            have B6 := Lib.hid (Below.chg B5.out q6 Hf.out (Nat.le_refl _))
            clear C6 q6 kput B5
            have kc := H6.out.count
            have kr := H6.out.readDead rfl 4 0
            go_wp2_with (first | ((with_reducible refine kc.mono ?_); rintro e w' ⟨rfl, rfl⟩) | ((with_reducible refine kr.mono ?_); rintro e w8 ⟨rfl, b8⟩) | ((with_reducible refine wpl_pstore (.tmp 13) (.tmp 55) rfl rfl (PArr.new _ pzeros_length) rfl pzeros_length rfl ?_); intro w9 R9 g9 e9))
            have B8 := Lib.hid (B6.out.trans (b8.mono B6.out.size))
            have C8 := H6.out.after b8
            have hgx : ¬ a.all w8.heap.size := fun e => Nat.lt_irrefl _ (C8.all_lt e)
            obtain ⟨gx, hgxe⟩ : ∃ gx, gx = w8.heap.size := ⟨_, rfl⟩
            have B9 := Lib.hid (pkept_new B8.out g9)
            have H9 := Lib.hid (C8.after (pkept_new (Below.refl _ _) g9))
            rw [← hgxe] at hgx R9 ⊢
            clear g9 e9 C8 b8 kc kr H6 B6 B8 hgxe
            have HX := Lib.hid R9
            clear R9
            have kl := H9.out.live (v := false) rfl
            have ke := H9.out.eraseDead rfl 4
            go_wp2_with (first | ((with_reducible refine kl.mono ?_); rintro e w' ⟨rfl, rfl⟩) | ((with_reducible refine ke.mono ?_); rintro e w10 ⟨rfl, C10, q10⟩))
            have B10 := Lib.hid (Below.chg B9.out q10 Hf.out (Nat.le_refl _))
            have H10 := Lib.hid C10
            clear C10 q10 ke kl H9 B9
            go_wp2_with ((with_reducible refine (kp _).mono ?_); rintro e w11 ⟨rfl, b11⟩)
            have B11 := Lib.hid (B10.out.trans (b11.mono B10.out.size))
            have H11 := Lib.hid (H10.out.after b11)
            have kg := H11.out.programDead rfl 4 1 hL
            clear b11 H10 B10
            go_wp2_with ((with_reducible refine kg.mono ?_); rintro e w12 ⟨rfl, C12, q12⟩)
            have B12 := Lib.hid (Below.chg B11.out q12 Hf.out (Nat.le_refl _))
            have H12 := Lib.hid C12
            clear C12 q12 kg H11 B11
            have kn := H12.out.count
            go_wp2_with ((with_reducible refine kn.mono ?_); rintro e w' ⟨rfl, rfl⟩)
            try (go_wp2_with fail)
            exact ⟨⟨j + 1, by omega, by go_num, true, false, rfl, H12.out, B12.out⟩, by simp [intOf]; omega⟩
    · obtain rfl : j = bs.length := by omega
      go_wp2_with fail
      go_ret
      exact ⟨rfl, hb⟩
end Go.Proofs.Ytnclefdlmbkjmaa
