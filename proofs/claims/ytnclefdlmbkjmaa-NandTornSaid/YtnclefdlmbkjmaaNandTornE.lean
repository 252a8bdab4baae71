/- The walk of NandTorn where it erases: it answers true, and changes nothing that was there. No condition. -/
import Derived.Test.YtnclefdlmbkjmaaNandSpeaks
import Derived.Test.YtnclefdlmbkjmaaNandTornM
import Derived.Test.YtnclefdlmbkjmaaYields
namespace Go.Proofs.Ytnclefdlmbkjmaa
open Go.RowKit
theorem ff_cell {k : Nat} (h : k < 258) : (cl NM.ff)[k]? = some (.int .u8 255) := by
  rw [cl_get (by rw [NM.ff_length]; exact h)]
  unfold NM.ff
  rw [List.getElem_replicate]
  rfl
def cutP (keep : Int) : NM.Pwr := ⟨false, 0, keep⟩
def onP (keep : Int) : NM.Pwr := ⟨false, -1, keep⟩
theorem cutP_fits (keep : Int) : (cutP keep).fits := ⟨by show (-9223372036854775808 : Int) ≤ 0; omega, by show (0 : Int) < 9223372036854775808; omega⟩
theorem onP_fits (keep : Int) : (onP keep).fits := ⟨by show (-9223372036854775808 : Int) ≤ -1; omega, by show (-1 : Int) < 9223372036854775808; omega⟩
set_option maxRecDepth 100000 in
set_option maxHeartbeats 8000000 in
theorem torn_erase (b : UInt8) (keep : Int) (w : World) : Calls Try.prog 7 #[.int .u8 ((b.toNat : Nat) : Int), .int .i64 keep, .bool true] w fun e w' => e = .returned (.bool true) ∧ Below w.heap.size w w' := by
  have k0 := nandspeaks_any w
  have kp := lpage_any b
  obtain ⟨d, hd⟩ : ∃ d, d = lpage b := ⟨_, rfl⟩
  have hL : d.length = 258 := by rw [hd]; exact lpage_length b
  rw [← hd] at kp
  clear hd
  have z := zeroPage
  go_enter Try.func7, Try.ntmps7
  go_wp2_with ((with_reducible refine k0.mono ?_); rintro e w0 ⟨rfl, b0⟩)
  have k1 := newpower_any w0
  have B0 := Lib.hid b0
  clear b0 k0
  go_wp2_with ((with_reducible refine k1.mono ?_); rintro e w1 ⟨rfl, P1, b1⟩)
  have k2 := C1.new 16 2 w0.heap.size (by omega) (by omega) _ w1 P1 (z := 16) rfl
  have hf : At.from ⟨w1.heap.size + 1, w1.heap.size, w0.heap.size, none, none⟩ w.heap.size := At.from_new (Nat.le_trans B0.out.size b1.size) B0.out.size
  have B1 := Lib.hid (B0.out.trans (b1.mono B0.out.size))
  clear P1 b1 k1 B0
  go_wp2_with ((with_reducible refine k2.mono ?_); rintro e w2 ⟨rfl, C2, b2⟩)
  have B2 : Hid (Below w.heap.size w w2) := Lib.hid (B1.out.trans (b2.mono B1.out.size))
  have H2 := Lib.hid C2
  have Hf := Lib.hid hf
  obtain ⟨a, ha⟩ : ∃ a : At, a = ⟨w1.heap.size + 1, w1.heap.size, w0.heap.size, none, none⟩ := ⟨_, rfl⟩
  have hac : a.c = w1.heap.size + 1 := by rw [ha]
  rw [← hac]
  rw [← ha] at H2 Hf
  clear C2 b2 k2 B1 hf ha hac
  go_wp2_with ((with_reducible refine (kp _).mono ?_); rintro e w3 ⟨rfl, b3⟩)
  have B3 := Lib.hid (B2.out.trans (b3.mono B2.out.size))
  have H3 := Lib.hid (H2.out.after b3)
  have k3 := H3.out.prog fresh_off fresh_fits (by omega) (k := 0) (by omega) rfl hL (zb := 2) (zk := 0) rfl rfl (m := 258) (z := 0) rfl
  rw [one_eq hL] at k3
  clear b3 H2 B2
  go_wp2_with ((with_reducible refine k3.mono ?_); rintro e w4 ⟨rfl, C4, q4⟩; have c4 := C4.cell0)
  have B4 := Lib.hid (Below.chg B3.out q4 Hf.out (Nat.le_refl _))
  have H4 : Hid (C1 w4 a 16 2 (Bk.one d) 1 NM.Pwr.fresh) := Lib.hid C4
  clear C4 q4 k3 H3 B3
  have k4 : Calls _ _ _ _ _ := H4.out.cut 0 keep
  go_wp2_with ((with_reducible refine k4.mono ?_); rintro e w5 ⟨rfl, C5, q5⟩)
  have B5 := Lib.hid (Below.chg B4.out q5 Hf.out (Nat.le_refl _))
  have H5 : Hid (C1 w5 a 16 2 (Bk.one d) 1 (cutP keep)) := Lib.hid C5
  clear C5 q5 k4 H4 B4 c4
  have k5 := H5.out.erased (by rfl) (cutP_fits keep) (by omega) rfl (zb := 2) rfl
  go_wp2_with ((with_reducible refine k5.mono ?_); rintro e w6 ⟨rfl, C6, q6⟩; have c6 := C6.cell0)
  have B6 := Lib.hid (Below.chg B5.out q6 Hf.out (Nat.le_refl _))
  have H6 : Hid (C1 w6 a 16 2 ⟨wipP (min (max keep 0) 8).toNat (Bk.one d).pg, 8, false⟩ 2 ⟨true, -1, keep⟩) := Lib.hid C6
  clear C6 q6 k5 H5 B5
  have k6 := H6.out.on
  go_wp2_with ((with_reducible refine k6.mono ?_); rintro e w7 ⟨rfl, C7, q7⟩)
  have B7 := Lib.hid (Below.chg B6.out q7 Hf.out (Nat.le_refl _))
  have H7 : Hid (C1 w7 a 16 2 ⟨wipP (min (max keep 0) 8).toNat (Bk.one d).pg, 8, false⟩ 2 (onP keep)) := Lib.hid C7
  clear C7 q7 k6 H6 B6 c6
  have k7 := H7.out.read rfl (k := 0) (by omega) (zb := 2) (zk := 0) rfl rfl
  rw [show (⟨wipP (min (max keep 0) 8).toNat (Bk.one d).pg, 8, false⟩ : Bk).pg.getD 0 [] = if (min (max keep 0) 8).toNat = 0 then d else NM.ff from wiped_page d _] at k7
  obtain ⟨x, hx⟩ : ∃ x, x = if (min (max keep 0) 8).toNat = 0 then d else NM.ff := ⟨_, rfl⟩
  rw [← hx] at k7
  have hxl : x.length = 258 := by rw [hx]; split; exact hL; exact NM.ff_length
  have hxx : Hid (x ≠ d → x = NM.ff) := Lib.hid (by rw [hx]; split; intro h; exact absurd rfl h; intro _; rfl)
  obtain ⟨Y, hY⟩ : ∃ Y : Bk, Y = ⟨wipP (min (max keep 0) 8).toNat (Bk.one d).pg, 8, false⟩ := ⟨_, rfl⟩
  have hYn : Y.nx = 8 := by rw [hY]
  rw [← hY] at H7 k7
  clear hx hY
  go_wp2_with (first | ((with_reducible refine k7.mono ?_); rintro e w8 ⟨rfl, C8, b8⟩) | ((with_reducible refine wpl_pstore (.tmp 9) (.tmp 51) rfl rfl (PArr.new _ pzeros_length) rfl hxl rfl ?_); intro w9 R9 g9 e9))
  have B8 := Lib.hid (B7.out.trans (b8.mono B7.out.size))
  have hgx : ¬ a.all w8.heap.size := fun e => Nat.lt_irrefl _ (C8.all_lt e)
  obtain ⟨gx, hgxe⟩ : ∃ gx, gx = w8.heap.size := ⟨_, rfl⟩
  have B9 := Lib.hid (pkept_new B8.out g9)
  have H9 := Lib.hid (C8.after (pkept_new (Below.refl _ _) g9))
  rw [← hgxe] at hgx R9 ⊢
  clear g9 e9 C8 b8 k7 H7 B7 B8 hgxe
  by_cases hxd : x = d
  · subst hxd
    have hEq : ∀ w, (Op.equalIn 10000 55 (.agg (cl x)) (.agg (cl x))).run Try.prog w = .ok true w := fun w => by
      have := equalIn_pcl hL hL w
      rwa [decide_eq_true rfl] at this
    clear hxx hxl
    refine wp_region_held_drew (S := fun w' => PArr w' gx x) (by kernel_rfl) R9.drew (fun _ => ?_)
    have R9d := R9.drew
    have H9d := Lib.hid (H9.out.after (Below.refl _ _).drew)
    have B9d := Lib.hid (B9.out.drew)
    refine wpAnyH_take (i := 0) (v := .int .i64 0) rfl (by kernel_rfl) (by kernel_rfl) (by kernel_rfl) (fun _ _ _ h => h) (Or.inl ⟨by kernel_rfl, fun w _ => by go_simp⟩) R9d ?_
    refine wpAnyH_take (i := 1) (v := .bool true) rfl (by kernel_rfl) (by kernel_rfl) (by kernel_rfl) (fun _ _ _ h => h) (Or.inl ⟨by kernel_rfl, fun w _ => by go_simp⟩) R9d ?_
    refine wpAnyH_take (i := 2) (v := .bool true) rfl (by kernel_rfl) (by kernel_rfl) (by kernel_rfl) (fun _ _ _ h => h) (Or.inl ⟨by kernel_rfl, fun w _ => by go_simp⟩) R9d ?_
    refine wpAnyH_take (i := 3) (v := .agg (cl x)) rfl (by kernel_rfl) (by kernel_rfl) (by kernel_rfl) (fun _ _ _ h => h) (yields_pload (g := gx) (.tmp 9) (by kernel_rfl) (by kernel_rfl) (by kernel_rfl) (fun _ h => h)) R9d ?_
    refine wpAnyH_take (i := 4) (v := .int .u8 ((b.toNat : Nat) : Int)) rfl (by kernel_rfl) (by kernel_rfl) (by kernel_rfl) (fun _ _ _ h => h) (Or.inl ⟨by kernel_rfl, fun w _ => by go_simp⟩) R9d ?_
    refine wpAnyH_ready (rs := [5]) (by kernel_rfl) (by simp) (AllReadyH.cons rfl (fun K hK => ?_) AllReadyH.nil)
    go_simp
    ((with_reducible refine (kp _).mono ?_); rintro e w10 ⟨rfl, b10⟩)
    have B10 := Lib.hid (B9d.out.trans (b10.mono B9d.out.size))
    have H10 := Lib.hid (H9d.out.after b10)
    have R10 := R9d.after b10
    refine hK.out _ _ R10 (fun _ => ?_)
    clear hK K b10 B9d H9d R9d
    refine wpAnyH_take (i := 6) (v := .bool true) rfl (by kernel_rfl) (by kernel_rfl) (by kernel_rfl) (fun _ _ _ h => h) (Or.inl ⟨by kernel_rfl, fun w _ => by go_simp⟩) R10 ?_
    refine wpAnyH_take (i := 7) (v := .bool true) rfl (by kernel_rfl) (by kernel_rfl) (by kernel_rfl) (fun _ _ _ h => h) (Or.inl ⟨by kernel_rfl, fun w _ => by go_simp⟩) R10 ?_
    refine wpAnyH_take (i := 8) (v := undef) rfl (by kernel_rfl) (by kernel_rfl) (by kernel_rfl) (fun _ _ _ h => h) (Or.inr ⟨by kernel_rfl, rfl⟩) R10 ?_
    refine wpAnyH_take (i := 9) (v := undef) rfl (by kernel_rfl) (by kernel_rfl) (by kernel_rfl) (fun _ _ _ h => h) (Or.inr ⟨by kernel_rfl, rfl⟩) R10 ?_
    refine wpAnyH_take (i := 10) (v := undef) rfl (by kernel_rfl) (by kernel_rfl) (by kernel_rfl) (fun _ _ _ h => h) (Or.inr ⟨by kernel_rfl, rfl⟩) R10 ?_
    refine wpAnyH_take (i := 11) (v := undef) rfl (by kernel_rfl) (by kernel_rfl) (by kernel_rfl) (fun _ _ _ h => h) (Or.inr ⟨by kernel_rfl, rfl⟩) R10 ?_
    refine wpAnyH_take (i := 12) (v := undef) rfl (by kernel_rfl) (by kernel_rfl) (by kernel_rfl) (fun _ _ _ h => h) (Or.inr ⟨by kernel_rfl, rfl⟩) R10 ?_
    refine wpAnyH_take (i := 13) (v := undef) rfl (by kernel_rfl) (by kernel_rfl) (by kernel_rfl) (fun _ _ _ h => h) (Or.inr ⟨by kernel_rfl, rfl⟩) R10 ?_
    refine wpAnyH_take (i := 14) (v := undef) rfl (by kernel_rfl) (by kernel_rfl) (by kernel_rfl) (fun _ _ _ h => h) (Or.inr ⟨by kernel_rfl, rfl⟩) R10 ?_
    refine wpAnyH_take (i := 15) (v := undef) rfl (by kernel_rfl) (by kernel_rfl) (by kernel_rfl) (fun _ _ _ h => h) (Or.inr ⟨by kernel_rfl, rfl⟩) R10 ?_
    refine wpAnyH_take (i := 16) (v := undef) rfl (by kernel_rfl) (by kernel_rfl) (by kernel_rfl) (fun _ _ _ h => h) (Or.inr ⟨by kernel_rfl, rfl⟩) R10 ?_
    refine wpAnyH_take (i := 17) (v := undef) rfl (by kernel_rfl) (by kernel_rfl) (by kernel_rfl) (fun _ _ _ h => h) (Or.inr ⟨by kernel_rfl, rfl⟩) R10 ?_
    refine wpAnyH_take (i := 18) (v := undef) rfl (by kernel_rfl) (by kernel_rfl) (by kernel_rfl) (fun _ _ _ h => h) (Or.inr ⟨by kernel_rfl, rfl⟩) R10 ?_
    refine wpAnyH_take (i := 19) (v := undef) rfl (by kernel_rfl) (by kernel_rfl) (by kernel_rfl) (fun _ _ _ h => h) (Or.inr ⟨by kernel_rfl, rfl⟩) R10 ?_
    refine wpAnyH_take (i := 20) (v := undef) rfl (by kernel_rfl) (by kernel_rfl) (by kernel_rfl) (fun _ _ _ h => h) (Or.inr ⟨by kernel_rfl, rfl⟩) R10 ?_
    refine wpAnyH_take (i := 21) (v := .bool true) rfl (by kernel_rfl) (by kernel_rfl) (by kernel_rfl) (fun _ _ _ h => h) (Or.inl ⟨by kernel_rfl, fun w _ => by go_simp⟩) R10 ?_
    refine wpAnyH_take (i := 22) (v := .bool true) rfl (by kernel_rfl) (by kernel_rfl) (by kernel_rfl) (fun _ _ _ h => h) (Or.inl ⟨by kernel_rfl, fun w _ => by go_simp⟩) R10 ?_
    refine wpAnyH_take (i := 23) (v := .bool true) rfl (by kernel_rfl) (by kernel_rfl) (by kernel_rfl) (fun _ _ _ h => h) (Or.inl ⟨by kernel_rfl, fun w _ => by go_simp⟩) R10 ?_
    refine wpAnyH_take (i := 24) (v := .pointer (some ⟨a.c, 0, none⟩)) rfl (by kernel_rfl) (by kernel_rfl) (by kernel_rfl) (fun _ _ _ h => h) (Or.inl ⟨by kernel_rfl, fun w _ => by go_simp⟩) R10 ?_
    refine wpAnyH_take (i := 25) (v := .int .u8 ((b.toNat : Nat) : Int)) rfl (by kernel_rfl) (by kernel_rfl) (by kernel_rfl) (fun _ _ _ h => h) (Or.inl ⟨by kernel_rfl, fun w _ => by go_simp⟩) R10 ?_
    refine wpAnyH_ready (rs := [26]) (by kernel_rfl) (by simp) (AllReadyH.cons rfl (fun K hK => ?_) AllReadyH.nil)
    go_simp
    ((with_reducible refine (kp _).mono ?_); rintro e w11 ⟨rfl, b11⟩)
    have B11 := Lib.hid (B10.out.trans (b11.mono B10.out.size))
    have H11 := Lib.hid (H10.out.after b11)
    have R11 := R10.after b11
    refine hK.out _ _ R11 (fun _ => ?_)
    clear hK K b11 B10 H10 R10
    have k12 := H11.out.order rfl (onP_fits keep) (by omega) (k := 1) (by omega) (by rw [hYn]; omega) hL (zb := 2) (zk := 1) rfl rfl
    refine wpAnyH_ready (rs := [27]) (by kernel_rfl) (by simp) (AllReadyH.cons rfl (fun K hK => ?_) AllReadyH.nil)
    go_simp
    ((with_reducible refine k12.mono ?_); rintro e w12 ⟨rfl, C12, q12⟩)
    have B12 := Lib.hid (Below.chg B11.out q12 Hf.out (Nat.le_refl _))
    have H12 := Lib.hid C12
    have R12 := R11.chg q12 hgx
    refine hK.out _ _ R12 (fun _ => ?_)
    clear hK K k12 q12 C12 B11 H11 R11
    refine wpAnyH_take (i := 28) (v := .bool true) rfl (by kernel_rfl) (by kernel_rfl) (by kernel_rfl) (fun _ _ _ h => h) (Or.inl ⟨by kernel_rfl, fun w _ => by go_simp⟩) R12 ?_
    refine wpAnyH_take (i := 29) (v := .bool true) rfl (by kernel_rfl) (by kernel_rfl) (by kernel_rfl) (fun _ _ _ h => h) (Or.inl ⟨by kernel_rfl, fun w _ => by go_simp⟩) R12 ?_
    refine wpAnyH_take (i := 30) (v := .bool true) rfl (by kernel_rfl) (by kernel_rfl) (by kernel_rfl) (fun _ _ _ h => h) (Or.inl ⟨by kernel_rfl, fun w _ => by go_simp⟩) R12 ?_
    refine wpAnyH_take (i := 31) (v := .pointer (some ⟨a.c, 0, none⟩)) rfl (by kernel_rfl) (by kernel_rfl) (by kernel_rfl) (fun _ _ _ h => h) (Or.inl ⟨by kernel_rfl, fun w _ => by go_simp⟩) R12 ?_
    refine wpAnyH_take (i := 32) (v := .int .u8 ((b.toNat : Nat) : Int)) rfl (by kernel_rfl) (by kernel_rfl) (by kernel_rfl) (fun _ _ _ h => h) (Or.inl ⟨by kernel_rfl, fun w _ => by go_simp⟩) R12 ?_
    refine wpAnyH_ready (rs := [33]) (by kernel_rfl) (by simp) (AllReadyH.cons rfl (fun K hK => ?_) AllReadyH.nil)
    go_simp
    ((with_reducible refine (kp _).mono ?_); rintro e w13 ⟨rfl, b13⟩)
    have B13 := Lib.hid (B12.out.trans (b13.mono B12.out.size))
    have H13 := Lib.hid (H12.out.after b13)
    have R13 := R12.after b13
    refine hK.out _ _ R13 (fun _ => ?_)
    clear hK K b13 B12 H12 R12
    have k14 := H13.out.order rfl (onP_fits keep) (by omega) (k := 0) (by omega) (by rw [hYn]; omega) hL (zb := 2) (zk := 0) rfl rfl
    refine wpAnyH_ready (rs := [34]) (by kernel_rfl) (by simp) (AllReadyH.cons rfl (fun K hK => ?_) AllReadyH.nil)
    go_simp
    ((with_reducible refine k14.mono ?_); rintro e w14 ⟨rfl, C14, q14⟩)
    have B14 := Lib.hid (Below.chg B13.out q14 Hf.out (Nat.le_refl _))
    have H14 := Lib.hid C14
    have R14 := R13.chg q14 hgx
    refine hK.out _ _ R14 (fun _ => ?_)
    clear hK K k14 q14 C14 B13 H13 R13
    refine wpAnyH_take (i := 35) (v := .bool true) rfl (by kernel_rfl) (by kernel_rfl) (by kernel_rfl) (fun _ _ _ h => h) (Or.inl ⟨by kernel_rfl, fun w _ => by go_simp⟩) R14 ?_
    refine wpAnyH_take (i := 36) (v := .bool true) rfl (by kernel_rfl) (by kernel_rfl) (by kernel_rfl) (fun _ _ _ h => h) (Or.inl ⟨by kernel_rfl, fun w _ => by go_simp⟩) R14 ?_
    refine wpAnyH_ready (rs := [37]) (by kernel_rfl) (by simp) (AllReadyH.cons rfl (fun K hK => ?_) AllReadyH.nil)
    go_simp
    refine hK.out _ _ R14 (fun _ => ?_)
    clear hK K
    refine wpAnyH_done (by kernel_rfl) ?_ _
    go_wp2_with fail
    go_ret
    exact ⟨rfl, B14.out⟩
  · have hEq : ∀ w, (Op.equalIn 10000 55 (.agg (cl x)) (.agg (cl d))).run Try.prog w = .ok false w := fun w => by
      have := equalIn_pcl hxl hL w
      rwa [decide_eq_false hxd] at this
    have hxf := hxx.out hxd
    have HC0 : Hid (∀ w', PArr w' gx x → w'.cell? ⟨gx, 0, none⟩ = some (.int .u8 255)) := Lib.hid (fun w' h => (h.cell 0).trans (by rw [hxf]; exact ff_cell (by omega)))
    have HC1 : Hid (∀ w', PArr w' gx x → w'.cell? ⟨gx, 100, none⟩ = some (.int .u8 255)) := Lib.hid (fun w' h => (h.cell 100).trans (by rw [hxf]; exact ff_cell (by omega)))
    have HC2 : Hid (∀ w', PArr w' gx x → w'.cell? ⟨gx, 257, none⟩ = some (.int .u8 255)) := Lib.hid (fun w' h => (h.cell 257).trans (by rw [hxf]; exact ff_cell (by omega)))
    clear hxx hxl hxf hxd
    refine wp_region_held_drew (S := fun w' => PArr w' gx x) (by kernel_rfl) R9.drew (fun _ => ?_)
    have R9d := R9.drew
    have H9d := Lib.hid (H9.out.after (Below.refl _ _).drew)
    have B9d := Lib.hid (B9.out.drew)
    refine wpAnyH_take (i := 0) (v := .int .i64 0) rfl (by kernel_rfl) (by kernel_rfl) (by kernel_rfl) (fun _ _ _ h => h) (Or.inl ⟨by kernel_rfl, fun w _ => by go_simp⟩) R9d ?_
    refine wpAnyH_take (i := 1) (v := .bool true) rfl (by kernel_rfl) (by kernel_rfl) (by kernel_rfl) (fun _ _ _ h => h) (Or.inl ⟨by kernel_rfl, fun w _ => by go_simp⟩) R9d ?_
    refine wpAnyH_take (i := 2) (v := .bool true) rfl (by kernel_rfl) (by kernel_rfl) (by kernel_rfl) (fun _ _ _ h => h) (Or.inl ⟨by kernel_rfl, fun w _ => by go_simp⟩) R9d ?_
    refine wpAnyH_take (i := 3) (v := .agg (cl x)) rfl (by kernel_rfl) (by kernel_rfl) (by kernel_rfl) (fun _ _ _ h => h) (yields_pload (g := gx) (.tmp 9) (by kernel_rfl) (by kernel_rfl) (by kernel_rfl) (fun _ h => h)) R9d ?_
    refine wpAnyH_take (i := 4) (v := .int .u8 ((b.toNat : Nat) : Int)) rfl (by kernel_rfl) (by kernel_rfl) (by kernel_rfl) (fun _ _ _ h => h) (Or.inl ⟨by kernel_rfl, fun w _ => by go_simp⟩) R9d ?_
    refine wpAnyH_ready (rs := [5]) (by kernel_rfl) (by simp) (AllReadyH.cons rfl (fun K hK => ?_) AllReadyH.nil)
    go_simp
    ((with_reducible refine (kp _).mono ?_); rintro e w10 ⟨rfl, b10⟩)
    have B10 := Lib.hid (B9d.out.trans (b10.mono B9d.out.size))
    have H10 := Lib.hid (H9d.out.after b10)
    have R10 := R9d.after b10
    refine hK.out _ _ R10 (fun _ => ?_)
    clear hK K b10 B9d H9d R9d
    refine wpAnyH_take (i := 6) (v := .bool false) rfl (by kernel_rfl) (by kernel_rfl) (by kernel_rfl) (fun _ _ _ h => h) (Or.inl ⟨by kernel_rfl, fun w _ => by go_simp⟩) R10 ?_
    refine wpAnyH_take (i := 7) (v := .bool false) rfl (by kernel_rfl) (by kernel_rfl) (by kernel_rfl) (fun _ _ _ h => h) (Or.inl ⟨by kernel_rfl, fun w _ => by go_simp⟩) R10 ?_
    refine wpAnyH_take (i := 8) (v := .pointer (some ⟨gx, 0, none⟩)) rfl (by kernel_rfl) (by kernel_rfl) (by kernel_rfl) (fun _ _ _ h => h) (Or.inl ⟨by kernel_rfl, fun w _ => by go_simp⟩) R10 ?_
    refine wpAnyH_take (i := 9) (v := .int .u8 255) rfl (by kernel_rfl) (by kernel_rfl) (by kernel_rfl) (fun _ _ _ h => h) (yields_one (p := ⟨gx, 0, none⟩) byte_flat (.tmp 61) (by kernel_rfl) (by kernel_rfl) (by kernel_rfl) HC0.out) R10 ?_
    refine wpAnyH_take (i := 10) (v := .bool true) rfl (by kernel_rfl) (by kernel_rfl) (by kernel_rfl) (fun _ _ _ h => h) (Or.inl ⟨by kernel_rfl, fun w _ => by go_simp⟩) R10 ?_
    refine wpAnyH_take (i := 11) (v := .bool true) rfl (by kernel_rfl) (by kernel_rfl) (by kernel_rfl) (fun _ _ _ h => h) (Or.inl ⟨by kernel_rfl, fun w _ => by go_simp⟩) R10 ?_
    refine wpAnyH_take (i := 12) (v := .pointer (some ⟨gx, 100, none⟩)) rfl (by kernel_rfl) (by kernel_rfl) (by kernel_rfl) (fun _ _ _ h => h) (Or.inl ⟨by kernel_rfl, fun w _ => by go_simp⟩) R10 ?_
    refine wpAnyH_take (i := 13) (v := .int .u8 255) rfl (by kernel_rfl) (by kernel_rfl) (by kernel_rfl) (fun _ _ _ h => h) (yields_one (p := ⟨gx, 100, none⟩) byte_flat (.tmp 65) (by kernel_rfl) (by kernel_rfl) (by kernel_rfl) HC1.out) R10 ?_
    refine wpAnyH_take (i := 14) (v := .bool true) rfl (by kernel_rfl) (by kernel_rfl) (by kernel_rfl) (fun _ _ _ h => h) (Or.inl ⟨by kernel_rfl, fun w _ => by go_simp⟩) R10 ?_
    refine wpAnyH_take (i := 15) (v := .bool true) rfl (by kernel_rfl) (by kernel_rfl) (by kernel_rfl) (fun _ _ _ h => h) (Or.inl ⟨by kernel_rfl, fun w _ => by go_simp⟩) R10 ?_
    refine wpAnyH_take (i := 16) (v := .bool true) rfl (by kernel_rfl) (by kernel_rfl) (by kernel_rfl) (fun _ _ _ h => h) (Or.inl ⟨by kernel_rfl, fun w _ => by go_simp⟩) R10 ?_
    refine wpAnyH_take (i := 17) (v := .pointer (some ⟨gx, 257, none⟩)) rfl (by kernel_rfl) (by kernel_rfl) (by kernel_rfl) (fun _ _ _ h => h) (Or.inl ⟨by kernel_rfl, fun w _ => by go_simp⟩) R10 ?_
    refine wpAnyH_take (i := 18) (v := .int .u8 255) rfl (by kernel_rfl) (by kernel_rfl) (by kernel_rfl) (fun _ _ _ h => h) (yields_one (p := ⟨gx, 257, none⟩) byte_flat (.tmp 70) (by kernel_rfl) (by kernel_rfl) (by kernel_rfl) HC2.out) R10 ?_
    refine wpAnyH_take (i := 19) (v := .bool true) rfl (by kernel_rfl) (by kernel_rfl) (by kernel_rfl) (fun _ _ _ h => h) (Or.inl ⟨by kernel_rfl, fun w _ => by go_simp⟩) R10 ?_
    refine wpAnyH_take (i := 20) (v := .bool true) rfl (by kernel_rfl) (by kernel_rfl) (by kernel_rfl) (fun _ _ _ h => h) (Or.inl ⟨by kernel_rfl, fun w _ => by go_simp⟩) R10 ?_
    refine wpAnyH_take (i := 21) (v := .bool true) rfl (by kernel_rfl) (by kernel_rfl) (by kernel_rfl) (fun _ _ _ h => h) (Or.inl ⟨by kernel_rfl, fun w _ => by go_simp⟩) R10 ?_
    refine wpAnyH_take (i := 22) (v := .bool true) rfl (by kernel_rfl) (by kernel_rfl) (by kernel_rfl) (fun _ _ _ h => h) (Or.inl ⟨by kernel_rfl, fun w _ => by go_simp⟩) R10 ?_
    refine wpAnyH_take (i := 23) (v := .bool true) rfl (by kernel_rfl) (by kernel_rfl) (by kernel_rfl) (fun _ _ _ h => h) (Or.inl ⟨by kernel_rfl, fun w _ => by go_simp⟩) R10 ?_
    refine wpAnyH_take (i := 24) (v := .pointer (some ⟨a.c, 0, none⟩)) rfl (by kernel_rfl) (by kernel_rfl) (by kernel_rfl) (fun _ _ _ h => h) (Or.inl ⟨by kernel_rfl, fun w _ => by go_simp⟩) R10 ?_
    refine wpAnyH_take (i := 25) (v := .int .u8 ((b.toNat : Nat) : Int)) rfl (by kernel_rfl) (by kernel_rfl) (by kernel_rfl) (fun _ _ _ h => h) (Or.inl ⟨by kernel_rfl, fun w _ => by go_simp⟩) R10 ?_
    refine wpAnyH_ready (rs := [26]) (by kernel_rfl) (by simp) (AllReadyH.cons rfl (fun K hK => ?_) AllReadyH.nil)
    go_simp
    ((with_reducible refine (kp _).mono ?_); rintro e w11 ⟨rfl, b11⟩)
    have B11 := Lib.hid (B10.out.trans (b11.mono B10.out.size))
    have H11 := Lib.hid (H10.out.after b11)
    have R11 := R10.after b11
    refine hK.out _ _ R11 (fun _ => ?_)
    clear hK K b11 B10 H10 R10
    have k12 := H11.out.order rfl (onP_fits keep) (by omega) (k := 1) (by omega) (by rw [hYn]; omega) hL (zb := 2) (zk := 1) rfl rfl
    refine wpAnyH_ready (rs := [27]) (by kernel_rfl) (by simp) (AllReadyH.cons rfl (fun K hK => ?_) AllReadyH.nil)
    go_simp
    ((with_reducible refine k12.mono ?_); rintro e w12 ⟨rfl, C12, q12⟩)
    have B12 := Lib.hid (Below.chg B11.out q12 Hf.out (Nat.le_refl _))
    have H12 := Lib.hid C12
    have R12 := R11.chg q12 hgx
    refine hK.out _ _ R12 (fun _ => ?_)
    clear hK K k12 q12 C12 B11 H11 R11
    refine wpAnyH_take (i := 28) (v := .bool true) rfl (by kernel_rfl) (by kernel_rfl) (by kernel_rfl) (fun _ _ _ h => h) (Or.inl ⟨by kernel_rfl, fun w _ => by go_simp⟩) R12 ?_
    refine wpAnyH_take (i := 29) (v := .bool true) rfl (by kernel_rfl) (by kernel_rfl) (by kernel_rfl) (fun _ _ _ h => h) (Or.inl ⟨by kernel_rfl, fun w _ => by go_simp⟩) R12 ?_
    refine wpAnyH_take (i := 30) (v := .bool true) rfl (by kernel_rfl) (by kernel_rfl) (by kernel_rfl) (fun _ _ _ h => h) (Or.inl ⟨by kernel_rfl, fun w _ => by go_simp⟩) R12 ?_
    refine wpAnyH_take (i := 31) (v := .pointer (some ⟨a.c, 0, none⟩)) rfl (by kernel_rfl) (by kernel_rfl) (by kernel_rfl) (fun _ _ _ h => h) (Or.inl ⟨by kernel_rfl, fun w _ => by go_simp⟩) R12 ?_
    refine wpAnyH_take (i := 32) (v := .int .u8 ((b.toNat : Nat) : Int)) rfl (by kernel_rfl) (by kernel_rfl) (by kernel_rfl) (fun _ _ _ h => h) (Or.inl ⟨by kernel_rfl, fun w _ => by go_simp⟩) R12 ?_
    refine wpAnyH_ready (rs := [33]) (by kernel_rfl) (by simp) (AllReadyH.cons rfl (fun K hK => ?_) AllReadyH.nil)
    go_simp
    ((with_reducible refine (kp _).mono ?_); rintro e w13 ⟨rfl, b13⟩)
    have B13 := Lib.hid (B12.out.trans (b13.mono B12.out.size))
    have H13 := Lib.hid (H12.out.after b13)
    have R13 := R12.after b13
    refine hK.out _ _ R13 (fun _ => ?_)
    clear hK K b13 B12 H12 R12
    have k14 := H13.out.order rfl (onP_fits keep) (by omega) (k := 0) (by omega) (by rw [hYn]; omega) hL (zb := 2) (zk := 0) rfl rfl
    refine wpAnyH_ready (rs := [34]) (by kernel_rfl) (by simp) (AllReadyH.cons rfl (fun K hK => ?_) AllReadyH.nil)
    go_simp
    ((with_reducible refine k14.mono ?_); rintro e w14 ⟨rfl, C14, q14⟩)
    have B14 := Lib.hid (Below.chg B13.out q14 Hf.out (Nat.le_refl _))
    have H14 := Lib.hid C14
    have R14 := R13.chg q14 hgx
    refine hK.out _ _ R14 (fun _ => ?_)
    clear hK K k14 q14 C14 B13 H13 R13
    refine wpAnyH_take (i := 35) (v := .bool true) rfl (by kernel_rfl) (by kernel_rfl) (by kernel_rfl) (fun _ _ _ h => h) (Or.inl ⟨by kernel_rfl, fun w _ => by go_simp⟩) R14 ?_
    refine wpAnyH_take (i := 36) (v := .bool true) rfl (by kernel_rfl) (by kernel_rfl) (by kernel_rfl) (fun _ _ _ h => h) (Or.inl ⟨by kernel_rfl, fun w _ => by go_simp⟩) R14 ?_
    refine wpAnyH_ready (rs := [37]) (by kernel_rfl) (by simp) (AllReadyH.cons rfl (fun K hK => ?_) AllReadyH.nil)
    go_simp
    refine hK.out _ _ R14 (fun _ => ?_)
    clear hK K
    refine wpAnyH_done (by kernel_rfl) ?_ _
    go_wp2_with fail
    go_ret
    exact ⟨rfl, B14.out⟩
end Go.Proofs.Ytnclefdlmbkjmaa
