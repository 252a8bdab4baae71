/- The walk of HamMends: it answers true, and changes nothing that was there. No condition. -/
import Derived.Test.YtoknobcicpokoaaHamFixes
namespace Go.Proofs.Ytoknobcicpokoaa
open Go.RowKit
theorem mask16 (i : Int) : ∃ p x : Nat, p < 65536 ∧ x < 2061 ∧ bits .and .i64 i 65535 = (p : Int) ∧ (p : Int) % 2061 = (x : Int) := by
  have h := i64_mask i 16 (by omega)
  refine ⟨(i % 65536).toNat, (i % 65536).toNat % 2061, by omega, by omega, ?_, by omega⟩
  rw [show (65535 : Int) = ((2 ^ 16 - 1 : Nat) : Int) from rfl, h]
  omega
theorem eq_self {L : List UInt8} (hL : L.length = 256) (w : World) : (Op.equalIn 10000 23 (.agg (cl L)) (.agg (cl L))).run Try.prog w = .ok true w := by
  rw [equalIn_cl hL hL]
  simp
set_option maxRecDepth 100000 in
set_option maxHeartbeats 8000000 in
theorem mends_main (L : List UInt8) (hL : L.length = 256) (i k : Int) (w : World) : Calls Try.prog 5 #[.agg (cl L), .int .i64 i, .int .i64 k] w fun e w' => e = .returned (.bool true) ∧ Below w.heap.size w w' := by
  have A0 := Lib.hid (Arr.new w hL)
  have z := zeroData
  obtain ⟨p, x, hp, hx, m1, m2⟩ := mask16 i
  obtain ⟨q, y, hq, hy, m3, m4⟩ := mask16 k
  obtain ⟨c, hc⟩ : ∃ c, c = HM.ck L := ⟨_, rfl⟩
  have hc4 : c < 65536 := by have := HM.ck_lt L; omega
  have s0 : HM.syn L c = 0 := hc ▸ HM.ck_syn L
  have p0 : HM.par L c = 0 := hc ▸ HM.ck_par L
  have k1 := check_any L hL
  rw [← hc] at k1
  have k2 := fix_any L hL c hc4
  rw [HM.fix_clean p0 s0] at k2
  have k3 := turned_any L hL c hc4 x hx
  obtain ⟨L1, hL1⟩ : ∃ L1, L1 = HM.tuL L x := ⟨_, rfl⟩
  obtain ⟨C1, hC1⟩ : ∃ C1, C1 = HM.tuC c x := ⟨_, rfl⟩
  have h1L : L1.length = 256 := by rw [hL1, HM.tuL_length, hL]
  have h1C : C1 < 65536 := hC1 ▸ HM.tuC_lt hc4 hx
  have k4 := fix_any L1 h1L C1 h1C
  rw [hL1, hC1, HM.fix_one L c x hL hx p0 s0, ← hL1, ← hC1] at k4
  rw [← hL1, ← hC1] at k3
  have k5 := turned_any L1 h1L C1 h1C y hy
  obtain ⟨L2, hL2⟩ : ∃ L2, L2 = HM.tuL L1 y := ⟨_, rfl⟩
  obtain ⟨C2, hC2⟩ : ∃ C2, C2 = HM.tuC C1 y := ⟨_, rfl⟩
  have h2L : L2.length = 256 := by rw [hL2, HM.tuL_length, h1L]
  have h2C : C2 < 65536 := hC2 ▸ HM.tuC_lt h1C hy
  have k6 := fix_any L2 h2L C2 h2C
  have f6 : HM.fixM L2 C2 = if x = y then (L, 0, 0) else (HM.zeros, 0, 21) := by
    rw [hL2, hC2, hL1, hC1]
    by_cases e : x = y
    · subst e
      rw [if_pos rfl]
      exact HM.fix_same L c x hL hx p0 s0
    · rw [if_neg e]
      exact HM.fix_two L c x y hL hx hy e p0 s0
  rw [← hL2, ← hC2] at k5
  have q1 := eq_self hL
  have q2 := eq_self HM.zeros_length
  simp only at k2 k4
  clear hc s0 p0 hL1 hC1 hL2 hC2
  go_enter Try.func5, Try.ntmps5
  go_wp2_with fail
  ((with_reducible refine (speaks_any _).mono ?_); rintro e w2 ⟨rfl, hb2⟩)
  have hb : Below w.heap.size w w2 := ((Below.refl _ _).alloc (Nat.le_refl _) _).trans (hb2.mono (by simp))
  have A2 := Lib.hid (A0.out.after hb2)
  clear A0 hb2
  go_wp2_with (with_reducible refine wpl_load (.tmp 3) rfl rfl A2.out rfl ?_)
  ((with_reducible refine (k1 _).mono ?_); rintro e w3 ⟨rfl, hb3⟩)
  have hb4 := hb.trans (hb3.mono hb.size)
  have A3 := Lib.hid (A2.out.after hb3)
  clear hb hb3 A2
  go_wp2_with (with_reducible refine wpl_load (.tmp 3) rfl rfl A3.out rfl ?_)
  ((with_reducible refine (k2 _).mono ?_); rintro e w4 ⟨rfl, hb5⟩)
  have hb6 := hb4.trans (hb5.mono hb4.size)
  have A4 := Lib.hid (A3.out.after hb5)
  clear hb4 hb5 A3
  go_wp2_with (first | (with_reducible refine wpl_store (.tmp 10) (.tmp 35) rfl rfl (Arr.new w4 HM.zeros_length) rfl hL rfl ?_; intro w5 R5 g5 e5) | (with_reducible refine wpl_load (.tmp 3) rfl rfl (A4.out.kept_new g5) rfl ?_))
  ((with_reducible refine (k3 _).mono ?_); rintro e w6 ⟨rfl, hb7⟩)
  have hb8 := kept_new hb6 g5
  have hb9 := hb8.trans (hb7.mono hb8.size)
  have A6 := Lib.hid ((A4.out.kept_new g5).after hb7)
  have R6 := Lib.hid (R5.after hb7)
  have e6 : w4.heap.size < w6.heap.size := R6.out.lt
  have ltA : w.heap.size < w6.heap.size := A6.out.lt
  clear hb6 hb7 hb8 g5 e5 R5 A4
  go_wp2_with (first | (with_reducible refine wpl_store (.tmp 13) (.tmp 43) rfl rfl (Arr.new w6 HM.zeros_length) rfl h1L rfl ?_; intro w7 T7 g7 e7) | (with_reducible refine wpl_load (.tmp 13) rfl rfl T7 rfl ?_))
  ((with_reducible refine (k4 _).mono ?_); rintro e w8 ⟨rfl, hb10⟩)
  have hb11 := kept_new hb9 g7
  have hb12 := hb11.trans (hb10.mono hb11.size)
  have A8 := Lib.hid ((A6.out.kept_new g7).after hb10)
  have R8 := Lib.hid ((R6.out.kept_new g7).after hb10)
  have T8 := Lib.hid (T7.after hb10)
  have e8 : w6.heap.size < w8.heap.size := T8.out.lt
  clear hb9 hb10 hb11 g7 e7 R6 A6 T7
  go_wp2_with (first | (with_reducible refine wpl_store (.tmp 15) (.tmp 49) rfl rfl (Arr.new w8 HM.zeros_length) rfl hL rfl ?_; intro w9 U9 g9 e9) | (with_reducible refine wpl_load (.tmp 13) rfl rfl (T8.out.kept_new g9) rfl ?_))
  ((with_reducible refine (k5 _).mono ?_); rintro e w10 ⟨rfl, hb13⟩)
  have hb14 := kept_new hb12 g9
  have hb15 := hb14.trans (hb13.mono hb14.size)
  have A10 := Lib.hid ((A8.out.kept_new g9).after hb13)
  have R10 := Lib.hid ((R8.out.kept_new g9).after hb13)
  have T10 := Lib.hid ((T8.out.kept_new g9).after hb13)
  have U10 := Lib.hid (U9.after hb13)
  clear hb12 hb13 hb14 g9 e9 R8 A8 T8 U9
  go_wp2_with (first | (with_reducible refine wpl_store (.tmp 13) (.tmp 57) rfl rfl T10.out rfl h2L rfl ?_; intro w11 T11 g11 e11) | (with_reducible refine wpl_load (.tmp 13) rfl rfl T11 rfl ?_))
  have hb16 := hb15.grown g11 hb15.size (fun k e => by cases e; omega)
  have A11 := Lib.hid (A10.out.grown g11 (by omega))
  have R11 := Lib.hid (R10.out.grown g11 (by omega))
  have U11 := Lib.hid (U10.out.grown g11 (by omega))
  clear hb15 A10 R10 T10 U10 g11 e11
  by_cases exy : x = y
  · rw [f6, if_pos exy] at k6
    have dxy : ((x : Int) == (y : Int)) = true := by simp; omega
    simp only at k6
    clear f6
    ((with_reducible refine (k6 _).mono ?_); rintro e w12 ⟨rfl, hb17⟩)
    have hb18 := hb16.trans (hb17.mono hb16.size)
    have A12 := Lib.hid (A11.out.after hb17)
    have R12 := Lib.hid (R11.out.after hb17)
    have U12 := Lib.hid (U11.out.after hb17)
    clear hb16 hb17 A11 R11 U11 T11 k1 k2 k3 k4 k5 k6
    go_wp2_with (first | (with_reducible refine wpl_store (.tmp 18) (.tmp 63) rfl rfl (Arr.new w12 HM.zeros_length) rfl hL rfl ?_; intro w13 V13 g13 e13) | (with_reducible refine wpl_load (.tmp 10) rfl rfl (R12.out.kept_new g13) rfl ?_) | (with_reducible refine wpl_load (.tmp 3) rfl rfl (A12.out.kept_new g13) rfl ?_) | (with_reducible refine wpl_load (.tmp 15) rfl rfl (U12.out.kept_new g13) rfl ?_) | (with_reducible refine wpl_load (.tmp 18) rfl rfl V13 rfl ?_))
    go_ret
    exact ⟨rfl, kept_new hb18 g13⟩
  · rw [f6, if_neg exy] at k6
    have dxy : ((x : Int) == (y : Int)) = false := by simp; omega
    simp only at k6
    clear f6
    ((with_reducible refine (k6 _).mono ?_); rintro e w12 ⟨rfl, hb17⟩)
    have hb18 := hb16.trans (hb17.mono hb16.size)
    have A12 := Lib.hid (A11.out.after hb17)
    have R12 := Lib.hid (R11.out.after hb17)
    have U12 := Lib.hid (U11.out.after hb17)
    clear hb16 hb17 A11 R11 U11 T11 k1 k2 k3 k4 k5 k6
    go_wp2_with (first | (with_reducible refine wpl_store (.tmp 18) (.tmp 63) rfl rfl (Arr.new w12 HM.zeros_length) rfl HM.zeros_length rfl ?_; intro w13 V13 g13 e13) | (with_reducible refine wpl_load (.tmp 10) rfl rfl (R12.out.kept_new g13) rfl ?_) | (with_reducible refine wpl_load (.tmp 3) rfl rfl (A12.out.kept_new g13) rfl ?_) | (with_reducible refine wpl_load (.tmp 15) rfl rfl (U12.out.kept_new g13) rfl ?_) | (with_reducible refine wpl_load (.tmp 18) rfl rfl V13 rfl ?_))
    go_ret
    exact ⟨rfl, kept_new hb18 g13⟩
theorem hamMends_any (v : Value) (i k : Int) (w : World) (h : ∃ L : List UInt8, v = .agg (cl L) ∧ L.length = 256) (_ : (Lit.int .i64 i).wf = true) (_ : (Lit.int .i64 k).wf = true) : Calls Try.prog 5 #[v, .int .i64 i, .int .i64 k] w fun e w' => e = .returned (.bool true) ∧ Below w.heap.size w w' := by
  obtain ⟨L, rfl, hL⟩ := h
  exact mends_main L hL i k w
end Go.Proofs.Ytoknobcicpokoaa
