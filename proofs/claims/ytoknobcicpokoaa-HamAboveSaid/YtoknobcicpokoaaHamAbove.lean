/- The walk of HamAbove: it answers true, and changes nothing that was there. No condition. -/
import Derived.Test.YtoknobcicpokoaaHamFixes
namespace Go.Proofs.Ytoknobcicpokoaa
open Go.RowKit
theorem above_mod (c a : Nat) : (c ^^^ (a &&& 57344)) % 8192 = c % 8192 := by
  rw [show (8192 : Nat) = 2 ^ 13 from rfl, Nat.xor_mod_two_pow, Nat.and_mod_two_pow, show 57344 % 2 ^ 13 = 0 from rfl, Nat.and_zero, Nat.xor_zero]
set_option maxRecDepth 100000 in
set_option maxHeartbeats 4000000 in
theorem above_main (L : List UInt8) (hL : L.length = 256) (c : Nat) (hc : c < 65536) (a : Nat) (ha : a < 65536) (w : World) : Calls Try.prog 6 #[.agg (cl L), .int .u16 (c : Int), .int .u16 (a : Int)] w fun e w' => e = .returned (.bool true) ∧ Below w.heap.size w w' := by
  have A0 := Lib.hid (Arr.new w hL)
  have z := zeroData
  have b1 := u16_and_nat a 57344 ha (by omega)
  obtain ⟨m, hm⟩ : ∃ m, m = a &&& 57344 := ⟨_, rfl⟩
  have hm4 : m < 65536 := by have : a &&& 57344 ≤ 57344 := Nat.and_le_right; omega
  rw [← hm] at b1
  have b2 := u16_xor_nat c m hc hm4
  obtain ⟨x, hx⟩ : ∃ x, x = c ^^^ m := ⟨_, rfl⟩
  have hx4 : x < 65536 := hx ▸ Nat.xor_lt_two_pow (n := 16) hc hm4
  rw [← hx] at b2
  have hmod : HM.fixM L x = HM.fixM L c := by rw [← HM.fix_mod L x, ← HM.fix_mod L c, hx, hm, above_mod]
  have b1' : bits .and .u16 (a : Int) 57344 = (m : Int) := b1
  obtain ⟨D, hD⟩ : ∃ D, D = (HM.fixM L c).1 := ⟨_, rfl⟩
  obtain ⟨n, hn⟩ : ∃ n, n = (HM.fixM L c).2.1 := ⟨_, rfl⟩
  obtain ⟨e, he⟩ : ∃ e, e = (HM.fixM L c).2.2 := ⟨_, rfl⟩
  have hDL : D.length = 256 := hD ▸ HM.fixM_length L c hL
  have c1 := fix_any L hL c hc
  have c2 := fix_any L hL x hx4
  rw [hmod] at c2
  rw [← hD, ← hn, ← he] at c1 c2
  obtain ⟨y, hy⟩ : ∃ y, y = HM.ck L := ⟨_, rfl⟩
  have hy2 : y < 8192 := hy ▸ HM.ck_lt L
  have c3 := check_any L hL
  rw [← hy] at c3
  have heq : ∀ w, (Op.equalIn 10000 23 (.agg (cl D)) (.agg (cl D))).run Try.prog w = .ok true w := fun w => by
    rw [equalIn_cl hDL hDL]
    simp
  have d1 : ((n : Int) == (n : Int)) = true := by simp
  have d2 : ((e : Int) == (e : Int)) = true := by simp
  have d3 : decide ((y : Int) < 8192) = true := by simp; omega
  clear hD hn he hm hx hmod hy b1
  go_enter Try.func6, Try.ntmps6
  go_wp2_with fail
  ((with_reducible refine (speaks_any _).mono ?_); rintro e w2 ⟨rfl, hb2⟩)
  have hb : Below w.heap.size w w2 := ((Below.refl _ _).alloc (Nat.le_refl _) _).trans (hb2.mono (by simp))
  have A2 := Lib.hid (A0.out.after hb2)
  clear A0 hb2
  go_wp2_with (with_reducible refine wpl_load (.tmp 3) rfl rfl A2.out rfl ?_)
  ((with_reducible refine (c1 _).mono ?_); rintro e w3 ⟨rfl, hb3⟩)
  have hb4 := hb.trans (hb3.mono hb.size)
  have A3 := Lib.hid (A2.out.after hb3)
  clear hb hb3 A2
  go_wp2_with (first | (with_reducible refine wpl_store (.tmp 7) (.tmp 19) rfl rfl (Arr.new w3 HM.zeros_length) rfl hDL rfl ?_; intro w4 R4 g4 e4) | (with_reducible refine wpl_load (.tmp 3) rfl rfl (A3.out.kept_new g4) rfl ?_))
  ((with_reducible refine (c2 _).mono ?_); rintro e w5 ⟨rfl, hb6⟩)
  have hb7 := kept_new hb4 g4
  have hb8 := hb7.trans (hb6.mono hb7.size)
  have R5 := Lib.hid (R4.after hb6)
  have A5 := Lib.hid ((A3.out.kept_new g4).after hb6)
  clear hb4 g4 e4 hb6 hb7 R4 A3
  go_wp2_with (first | (with_reducible refine wpl_store (.tmp 10) (.tmp 29) rfl rfl (Arr.new w5 HM.zeros_length) rfl hDL rfl ?_; intro w6 R6 g6 e6) | (with_reducible refine wpl_load (.tmp 7) rfl rfl (R5.out.kept_new g6) rfl ?_) | (with_reducible refine wpl_load (.tmp 10) rfl rfl R6 rfl ?_) | (with_reducible refine wpl_load (.tmp 3) rfl rfl (A5.out.kept_new g6) rfl ?_))
  ((with_reducible refine (c3 _).mono ?_); rintro e w7 ⟨rfl, hb9⟩)
  have hb10 := kept_new hb8 g6
  go_wp2
  go_ret
  exact ⟨rfl, hb10.trans (hb9.mono hb10.size)⟩
theorem hamAbove_any (v : Value) (c a : Int) (w : World) (h : ∃ L : List UInt8, v = .agg (cl L) ∧ L.length = 256) (h1 : (Lit.int .u16 c).wf = true) (h2 : (Lit.int .u16 a).wf = true) : Calls Try.prog 6 #[v, .int .u16 c, .int .u16 a] w fun e w' => e = .returned (.bool true) ∧ Below w.heap.size w w' := by
  obtain ⟨L, rfl, hL⟩ := h
  obtain ⟨n, rfl, hn⟩ := u16_of_wf h1
  obtain ⟨m, rfl, hm⟩ := u16_of_wf h2
  exact above_main L hL n hn m hm w
end Go.Proofs.Ytoknobcicpokoaa
