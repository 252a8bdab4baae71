/- The contract of Fix: what mending answers; nothing that was there is changed. No condition but the array's length. -/
import Derived.Test.YtnclefdlmbkjmaaDoorHamCheck
namespace Go.Proofs.YtnclefdlmbkjmaaDoor
open Go.RowKit
theorem flip_byte {b i : Nat} {L : List UInt8} (hb : b < 256) (HB : b = (L.getD (i / 8) 0).toNat) : ∃ m : UInt8, bits .xor .u8 (b : Int) (2 ^ (i % 8) % 256) = ((m.toNat : Nat) : Int) ∧ Hid (L.set (i / 8) m = HM.fl L i) := by
  refine ⟨(L.getD (i / 8) 0) ^^^ UInt8.ofNat (2 ^ (i % 8)), ?_, Lib.hid rfl⟩
  have h8 : 2 ^ (i % 8) < 2 ^ 8 := Nat.pow_lt_pow_right (by omega) (by omega)
  have h := u8_xor_nat b (2 ^ (i % 8)) hb h8
  have e : ((2 : Int) ^ (i % 8) % 256) = ((2 ^ (i % 8) : Nat) : Int) := by
    have : ((2 : Int) ^ (i % 8)) = ((2 ^ (i % 8) : Nat) : Int) := by push_cast; rfl
    rw [this]
    exact Int.emod_eq_of_lt (Int.natCast_nonneg _) (Int.ofNat_lt.2 h8)
  rw [e, h, UInt8.toNat_xor, HM.ofNat_pow _ (by omega), ← HB]
set_option maxRecDepth 100000 in
set_option maxHeartbeats 4000000 in
theorem fix_any (L : List UInt8) (hL : L.length = 256) (c : Nat) (hc : c < 65536) (w : World) : Calls Tryd.prog 25 #[.agg (cl L), .int .u16 (c : Int)] w fun e w' => e = .returned (.tuple #[.agg (cl (HM.fixM L c).1), .int .i64 (((HM.fixM L c).2.1 : Nat) : Int), .int .i64 (((HM.fixM L c).2.2 : Nat) : Int)]) ∧ Below w.heap.size w w' := by
  have A0 := Lib.hid ((Arr.new w hL).alloc (.cells (cl HM.zeros) 45))
  have R0 := Lib.hid (Arr.new (w.alloc (.cells (cl L) 45)) (L := HM.zeros) List.length_replicate)
  rw [World.size_alloc] at R0
  have z := zeroData
  obtain ⟨s, hs⟩ : ∃ s, s = HM.S L 2048 := ⟨_, rfl⟩
  obtain ⟨n, hn⟩ : ∃ n, n = HM.N L 2048 := ⟨_, rfl⟩
  obtain ⟨c', hc'⟩ : ∃ c', c' = c % 8192 := ⟨_, rfl⟩
  obtain ⟨x, hx⟩ : ∃ x, x = s ^^^ c' := ⟨_, rfl⟩
  obtain ⟨d, hd⟩ : ∃ d, d = x % 4096 := ⟨_, rfl⟩
  obtain ⟨y, hy⟩ : ∃ y, y = HM.popT c' 16 := ⟨_, rfl⟩
  obtain ⟨q, hq⟩ : ∃ q, q = (n + y) % 2 := ⟨_, rfl⟩
  have hs4 : s < 4096 := hs ▸ HM.S_lt L _ (by omega)
  have hn4 : n ≤ 2048 := hn ▸ HM.N_le L _
  have hc4 : c' < 8192 := by omega
  have hx4 : x < 8192 := hx ▸ Nat.xor_lt_two_pow (n := 13) (by omega) (by omega)
  have hd4 : d < 4096 := by omega
  have hy4 : y ≤ 16 := hy ▸ HM.popT_le c' 16
  have hdd : d = HM.syn L c := by
    unfold HM.syn
    rw [hd, hx, hs, hc', show (4096 : Nat) = 2 ^ 12 from rfl, Nat.xor_mod_two_pow, Nat.xor_mod_two_pow (b := c), show c % 8192 % 2 ^ 12 = c % 2 ^ 12 by omega]
  have hqq : q = HM.par L c := by
    unfold HM.par
    rw [hq, hn, hy, hc', HM.popT_big (c % 8192) 13 (by omega) 3, show c % 8192 = c % 2 ^ 13 from rfl, HM.popT_mod c 13 13 (by omega)]
  have a1 := u16_and_nat c 8191 hc (by omega)
  rw [show c &&& 8191 = c % 8192 from Nat.and_two_pow_sub_one_eq_mod c 13, ← hc'] at a1
  have a2 := u16_xor_nat s c' (by omega) (by omega)
  rw [← hx] at a2
  have a3 := u16_and_nat x 4095 (by omega) (by omega)
  rw [show x &&& 4095 = x % 4096 from Nat.and_two_pow_sub_one_eq_mod x 12, ← hd] at a3
  have c1 := sums_any L hL
  rw [← hs, ← hn] at c1
  have c2 := ones16 c' (by omega)
  rw [← hy] at c2
  have c3 := odd_any (n + y)
  rw [← hq] at c3
  have hq2 : q = 0 ∨ q = 1 := by omega
  have a1' : bits .and .u16 (c : Int) 8191 = (c' : Int) := a1
  have a3' : bits .and .u16 (x : Int) 4095 = (d : Int) := a3
  have HD := Lib.hid hdd
  have HQ := Lib.hid hqq
  clear hs hn hc' hx hd hy hq a1 a3 hdd hqq
  go_enter Tryd.func25, Tryd.ntmps25
  go_wp2_with (with_reducible refine wpl_load (.tmp 2) rfl rfl A0.out rfl ?_)
  ((with_reducible refine (c1 _).mono ?_); rintro e w2 ⟨rfl, hb1⟩)
  have hb2 : Below w.heap.size w w2 := (((Below.refl _ _).alloc (Nat.le_refl _) _).alloc (by simp) _).trans (hb1.mono (by simp; omega))
  have A2 := Lib.hid (A0.out.after hb1)
  have R2 := Lib.hid (R0.out.after hb1)
  clear hb1 A0 R0
  go_wp2_with fail
  ((with_reducible refine (c2 _).mono ?_); rintro e w3 ⟨rfl, hb3⟩)
  have hb4 := hb2.trans (hb3.mono hb2.size)
  have A3 := Lib.hid (A2.out.after hb3)
  have R3 := Lib.hid (R2.out.after hb3)
  clear hb2 hb3 A2 R2
  go_wp2_with fail
  ((with_reducible refine (c3 _ (by omega) _).mono ?_); rintro e w' ⟨rfl, rfl⟩)
  have hgrow : ∀ {w4 : World}, w3.grownBy w4 (some (w.heap.size + 1)) → Below w.heap.size w w4 := fun hg => hb4.grown hg hb4.size (fun k e => by cases e; omega)
  rcases hq2 with rfl | rfl
  · by_cases h0 : d = 0
    · subst h0
      have HF := Lib.hid (HM.fix_clean HQ.out.symm HD.out.symm)
      go_wp2_with (first | (with_reducible refine wpl_load (.tmp 2) rfl rfl A3.out rfl ?_) | (with_reducible refine wpl_store (.tmp 4) (.tmp 36) rfl rfl R3.out rfl hL rfl ?_; intro w4 R4 g4 e4))
      refine bodyPost_ret (ret3 rfl _ R4 rfl) rfl ?_
      rw [HF.out]
      exact ⟨rfl, hgrow g4⟩
    · have HF := Lib.hid (HM.fix_bad HQ.out.symm (fun e => h0 (HD.out.trans e)))
      have d1 : ((d : Int) == 0) = false := by simp; omega
      go_wp2_with (with_reducible refine wpl_store (.tmp 4) (.tmp 63) rfl rfl R3.out rfl HM.zeros_length rfl ?_; intro w4 R4 g4 e4)
      refine bodyPost_ret (ret3 rfl _ R4 rfl) rfl ?_
      rw [HF.out]
      exact ⟨rfl, hgrow g4⟩
  · have c4 := isPlace_any d hd4
    have HP := Lib.hid (HM.fix_odd_is L c (HQ.out.symm))
    rw [← HD.out] at HP
    by_cases h1 : d &&& (d - 1) = 0
    · have HF := Lib.hid (HP.out.1 h1)
      rw [decide_eq_true h1] at c4
      clear h1
      go_wp2_with fail
      ((with_reducible refine (c4 _).mono ?_); rintro e w' ⟨rfl, rfl⟩)
      go_wp2_with (first | (with_reducible refine wpl_load (.tmp 2) rfl rfl A3.out rfl ?_) | (with_reducible refine wpl_store (.tmp 4) (.tmp 44) rfl rfl R3.out rfl hL rfl ?_; intro w4 R4 g4 e4))
      refine bodyPost_ret (ret3 rfl _ R4 rfl) rfl ?_
      rw [HF.out]
      exact ⟨rfl, hgrow g4⟩
    · rw [decide_eq_false h1] at c4
      by_cases h2 : d ≤ 2060
      · have HF := Lib.hid (HP.out.2.1 h1 h2)
        have f := HM.of_pl ⟨d, by omega⟩ h1
        simp only at f
        have c5 := bitAt_any d (by omega) f.2.2
        have hi := f.2.1
        obtain ⟨i, hi'⟩ : ∃ i, i = d - Lib.bitLen d - 1 := ⟨_, rfl⟩
        rw [← hi'] at c5 hi HF
        have d2 : decide ((d : Int) ≤ 2060) = true := by simp; omega
        clear h1 f hi'
        go_wp2_with fail
        ((with_reducible refine (c4 _).mono ?_); rintro e w' ⟨rfl, rfl⟩)
        go_wp2_with fail
        ((with_reducible refine (c5 _).mono ?_); rintro e w' ⟨rfl, rfl⟩)
        obtain ⟨b, hb, hcl, HB⟩ := byte_at L hL (k := i / 8) (by omega)
        have hcell := (A3.out.cell (i / 8)).trans hcl
        have hfree := A3.out.free (i / 8)
        obtain ⟨m, hm, HM'⟩ := flip_byte hb HB.out
        clear hcl c1 c2 c3 c4 c5 a1' a2 a3' z
        go_wp2_with fail
        go_region
        clear hm hcell hfree
        have A5 := Lib.hid ((A3.out.set (i / 8) m).drew)
        have R5 := Lib.hid (R3.out.grown (grown_setCell w3 w.heap.size (i / 8) (.int .u8 ((m.toNat : Nat) : Int))) (by omega))
        have hb5 := (hb4.setCell (p := ⟨w.heap.size, i / 8, none⟩) (Nat.le_refl _) (.int .u8 ((m.toNat : Nat) : Int))).drew
        rw [HM'.out] at A5
        obtain ⟨w5, h5⟩ : ∃ w5, w5 = (w3.setCell ⟨w.heap.size, i / 8, none⟩ (.int .u8 ((m.toNat : Nat) : Int))).drew := ⟨_, rfl⟩
        rw [← h5] at A5 R5 hb5 ⊢
        clear h5
        go_wp2_with (first | (with_reducible refine wpl_load (.tmp 2) rfl rfl A5.out rfl ?_) | (with_reducible refine wpl_store (.tmp 4) (.tmp 62) rfl rfl R5.out rfl (by rw [HM.fl_length, hL]) rfl ?_; intro w4 R4 g4 e4))
        refine bodyPost_ret (ret3 rfl _ R4 rfl) rfl ?_
        rw [HF.out]
        exact ⟨rfl, hb5.grown g4 hb5.size (fun k e => by cases e; omega)⟩
      · have HF := Lib.hid (HP.out.2.2 h1 h2)
        have d2 : decide ((d : Int) ≤ 2060) = false := by simp; omega
        clear h1
        go_wp2_with fail
        ((with_reducible refine (c4 _).mono ?_); rintro e w' ⟨rfl, rfl⟩)
        go_wp2_with (with_reducible refine wpl_store (.tmp 4) (.tmp 63) rfl rfl R3.out rfl HM.zeros_length rfl ?_; intro w4 R4 g4 e4)
        refine bodyPost_ret (ret3 rfl _ R4 rfl) rfl ?_
        rw [HF.out]
        exact ⟨rfl, hgrow g4⟩
end Go.Proofs.YtnclefdlmbkjmaaDoor
