/- The contracts of the counting functions on bits: each answers its number and changes nothing. No condition but the argument's range. -/
import Derived.Test.YtnclefdlmbkjmaaDoorProg
import Derived.Test.YtnclefdlmbkjmaaDoorBase
import Derived.Test.YtnclefdlmbkjmaaDoorHamMath
namespace Go.Proofs.YtnclefdlmbkjmaaDoor
open Go.RowKit

theorem pop8_nat (b : Nat) (hb : b < 256) : Lib.pop8 (b : Int) = ((HM.popT b 8 : Nat) : Int) := by
  have h := Lib.pop8_eq ⟨b, hb⟩
  have e := HM.pop8_is ⟨b, hb⟩
  simp only at h e
  rw [h, e]
theorem ntz8_nat (b : Nat) (hb : b < 256) : Lib.ntz8 (b : Int) = ((Lib.trailingZeros8 b : Nat) : Int) := by
  have h := Lib.ntz8_eq ⟨b, hb⟩
  simp only at h
  rw [h]
theorem wrap_small (n : Nat) (h : n < 1000) : wrap64 (n : Int) = (n : Int) := by
  unfold wrap64
  omega
theorem ones8 (b : Nat) (hb : b < 256) (w : World) : Calls Tryd.prog 22 #[.int .u8 (b : Int)] w fun e w' => e = .returned (.int .i64 ((HM.popT b 8 : Nat) : Int)) ∧ w = w' := by
  have h : wrap64 (Lib.pop8 (b : Int)) = ((HM.popT b 8 : Nat) : Int) := by
    have := HM.popT_le b 8
    rw [pop8_nat b hb, wrap_small _ (by omega)]
  have h0 : (0 : Int) ≤ (b : Int) := by omega
  have h1 : (b : Int) ≤ 255 := by omega
  have H := Lib.hid h
  clear h
  go_enter Tryd.func22, Tryd.ntmps22
  go_wp2
  go_ret
  exact ⟨congrArg Ending.returned (congrArg (Value.int IntKind.i64) H.out), rfl⟩
theorem tz8 (b : Nat) (hb : b < 256) (w : World) : Calls Tryd.prog 41 #[.int .u8 (b : Int)] w fun e w' => e = .returned (.int .i64 ((Lib.trailingZeros8 b : Nat) : Int)) ∧ w = w' := by
  have h : wrap64 (Lib.ntz8 (b : Int)) = ((Lib.trailingZeros8 b : Nat) : Int) := by
    have := Lib.trailingZeros8_le8 ⟨b, hb⟩
    simp only at this
    rw [ntz8_nat b hb, wrap_small _ (by omega)]
  have h0 : (0 : Int) ≤ (b : Int) := by omega
  have h1 : (b : Int) ≤ 255 := by omega
  have H := Lib.hid h
  clear h
  go_enter Tryd.func41, Tryd.ntmps41
  go_wp2
  go_ret
  exact ⟨congrArg Ending.returned (congrArg (Value.int IntKind.i64) H.out), rfl⟩
theorem pop16_int (x : Nat) (hx : x < 65536) : (Lib.pop8 ((x : Int) / 256) + Lib.pop8 ((x : Int) % 256)) % 256 = ((HM.popT x 16 : Nat) : Int) := by
  have h1 := pop8_nat (x / 256) (by omega)
  have h2 := pop8_nat (x % 256) (by omega)
  have h3 := HM.pop16' x
  have h4 := HM.popT_le x 16
  rw [show (x : Int) / 256 = ((x / 256 : Nat) : Int) by omega, show (x : Int) % 256 = ((x % 256 : Nat) : Int) by omega, h1, h2]
  omega
set_option maxHeartbeats 1000000 in
theorem ones16 (x : Nat) (hx : x < 65536) (w : World) : Calls Tryd.prog 32 #[.int .u16 (x : Int)] w fun e w' => e = .returned (.int .i64 ((HM.popT x 16 : Nat) : Int)) ∧ Below w.heap.size w w' := by
  have a1 : bits .and .u16 (x : Int) 255 = ((x % 256 : Nat) : Int) := by
    have := u16_and_nat x 255 hx (by omega)
    rw [show x &&& 255 = x % 256 from Nat.and_two_pow_sub_one_eq_mod x 8] at this
    exact this
  have h0 : (0 : Int) ≤ (x : Int) / 256 := by omega
  have h1 : (x : Int) / 256 ≤ 255 := by omega
  have h2 : (0 : Int) ≤ ((x % 256 : Nat) : Int) := by omega
  have h3 : ((x % 256 : Nat) : Int) ≤ 255 := by omega
  have hp := pop16_int x hx
  have H := Lib.hid hp
  clear hp
  go_enter Tryd.func32, Tryd.ntmps32
  go_wp2
  go_region
  go_wp2
  go_ret
  exact ⟨congrArg Ending.returned (congrArg (Value.int IntKind.i64) H.out), (Below.refl _ _).drew⟩
/-- the k lowest bits of an int -/
theorem i64_mask (n : Int) (k : Nat) (hk : k < 63) : bits .and .i64 n ((2 ^ k - 1 : Nat) : Int) = n % ((2 ^ k : Nat) : Int) := by
  have hp : 2 ^ k ≤ 2 ^ 62 := Nat.pow_le_pow_right (by omega) (by omega)
  have hp0 : 0 < 2 ^ k := Nat.two_pow_pos k
  have h1 : (BitVec.ofInt 64 ((2 ^ k - 1 : Nat) : Int)).toNat = 2 ^ k - 1 := by
    rw [BitVec.ofInt_natCast, BitVec.toNat_ofNat]
    exact Nat.mod_eq_of_lt (by omega)
  have key : (BitVec.ofInt 64 n &&& BitVec.ofInt 64 ((2 ^ k - 1 : Nat) : Int)).toNat = (n % ((2 ^ 64 : Nat) : Int)).toNat % 2 ^ k := by
    rw [BitVec.toNat_and, BitVec.toNat_ofInt, h1, Nat.and_two_pow_sub_one_eq_mod]
  have hm : n % ((2 ^ 64 : Nat) : Int) % ((2 ^ k : Nat) : Int) = n % ((2 ^ k : Nat) : Int) :=
    Int.emod_emod_of_dvd n (Int.ofNat_dvd.2 (Nat.pow_dvd_pow 2 (by omega)))
  have h0 : 0 ≤ n % ((2 ^ 64 : Nat) : Int) := Int.emod_nonneg _ (by decide)
  show IntKind.i64.wrap ((BitVec.ofInt 64 n &&& BitVec.ofInt 64 ((2 ^ k - 1 : Nat) : Int)).toNat : Nat) = n % ((2 ^ k : Nat) : Int)
  rw [key, IntKind.wrap_i64, Int.natCast_emod, Int.toNat_of_nonneg h0, hm]
  have a := Int.emod_nonneg n (show ((2 ^ k : Nat) : Int) ≠ 0 by omega)
  have b := Int.emod_lt_of_pos n (show 0 < ((2 ^ k : Nat) : Int) by omega)
  omega
theorem and1 (n : Int) : bits .and .i64 n 1 = n % 2 := i64_mask n 1 (by omega)
theorem odd_any (n : Nat) (x : Int) (hx : x = (n : Int)) (w : World) : Calls Tryd.prog 31 #[.int .i64 x] w fun e w' => e = .returned (.int .u16 ((n % 2 : Nat) : Int)) ∧ w = w' := by
  subst hx
  have a1 := and1 (n : Int)
  go_enter Tryd.func31, Tryd.ntmps31
  go_wp2
  go_ret
  exact ⟨congrArg Ending.returned (congrArg (Value.int IntKind.u16) (by omega)), rfl⟩
theorem isPlace_any (s : Nat) (hs : s < 4096) (w : World) : Calls Tryd.prog 37 #[.int .u16 (s : Int)] w fun e w' => e = .returned (.bool (!decide (s &&& (s - 1) = 0))) ∧ w = w' := by
  obtain ⟨t, ht, ht2⟩ : ∃ t : Nat, IntKind.u16.wrap ((s : Int) - 1) = (t : Int) ∧ bits .and .u16 (s : Int) (t : Int) = ((s &&& (s - 1) : Nat) : Int) := by
    by_cases h : s = 0
    · subst h
      exact ⟨65535, by decide, by decide⟩
    · refine ⟨s - 1, ?_, u16_and_nat s (s - 1) (by omega) (by omega)⟩
      rw [IntKind.wrap_u16]
      omega
  have hd : (((s &&& (s - 1) : Nat) : Int) != 0) = !decide (s &&& (s - 1) = 0) := by
    by_cases h : s &&& (s - 1) = 0
    · rw [h]; rfl
    · have : ((s &&& (s - 1) : Nat) : Int) ≠ 0 := by omega
      simp [h]
  have H := Lib.hid hd
  clear hd
  go_enter Tryd.func37, Tryd.ntmps37
  go_wp2
  go_ret
  exact ⟨congrArg Ending.returned (congrArg Value.bool H.out), rfl⟩
set_option maxRecDepth 100000 in
set_option maxHeartbeats 4000000 in
theorem len16_int (x : Int) (h0 : 0 ≤ x) (h1 : x ≤ 65535) (w : World) : Calls Tryd.prog 42 #[.int .u16 x] w fun e w' => e = .returned (.int .i64 ((Lib.bitLen x.toNat : Nat) : Int)) ∧ w = w' := by
  by_cases h : x ≤ 255
  · have d0 : decide ((256 : Int) ≤ x) = false := by simp; omega
    have l := Lib.bitLen_le8' x h0 h
    have H := Lib.hid ((congrArg wrap64 (Lib.len8_of x h0 h)).trans (wrap_small _ (by omega)))
    have HL := Lib.hid l
    clear l
    go_enter Tryd.func42, Tryd.ntmps42
    go_wp2
    go_ret
    refine ⟨congrArg Ending.returned (congrArg (Value.int IntKind.i64) ?_), rfl⟩
    have l := HL.out
    rw [H.out, wrap_small _ (by omega)]
  · have d0 : decide ((256 : Int) ≤ x) = true := by simp; omega
    have a0 : 0 ≤ x / 256 := by omega
    have a1 : x / 256 ≤ 255 := by omega
    have l := Lib.bitLen_le8' (x / 256) a0 a1
    have s := Lib.bitLen_shift8 x.toNat (by omega) (by omega)
    have e : (x / 256).toNat = x.toNat / 256 := by omega
    rw [e] at l
    have H := Lib.hid ((congrArg wrap64 (Lib.len8_of (x / 256) a0 a1)).trans (wrap_small _ (by rw [e]; omega)))
    have HS := Lib.hid s
    have HE := Lib.hid e
    have HL := Lib.hid l
    clear s e l
    go_enter Tryd.func42, Tryd.ntmps42
    go_wp2
    go_ret
    refine ⟨congrArg Ending.returned (congrArg (Value.int IntKind.i64) ?_), rfl⟩
    have l := HL.out
    rw [H.out, HE.out, HS.out, show (8 : Int) + ((Lib.bitLen (x.toNat / 256) : Nat) : Int) = ((8 + Lib.bitLen (x.toNat / 256) : Nat) : Int) by omega, wrap_small _ (by omega)]
theorem len16 (s : Nat) (hs : s < 65536) (w : World) : Calls Tryd.prog 42 #[.int .u16 (s : Int)] w fun e w' => e = .returned (.int .i64 ((Lib.bitLen s : Nat) : Int)) ∧ w = w' := by
  have := len16_int (s : Int) (by omega) (by omega) w
  rwa [Int.toNat_natCast] at this
set_option maxRecDepth 100000 in
set_option maxHeartbeats 4000000 in
theorem len64_int (x : Int) (h0 : 0 ≤ x) (h1 : x ≤ 65535) (w : World) : Calls Tryd.prog 45 #[.int .u64 x] w fun e w' => e = .returned (.int .i64 ((Lib.bitLen x.toNat : Nat) : Int)) ∧ w = w' := by
  have d1 : decide ((4294967296 : Int) ≤ x) = false := by simp; omega
  have d2 : decide ((65536 : Int) ≤ x) = false := by simp; omega
  by_cases h : x ≤ 255
  · have d0 : decide ((256 : Int) ≤ x) = false := by simp; omega
    have l := Lib.bitLen_le8' x h0 h
    have H := Lib.hid ((congrArg wrap64 (Lib.len8_of x h0 h)).trans (wrap_small _ (by omega)))
    have HL := Lib.hid l
    clear l
    go_enter Tryd.func45, Tryd.ntmps45
    go_wp2
    go_ret
    refine ⟨congrArg Ending.returned (congrArg (Value.int IntKind.i64) ?_), rfl⟩
    have l := HL.out
    rw [H.out, wrap_small _ (by omega)]
  · have d0 : decide ((256 : Int) ≤ x) = true := by simp; omega
    have a0 : 0 ≤ x / 256 := by omega
    have a1 : x / 256 ≤ 255 := by omega
    have l := Lib.bitLen_le8' (x / 256) a0 a1
    have s := Lib.bitLen_shift8 x.toNat (by omega) (by omega)
    have e : (x / 256).toNat = x.toNat / 256 := by omega
    rw [e] at l
    have H := Lib.hid ((congrArg wrap64 (Lib.len8_of (x / 256) a0 a1)).trans (wrap_small _ (by rw [e]; omega)))
    have HS := Lib.hid s
    have HE := Lib.hid e
    have HL := Lib.hid l
    clear s e l
    go_enter Tryd.func45, Tryd.ntmps45
    go_wp2
    go_ret
    refine ⟨congrArg Ending.returned (congrArg (Value.int IntKind.i64) ?_), rfl⟩
    have l := HL.out
    rw [H.out, HE.out, HS.out, show (8 : Int) + ((Lib.bitLen (x.toNat / 256) : Nat) : Int) = ((8 + Lib.bitLen (x.toNat / 256) : Nat) : Int) by omega, wrap_small _ (by omega)]
theorem len64 (s : Nat) (hs : s < 65536) (w : World) : Calls Tryd.prog 45 #[.int .u64 (s : Int)] w fun e w' => e = .returned (.int .i64 ((Lib.bitLen s : Nat) : Int)) ∧ w = w' := by
  have := len64_int (s : Int) (by omega) (by omega) w
  rwa [Int.toNat_natCast] at this
theorem len_any (s : Nat) (hs : s < 65536) (x : Int) (hx : x = (s : Int)) (w : World) : Calls Tryd.prog 43 #[.int .u64 x] w fun e w' => e = .returned (.int .i64 ((Lib.bitLen s : Nat) : Int)) ∧ w = w' := by
  subst hx
  go_enter Tryd.func43, Tryd.ntmps43
  go_wp2_with fail
  ((with_reducible refine (len64 s hs _).mono ?_); rintro e w' ⟨rfl, rfl⟩)
  go_wp2
  go_ret
  exact ⟨rfl, rfl⟩
theorem bitAt_any (s : Nat) (hs : s < 65536) (h1 : Lib.bitLen s + 1 ≤ s) (w : World) : Calls Tryd.prog 38 #[.int .u16 (s : Int)] w fun e w' => e = .returned (.int .i64 ((s - Lib.bitLen s - 1 : Nat) : Int)) ∧ w = w' := by
  go_enter Tryd.func38, Tryd.ntmps38
  go_wp2_with fail
  ((with_reducible refine (len16 s hs _).mono ?_); rintro e w' ⟨rfl, rfl⟩)
  go_wp2
  go_ret
  exact ⟨congrArg Ending.returned (congrArg (Value.int IntKind.i64) (by omega)), rfl⟩
theorem placeOf_any (i : Nat) (hi : i < 2048) (x : Int) (hx : x = (i : Int)) (w : World) : Calls Tryd.prog 40 #[.int .i64 x] w fun e w' => e = .returned (.int .u16 ((HM.pl i : Nat) : Int)) ∧ w = w' := by
  subst hx
  have hl1 := Lib.bitLen_le (i + 1) 12 (by omega) (by omega)
  have hl2 := Lib.bitLen_le (i + 1 + Lib.bitLen (i + 1)) 12 (by omega) (by omega)
  obtain ⟨p, hp⟩ : ∃ p, p = HM.pl i := ⟨_, rfl⟩
  have hp2 : p = i + 1 + Lib.bitLen (i + 1 + Lib.bitLen (i + 1)) := hp
  obtain ⟨m, hm⟩ : ∃ m, m = Lib.bitLen (i + 1) := ⟨_, rfl⟩
  rw [← hm] at hl1 hl2 hp2
  obtain ⟨k, hk⟩ : ∃ k, k = Lib.bitLen (i + 1 + m) := ⟨_, rfl⟩
  rw [← hk] at hl2 hp2
  rw [← hp]
  have HM := Lib.hid hm
  have HK := Lib.hid hk
  clear hm hk hp
  go_enter Tryd.func40, Tryd.ntmps40
  go_wp2_with fail
  ((with_reducible refine (len_any (i + 1) (by omega) _ (by omega) _).mono ?_); rintro e w' ⟨rfl, rfl⟩)
  rw [← HM.out]
  go_wp2_with fail
  ((with_reducible refine (len_any (i + 1 + m) (by omega) _ (by omega) _).mono ?_); rintro e w' ⟨rfl, rfl⟩)
  rw [← HK.out]
  go_wp2
  go_ret
  exact ⟨congrArg Ending.returned (congrArg (Value.int IntKind.u16) (by omega)), rfl⟩
theorem power_any (n : Nat) (hn : n < 65536) (x : Int) (hx : x = (n : Int)) (w : World) : Calls Tryd.prog 34 #[.int .i64 x] w fun e w' => e = .returned (.bool (HM.pw n)) ∧ w = w' := by
  subst hx
  go_enter Tryd.func34, Tryd.ntmps34
  go_wp2
  go_loop [3] (fun i => ∃ m : Nat, i = .int .i64 m ∧ m < 65536 ∧ HM.pw m = HM.pw n) (fun i => (intOf i).toNat)
  case atStart => exact ⟨n, rfl, hn, rfl⟩
  case round =>
    obtain ⟨m, rfl, hm, hp⟩ := hrel
    by_cases h : 1 < m ∧ m % 2 = 0
    · have e := HM.pw_step h.1 h.2 (by omega)
      have d1 : decide ((1 : Int) < (m : Int)) = true := by simp; omega
      have d2 : ((m : Int) % 2 == 0) = true := by simp; omega
      have H := Lib.hid hp
      have E := Lib.hid e
      clear hp e
      go_wp2
      go_round
      case rel => exact ⟨m / 2, by go_num, by omega, by rw [← E.out, H.out]⟩
      case measure => simp [intOf]; omega
    · have e := HM.pw_stop h
      have e2 : (m == 1) = ((m : Int) == 1) := by
        rw [Bool.eq_iff_iff]
        simp only [beq_iff_eq]
        omega
      rw [e2] at e
      have H := Lib.hid (hp.symm.trans e)
      clear hp e e2
      go_wp2
      all_goals (go_ret; exact ⟨congrArg Ending.returned (congrArg Value.bool H.out.symm), rfl⟩)
end Go.Proofs.YtnclefdlmbkjmaaDoor
