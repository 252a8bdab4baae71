/- The contract of sums: the sum of the places, and how many bits are 1; nothing that was there is changed. -/
import Derived.Test.YtnclefdlmbkjmaaDoorHamBit
namespace Go.Proofs.YtnclefdlmbkjmaaDoor
open Go.RowKit
set_option maxRecDepth 100000 in
set_option maxHeartbeats 2000000 in
theorem sums_any (L : List UInt8) (hL : L.length = 256) (w : World) : Calls Tryd.prog 30 #[.agg (cl L)] w fun e w' => e = .returned (.tuple #[.int .u16 ((HM.S L 2048 : Nat) : Int), .int .i64 ((HM.N L 2048 : Nat) : Int)]) ∧ Below w.heap.size w w' := by
  have A0 := Lib.hid (Arr.new w hL)
  go_enter Tryd.func30, Tryd.ntmps30
  go_wp2_with (with_reducible refine wpl_load (.tmp 1) rfl rfl A0.out rfl ?_)
  go_loop [2, 3, 7] (fun p n i => ∃ k : Nat, k ≤ 256 ∧ i = .int .i64 k ∧ p = .int .u16 ((HM.S L (8 * k) : Nat) : Int) ∧ n = .int .i64 ((HM.N L (8 * k) : Nat) : Int)) (fun _ _ i => 256 - (intOf i).toNat)
  case atStart => exact ⟨0, by omega, rfl, rfl, rfl⟩
  case round =>
    obtain ⟨k, hk, rfl, rfl, rfl⟩ := hrel
    by_cases hlt : k < 256
    · obtain ⟨b, hb, hc, HB⟩ := byte_at L hL hlt
      have hix := index_at hlt hc
      obtain ⟨P, hP⟩ : ∃ P, P = HM.S L (8 * k) := ⟨_, rfl⟩
      obtain ⟨M, hM⟩ : ∃ M, M = HM.N L (8 * k) := ⟨_, rfl⟩
      obtain ⟨z, hz⟩ : ∃ z, z = HM.popT b 8 := ⟨_, rfl⟩
      obtain ⟨T, hT⟩ : ∃ T, T = HM.S L (8 * (k + 1)) := ⟨_, rfl⟩
      have hz8 : z ≤ 8 := hz ▸ HM.popT_le b 8
      have hP2 : P < 4096 := hP ▸ HM.S_lt L _ (by omega)
      have hM2 : M ≤ 2048 := by have := HM.N_le L (8 * k); omega
      have HM1 : Hid (M + z = HM.N L (8 * (k + 1))) := Lib.hid (by rw [hM, hz, HB.out]; exact (HM.N_byte L k 8 (by omega)).symm)
      have HT1 : Hid (P ^^^ HM.Xn (fun j => HM.pl (8 * k + j)) b 8 = T) := Lib.hid (by rw [hP, HB.out, hT]; exact (HM.S_byte L k 8 (by omega)).symm)
      rw [← hP, ← hM]
      have HZ := Lib.hid hz
      have HT := Lib.hid hT
      clear hP hM hz hT
      have o8 := ones8 b hb
      rw [← HZ.out] at o8
      clear A0
      go_wp2_with fail
      ((with_reducible refine (o8 _).mono ?_); rintro e w' ⟨rfl, rfl⟩)
      go_wp2
      go_loop [2, 5] (fun p c => ∃ c' q : Nat, c' < 256 ∧ c = .int .u8 c' ∧ p = .int .u16 q ∧ q < 4096 ∧ q ^^^ HM.Xn (fun j => HM.pl (8 * k + j)) c' 8 = T) (fun _ c => (intOf c).toNat)
      case atStart => exact ⟨b, P, hb, rfl, rfl, hP2, HT1.out⟩
      case round =>
        obtain ⟨c, q, hc2, rfl, rfl, hq, hX⟩ := hrel
        by_cases h0 : c = 0
        · subst h0
          rw [HM.X_zero, Nat.xor_zero] at hX
          have HX := Lib.hid hX
          clear hX
          go_wp2
          go_round
          case rel => exact ⟨k + 1, by omega, by go_num, by rw [HX.out, HT.out], by rw [← HM1.out]; go_num⟩
          case measure => simp [intOf]; omega
        · have tf := HM.tz_facts ⟨c, hc2⟩ h0
          have xs := HM.X_step (fun j => HM.pl (8 * k + j)) c h0 hc2
          simp only at tf xs
          have hle : c &&& (c - 1) ≤ c - 1 := Nat.and_le_right
          obtain ⟨t, ht⟩ : ∃ t, t = Lib.trailingZeros8 c := ⟨_, rfl⟩
          rw [← ht] at tf xs
          obtain ⟨p, hp⟩ : ∃ p, p = HM.pl (8 * k + t) := ⟨_, rfl⟩
          rw [← hp] at xs
          have ht8 : t < 8 := tf.1.1
          have hp4 : p < 4096 := hp ▸ HM.pl_lt (by omega)
          have hxor := u16_xor_nat q p (by omega) (by omega)
          have hand := u8_and_nat c (c - 1) (by omega) (by omega)
          rw [show ((c - 1 : Nat) : Int) = (c : Int) - 1 by omega] at hand
          obtain ⟨c2, hc2'⟩ : ∃ c2, c2 = c &&& (c - 1) := ⟨_, rfl⟩
          obtain ⟨r, hr⟩ : ∃ r, r = q ^^^ p := ⟨_, rfl⟩
          have hr4 : r < 4096 := hr ▸ Nat.xor_lt_two_pow (n := 12) hq hp4
          rw [← hc2'] at hand hle xs
          rw [← hr] at hxor
          have HX : Hid (r ^^^ HM.Xn (fun j => HM.pl (8 * k + j)) c2 8 = T) := Lib.hid (by rw [hr, Nat.xor_assoc, ← xs]; exact hX)
          have o9 := tz8 c hc2
          rw [← ht] at o9
          have o10 := placeOf_any (8 * k + t) (by omega)
          rw [← hp] at o10
          have hn : ((c : Int) != 0) = true := by simp; omega
          have hpos : 1 ≤ c := by omega
          clear tf xs ht hp hc2' hr hX o8
          go_wp2_with fail
          ((with_reducible refine (o9 _).mono ?_); rintro e w' ⟨rfl, rfl⟩)
          go_wp2_with fail
          ((with_reducible refine (o10 _ (by omega) _).mono ?_); rintro e w' ⟨rfl, rfl⟩)
          go_wp2
          go_round
          case rel => exact ⟨c2, r, by omega, rfl, rfl, hr4, HX.out⟩
          case measure => simp [intOf]; omega
    · obtain rfl : k = 256 := by omega
      go_wp2
      go_ret2
      exact ⟨rfl, (Below.refl _ _).alloc (Nat.le_refl _) _⟩
end Go.Proofs.YtnclefdlmbkjmaaDoor
