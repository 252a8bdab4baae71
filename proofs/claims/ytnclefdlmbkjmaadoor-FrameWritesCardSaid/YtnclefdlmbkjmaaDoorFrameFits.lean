/- The contracts of frame's fits and Blank. No condition but the array's length. -/
import Derived.Test.YtnclefdlmbkjmaaDoorFrameMath
import Derived.Test.YtnclefdlmbkjmaaDoorPageEq
import Derived.Test.YtnclefdlmbkjmaaDoorHamBits
import Derived.Test.YtnclefdlmbkjmaaDoorFrameRef
namespace Go.Proofs.YtnclefdlmbkjmaaDoor
open Go.RowKit
theorem fits_any (k : Nat) (n : Int) (w : World) : Calls Tryd.prog 15 #[.int .u8 (k : Int), .int .i64 n] w fun e w' => e = .returned (.bool (decide (1 ≤ k ∧ k ≤ 254 ∧ n ≤ 240))) ∧ w = w' := by
  by_cases h1 : 1 ≤ k
  · have d1 : decide ((1 : Int) ≤ (k : Int)) = true := by simp; omega
    by_cases h2 : k ≤ 254
    · have d2 : decide ((k : Int) ≤ 254) = true := by simp; omega
      by_cases h3 : n ≤ 240
      · have d3 : decide (n ≤ 240) = true := by simp [h3]
        rw [decide_eq_true ⟨h1, h2, h3⟩]
        clear h1 h2 h3
        go_enter Tryd.func15, Tryd.ntmps15
        go_wp2_with fail
        go_ret
        exact ⟨rfl, rfl⟩
      · have d3 : decide (n ≤ 240) = false := by simp; omega
        rw [decide_eq_false (fun h => h3 h.2.2)]
        clear h1 h2 h3
        go_enter Tryd.func15, Tryd.ntmps15
        go_wp2_with fail
        go_ret
        exact ⟨rfl, rfl⟩
    · have d2 : decide ((k : Int) ≤ 254) = false := by simp; omega
      rw [decide_eq_false (fun h => h2 h.2.1)]
      clear h1 h2
      go_enter Tryd.func15, Tryd.ntmps15
      go_wp2_with fail
      go_ret
      exact ⟨rfl, rfl⟩
  · have d1 : decide ((1 : Int) ≤ (k : Int)) = false := by simp; omega
    rw [decide_eq_false (fun h => h1 h.1)]
    clear h1
    go_enter Tryd.func15, Tryd.ntmps15
    go_wp2_with fail
    go_ret
    exact ⟨rfl, rfl⟩
namespace FM
theorem zc_byte (p : List UInt8) (i : Nat) : ∀ k, k ≤ 8 → zc p (8 * i + k) + HM.popT (p.getD i 0).toNat k = zc p (8 * i) + k
  | 0, _ => rfl
  | k + 1, h => by
    have ih := zc_byte p i k (by omega)
    have e := HM.bit_byte p i k (by omega)
    have e1 : zc p (8 * i + (k + 1)) = zc p (8 * i + k) + (1 - HM.bt p (8 * i + k)) := rfl
    have e2 : HM.popT (p.getD i 0).toNat (k + 1) = HM.popT (p.getD i 0).toNat k + (p.getD i 0).toNat / 2 ^ k % 2 := rfl
    have e3 := HM.mod2 ((p.getD i 0).toNat / 2 ^ k)
    omega
theorem zc_mono (p : List UInt8) (a : Nat) : ∀ k, zc p a ≤ zc p (a + k)
  | 0 => Nat.le_refl _
  | k + 1 => by
    have := zc_mono p a k
    have e : zc p (a + (k + 1)) = zc p (a + k) + (1 - HM.bt p (a + k)) := rfl
    omega
theorem pop_not : ∀ b : Fin 256, HM.popT (255 - b.val) 8 + HM.popT b.val 8 = 8 := by decide +kernel
end FM
theorem index_page {L : List UInt8} (hL : L.length = 258) {k : Nat} (hk : k < 258) {b : Nat} (hb : b = (L.getD k 0).toNat) (w : World) : (Instr.index 26 (.agg (cl L)) (.int .i64 (k : Int))).run Tryd.prog w = .ok (.int .u8 (b : Int)) w := by
  have h1 := ppart_at hL hk w
  have h2 : (sizeOf 5).run Tryd.prog w = .ok 1 w := by kernel_rfl
  rw [← hb] at h1
  have hn : 0 ≤ (k : Int) ∧ (k : Int) < ((258 : Nat) : Int) := by omega
  have h3 : (k : Int).toNat * 1 = k := by omega
  simp only [Instr.index, run_underlying Tryd.underlying26, asIntOf, Sem.run_bind, Sem.run_pure, Result.andThen_ok, if_pos hn, h2, h3, h1]
theorem xor255 : ∀ b : Fin 256, bits .xor .u8 255 (b.val : Int) = ((255 - b.val : Nat) : Int) := by decide +kernel
set_option maxRecDepth 100000 in
set_option maxHeartbeats 4000000 in
theorem blank_any (L : List UInt8) (hL : L.length = 258) (w : World) : Calls Tryd.prog 12 #[.agg (cl L)] w fun e w' => e = .returned (.bool (FM.blank L)) ∧ Below w.heap.size w w' := by
  have P0 := Lib.hid (PArr.new w hL)
  go_enter Tryd.func12, Tryd.ntmps12
  go_wp2_with (with_reducible refine wpl_pload (.tmp 1) rfl rfl P0.out rfl ?_)
  go_loop [3, 7] (fun n i => ∃ k : Nat, k ≤ 258 ∧ i = .int .i64 k ∧ n = .int .i64 ((FM.zc L (8 * k) : Nat) : Int) ∧ FM.zc L (8 * k) ≤ 1) (fun _ i => 258 - (intOf i).toNat)
  case atStart => exact ⟨0, by omega, rfl, rfl, Nat.zero_le _⟩
  case round =>
    obtain ⟨k, hk, rfl, rfl, hm⟩ := hrel
    obtain ⟨M, hM⟩ : ∃ M, M = FM.zc L (8 * k) := ⟨_, rfl⟩
    rw [← hM] at hm ⊢
    have HM0 := Lib.hid hM
    clear hM
    by_cases hlt : k < 258
    · obtain ⟨b, hb, hc, HB⟩ := pbyte_at L hL hlt
      have dk : decide ((k : Int) < 258) = true := by simp; omega
      have hx : bits .xor .u8 IntKind.u8.max (b : Int) = ((255 - b : Nat) : Int) := xor255 ⟨b, hb⟩
      obtain ⟨nb, hnb⟩ : ∃ nb, nb = 255 - b := ⟨_, rfl⟩
      rw [← hnb] at hx
      have k1 := ones8 nb (by omega)
      obtain ⟨z, hz⟩ : ∃ z, z = HM.popT nb 8 := ⟨_, rfl⟩
      rw [← hz] at k1
      have hz8 : z ≤ 8 := hz ▸ HM.popT_le _ _
      have hnext : Hid (FM.zc L (8 * (k + 1)) = M + z) := Lib.hid (by
        have h1 := FM.zc_byte L k 8 (Nat.le_refl _)
        have h2 := FM.pop_not ⟨b, hb⟩
        simp only at h2
        rw [← HB.out] at h1
        rw [← HM0.out] at h1
        rw [show 8 * (k + 1) = 8 * k + 8 by omega]
        rw [hz, hnb]
        omega)
      have hi := index_page hL hlt HB.out
      have hsg : IntKind.u8.signed = false := rfl
      clear hnb hz hc
      go_wp2_with fail
      ((with_reducible refine (k1 _).mono ?_); rintro e w' ⟨rfl, rfl⟩)
      clear k1 hx hi hsg
      by_cases h1 : 1 < M + z
      · have d1 : decide ((1 : Int) < (M : Int) + (z : Int)) = true := by simp; omega
        have hd : FM.blank L = false := decide_eq_false (by
          have e := hnext.out
          have e2 := FM.zc_mono L (8 * (k + 1)) (2064 - 8 * (k + 1))
          rw [show 8 * (k + 1) + (2064 - 8 * (k + 1)) = 2064 by omega] at e2
          omega)
        have HD := Lib.hid hd
        clear hd
        go_wp2
        (try simp only [Exit.inBlock, Exit.then])
        go_ret
        rw [HD.out]
        exact ⟨rfl, (Below.refl _ _).alloc (Nat.le_refl _) _⟩
      · have d1 : decide ((1 : Int) < (M : Int) + (z : Int)) = false := by simp; omega
        go_wp2
        go_round
        case rel => exact ⟨k + 1, by omega, by go_num, by rw [hnext.out]; go_num, by rw [hnext.out]; omega⟩
        case measure => simp [intOf]; omega
    · obtain rfl : k = 258 := by omega
      have hd : FM.blank L = true := decide_eq_true (by have e := HM0.out; rw [show 8 * 258 = 2064 from rfl] at e; omega)
      have HD := Lib.hid hd
      clear hd
      have dk : decide (((258 : Nat) : Int) < 258) = false := by decide
      go_wp2_with fail
      go_ret
      rw [HD.out]
      exact ⟨rfl, (Below.refl _ _).alloc (Nat.le_refl _) _⟩
end Go.Proofs.YtnclefdlmbkjmaaDoor
