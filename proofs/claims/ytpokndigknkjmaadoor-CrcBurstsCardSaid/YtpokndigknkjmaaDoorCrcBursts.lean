/- The walk of CrcBursts: it answers true, and changes nothing that was there. Condition: the table holds its sixteen numbers. -/
import Derived.Test.YtpokndigknkjmaaDoorCrcTurns
namespace Go.Proofs.YtpokndigknkjmaaDoor
open Go.RowKit

set_option maxHeartbeats 1600000 in
theorem bursts_main (v : Value) (b : List UInt8) (at_ : Int) (a : Nat) (w : World) (ht : Tab w) (hp : Bytes w w.heap.size v b) (h0 : 5 ≤ b.length) (h1 : b.length ≤ 1000) (ha0 : a ≠ 0) (ha : a < 4294967296) :
    Calls Tryd.prog 6 #[v, .int .i64 at_, .int .u32 (a : Int)] w fun e w' => e = .returned (.bool true) ∧ Below w.heap.size w w' := by
  obtain ⟨A, c, hv, hbc, hcm, hr⟩ := id hp
  have hlt := ht.lt
  subst hv
  have H := Lib.hid ht
  have HP := Lib.hid hp
  obtain ⟨r, e1, hr1⟩ := mask16 at_
  clear ht hp
  obtain ⟨n, hn⟩ : ∃ n, r % (8 * b.length - 31) = n := ⟨_, rfl⟩
  have hn8 : n < 8 * b.length - 31 := by rw [← hn]; exact Nat.mod_lt _ (by omega)
  have d1 : decide ((b.length : Int) < 5) = false := by simp; omega
  have d2 : decide ((1000 : Int) < (b.length : Int)) = false := by simp; omega
  have d3 : ((a : Int) == 0) = false := beq_eq_false_iff_ne.2 (by omega)
  have hpos : (0 : Int) < 8 * (b.length : Int) - 31 := by omega
  have HX : ((r : Int) % (8 * (b.length : Int) - 31)) = (n : Int) := by
    rw [← hn, show (8 * (b.length : Int) - 31) = ((8 * b.length - 31 : Nat) : Int) by omega]; simp
  go_enter Tryd.func6, Tryd.ntmps6
  clear hn
  go_wp2_with fail
  refine (speaks_any _ H.out).mono ?_
  rintro e w1 ⟨rfl, hb1⟩
  have hb3 := hb1.alloc hb1.size (.cells #[] 5)
  have O3 := Own.made (e := 5) (base := w.heap.size) #[] 0 hb1.size (by simp) rfl w1.heap.size rfl
  have hz3 := hb3.size
  have A3 := Lib.hid (HP.out.below hb3)
  go_wp2_with (at_builtin; refine wpl_append_bytes byteTys rfl (.tmp 31) (.tmp 32) rfl rfl O3 _ _ _ rfl A3.out (by simp; omega) hz3 b.length (by simp) ?_; intro A4 c4 w4 O4 g4 h4; rw [List.nil_append] at O4; obtain ⟨g, hg, hg1, hg2⟩ := O4.addr (by omega); subst hg)
  have hb4 := hb3.trans g4
  clear h4 g4 A3 O3 hz3 hb3 hb1 d1 d2 d3 HX e1
  go_loopw [9] (fun i wr => ∃ k : Nat, k ≤ 32 ∧ i = .int .i64 k ∧ ∃ l, Own 5 wr w.heap.size (.slice (some ⟨g, 0, none⟩) b.length c4) l ∧ l.length = b.length ∧ Hid (CM.on 0 l = CM.on 0 b ^^^ CM.Tn (8 * b.length - n) (a % 2 ^ k)) ∧ Below w.heap.size w wr) (fun i _ => 32 - (intOf i).toNat)
  case atStart =>
    refine ⟨0, by omega, rfl, b, O4, rfl, ?_, hb4⟩
    have : CM.Tn (8 * b.length - n) 0 = 0 := by
      have h := CM.Tn_xor (8 * b.length - n) 0 0
      rw [Nat.xor_self, Nat.xor_self] at h
      exact h
    show _ = _
    rw [Nat.pow_zero, Nat.mod_one, this, Nat.xor_zero]
  case round =>
    rename_i wr
    obtain ⟨k, hk, rfl, l, hO, hl, hon, hbr⟩ := hrel
    clear O4 hb4
    by_cases hk32 : k < 32
    · have hbk : a / 2 ^ k ≤ a := Nat.div_le_self _ _
      have e : ((a : Int) / 2 ^ k) = ((a / 2 ^ k : Nat) : Int) := by simp
      have f0 : bits .and .u32 ((a : Int) / 2 ^ k) 1 = ((a / 2 ^ k % 2 : Nat) : Int) := by rw [e]; exact andu1 _ (by omega)
      have HL := Lib.hid hl
      clear hl e hbk
      rcases (show a / 2 ^ k % 2 = 0 ∨ a / 2 ^ k % 2 = 1 by omega) with h2 | h2
      · rw [h2] at f0
        have H2 := Lib.hid h2
        clear h2
        go_wp2
        clear f0
        go_roundw
        case rel => exact ⟨k + 1, by omega, by go_num, l, hO, HL.out, by rw [CM.burst0 a k H2.out]; exact hon, hbr⟩
        case measure => simp [intOf]; omega
      · rw [h2] at f0
        have H2 := Lib.hid h2
        clear h2
        obtain ⟨j, hj⟩ : ∃ j, (n + k) / 8 = j := ⟨_, rfl⟩
        obtain ⟨m, hm⟩ : ∃ m, (n + k) % 8 = m := ⟨_, rfl⟩
        have q1 : (((n : Int) + (k : Int)) / 8) = (j : Int) := by omega
        have q2 : (((n : Int) + (k : Int)) % 8) = (m : Int) := by omega
        have hjl : j < b.length := by omega
        have hm8 : m < 8 := by omega
        obtain ⟨u, hu⟩ : ∃ u, l[j]? = some u := ⟨_, List.getElem?_eq_getElem (by rw [HL.out]; exact hjl)⟩
        obtain ⟨v, hv, f1⟩ := turn8 u m hm8
        have HV := Lib.hid hv
        have HJ := Lib.hid hj
        have HM := Lib.hid hm
        have HU := Lib.hid hu
        have cc := hO.cell hu
        have cf := hO.free j
        clear hv hj hm hu
        go_wp2
        clear cc cf q1 q2 f0 f1
        go_roundw
        case rel =>
          refine ⟨k + 1, by omega, by go_num, l.set j v, hO.set j v, by rw [List.length_set]; exact HL.out, ?_, hbr.setCell hg1 _⟩
          exact CM.on_burst 0 b l a n k j m u v HL.out (by omega) (by have h1 := HJ.out; have h2 := HM.out; omega) hm8 HU.out HV.out H2.out hon.out
        case measure => simp [intOf]; omega
    · obtain rfl : k = 32 := by omega
      have hne := CM.on_bursts 0 b l a n ha ha0 hon.out
      have D := hO.bytes (by rw [hl]; simp [maxLen]; omega)
      clear hon hl
      go_wp2_with fail
      have hb6 := hbr.alloc hbr.size (.cells #[.slice (some ⟨g, 0, none⟩) b.length c4] 25)
      have T6 := Lib.hid (H.out.below hb6 hlt)
      have P6 := Joined.one D (Nat.le_refl _) wr.heap.size rfl (wr.heap.size + 1) (by omega) 25
      ((with_reducible refine (sum_call _ _ _ _ T6.out P6).mono ?_); rintro e w6 ⟨rfl, hw⟩)
      rw [hw] at hb6
      clear T6 P6 hw D hO hbr
      go_wp2_with fail
      have hb7 := hb6.alloc hb6.size (.cells #[.slice A b.length c] 25)
      have T7 := Lib.hid (H.out.below hb7 hlt)
      have P7 := Joined.one (HP.out.below hb6) hb6.size w6.heap.size rfl (w6.heap.size + 1) (by omega) 25
      ((with_reducible refine (sum_call _ _ _ _ T7.out P7).mono ?_); rintro e w7 ⟨rfl, hw⟩)
      rw [hw] at hb7
      clear T7 P7 hw hb6
      have n1 : (((CM.on 0 l : Nat) : Int) != ((CM.on 0 b : Nat) : Int)) = true := by rw [bne_iff_ne]; omega
      clear hne
      go_wp2
      go_ret
      exact ⟨rfl, hb7⟩

set_option maxHeartbeats 1000000 in
theorem crcBursts_any (v : Value) (i : Int) (a : Int) (w : World) (ht : Tab w) (hp : ∃ l, Bytes w w.heap.size v l) (_ : (Lit.int .i64 i).wf = true) (ha : (Lit.int .u32 a).wf = true) :
    Calls Tryd.prog 6 #[v, .int .i64 i, .int .u32 a] w fun e w' => e = .returned (.bool true) ∧ Below w.heap.size w w' := by
  obtain ⟨b, hb⟩ := hp
  obtain ⟨n, rfl, hn⟩ := u32_of_wf ha
  by_cases h0 : 5 ≤ b.length ∧ b.length ≤ 1000 ∧ n ≠ 0
  · exact bursts_main v b i n w ht hb h0.1 h0.2.1 h0.2.2 hn
  · obtain ⟨A, c, hv, hbc, hcm, hr⟩ := hb
    subst hv
    have H := Lib.hid ht
    clear ht hr
    by_cases h1 : b.length < 5
    · have d1 : decide ((b.length : Int) < 5) = true := by simp; omega
      clear h1 h0
      go_enter Tryd.func6, Tryd.ntmps6
      go_wp2_with fail
      refine (speaks_any _ H.out).mono ?_
      rintro e w1 ⟨rfl, hb1⟩
      go_wp2
      go_ret
      exact ⟨rfl, hb1⟩
    · have d1 : decide ((b.length : Int) < 5) = false := by simp; omega
      by_cases h2 : 1000 < b.length
      · have d2 : decide ((1000 : Int) < (b.length : Int)) = true := by simp; omega
        clear h1 h0
        go_enter Tryd.func6, Tryd.ntmps6
        go_wp2_with fail
        refine (speaks_any _ H.out).mono ?_
        rintro e w1 ⟨rfl, hb1⟩
        go_wp2
        go_ret
        exact ⟨rfl, hb1⟩
      · have d2 : decide ((1000 : Int) < (b.length : Int)) = false := by simp; omega
        obtain rfl : n = 0 := by omega
        clear h1 h0
        go_enter Tryd.func6, Tryd.ntmps6
        go_wp2_with fail
        refine (speaks_any _ H.out).mono ?_
        rintro e w1 ⟨rfl, hb1⟩
        go_wp2
        go_ret
        exact ⟨rfl, hb1⟩
end Go.Proofs.YtpokndigknkjmaaDoor
