/- The walk of CrcParts: it answers true, and changes nothing that was there. Condition: the table holds its sixteen numbers. -/
import Derived.Test.YtpokndigknkjmaaDoorCrcSpeaks
import Derived.Test.YtpokndigknkjmaaDoorMem
namespace Go.Proofs.YtpokndigknkjmaaDoor
open Go.RowKit

theorem byteTys : OneCell Tryd.prog 25 5 (.int .u8 0) 1 := OneCell.mk' Tryd.underlying25 (by kernel_rfl) (by decide)

theorem Tab.below {w w' : World} {B : Nat} (h : Tab w) (hb : Below B w w') (hB : 0 < B) : Tab w' := fun r hr => (hb.cell (p := ⟨0, r, none⟩) hB).trans (h r hr)
theorem Tab.lt {w : World} (h : Tab w) : 0 < w.heap.size := World.block_lt_of_cell? w _ (h 0 (by omega))

set_option maxHeartbeats 1000000 in
theorem parts_main (va vb : Value) (a b : List UInt8) (s : Nat) (hs : s < 4294967296) (w : World) (ht : Tab w) (ha : Bytes w w.heap.size va a) (hb : Bytes w w.heap.size vb b) (hla : a.length ≤ 5000) (hlb : b.length ≤ 5000) :
    Calls Tryd.prog 4 #[va, vb, .int .u32 (s : Int)] w fun e w' => e = .returned (.bool true) ∧ Below w.heap.size w w' := by
  obtain ⟨A1, c1, hva, hc1, hm1, hr1⟩ := id ha
  obtain ⟨A2, c2, hvb, hc2, hm2, hr2⟩ := id hb
  have hlt := ht.lt
  subst hva hvb
  have H := Lib.hid ht
  have HA := Lib.hid ha
  have HB := Lib.hid hb
  clear ht ha hb hr1 hr2
  have d1 : decide ((5000 : Int) < (a.length : Int)) = false := by simp; omega
  have d2 : decide ((5000 : Int) < (b.length : Int)) = false := by simp; omega
  go_enter Tryd.func4, Tryd.ntmps4
  go_wp2_with fail
  refine (speaks_any _ H.out).mono ?_
  rintro e w1 ⟨rfl, hb1⟩
  go_wp2_with fail
  have hb2 := hb1.alloc hb1.size (.cells #[.slice A1 a.length c1] 25)
  have T2 := Lib.hid (H.out.below hb2 hlt)
  have P2 := Joined.one (HA.out.below hb1) hb1.size w1.heap.size rfl (w1.heap.size + 1) (by omega) 25
  ((with_reducible refine (on_call s hs _ _ _ _ T2.out P2).mono ?_); rintro e w2 ⟨rfl, hw⟩; rw [hw] at hb2)
  clear P2 T2 hw hb1
  go_wp2_with fail
  have hb3 := hb2.alloc hb2.size (.cells #[.slice A2 b.length c2] 25)
  have T3 := Lib.hid (H.out.below hb3 hlt)
  have P3 := Joined.one (HB.out.below hb2) hb2.size w2.heap.size rfl (w2.heap.size + 1) (by omega) 25
  ((with_reducible refine (on_call (CM.on s a) (CM.on_lt hs _) _ _ _ _ T3.out P3).mono ?_); rintro e w3 ⟨rfl, hw⟩; rw [hw] at hb3)
  rw [CM.on_on]
  clear P3 T3 hw hb2
  go_wp2_with fail
  have hb4 := hb3.alloc hb3.size (.cells #[.slice A1 a.length c1, .slice A2 b.length c2] 25)
  have T4 := Lib.hid (H.out.below hb4 hlt)
  have P4 := Joined.two (HA.out.below hb3) (HB.out.below hb3) hb3.size w3.heap.size rfl (w3.heap.size + 1) (by omega) 25
  ((with_reducible refine (on_call s hs _ _ _ _ T4.out P4).mono ?_); rintro e w4 ⟨rfl, hw⟩; rw [hw] at hb4)
  clear P4 T4 hw hb3
  go_wp2_with fail
  have hb5 := hb4.alloc hb4.size (.cells #[.slice A1 a.length c1, .slice A2 b.length c2] 25)
  have T5 := Lib.hid (H.out.below hb5 hlt)
  have P5 := Joined.two (HA.out.below hb4) (HB.out.below hb4) hb4.size w4.heap.size rfl (w4.heap.size + 1) (by omega) 25
  ((with_reducible refine (sum_call _ _ _ _ T5.out P5).mono ?_); rintro e w5 ⟨rfl, hw⟩; rw [hw] at hb5)
  clear P5 T5 hw hb4
  have hb6 := hb5.alloc hb5.size (.cells #[] 5)
  have O6 := Own.made (e := 5) (base := w.heap.size) #[] 0 hb5.size (by simp) rfl w5.heap.size rfl
  have hz6 := hb6.size
  have A6 := Lib.hid (HA.out.below hb6)
  go_wp2_with (first
    | (at_builtin; refine wpl_append_bytes byteTys rfl (.tmp 35) (.tmp 36) rfl rfl O6 _ _ _ rfl A6.out (by simp; omega) hz6 a.length (by simp) ?_; intro A7 c7 w7 O7 g7 h7; have hb7 := hb6.trans g7; have hz7 := hb7.size; have B7 := Lib.hid (HB.out.below hb7))
    | (at_builtin; refine wpl_append_bytes byteTys rfl (.tmp 37) (.tmp 38) rfl rfl O7 _ _ _ rfl B7.out (by simp; omega) hz7 (a.length + b.length) (by simp) ?_; intro A8 c8 w8 O8 g8 h8; have hb8 := hb7.trans g8))
  have D8 := O8.bytes (by simp [maxLen]; omega)
  have hb9 := hb8.alloc hb8.size (.cells #[.slice A8 (a.length + b.length) c8] 25)
  have T9 := Lib.hid (H.out.below hb9 hlt)
  have P9 := Joined.one D8 (Nat.le_refl _) w8.heap.size rfl (w8.heap.size + 1) (by omega) 25
  ((with_reducible refine (sum_call _ _ _ _ T9.out P9).mono ?_); rintro e w9 ⟨rfl, hw⟩; rw [hw] at hb9)
  clear P9 T9 hw D8 O8 O7 O6
  rw [List.nil_append]
  go_wp2
  go_ret
  exact ⟨rfl, hb9⟩

set_option maxHeartbeats 1000000 in
theorem parts_long (va vb : Value) (a b : List UInt8) (s : Int) (w : World) (ht : Tab w) (ha : Bytes w w.heap.size va a) (hb : Bytes w w.heap.size vb b) (hl : 5000 < a.length ∨ 5000 < b.length) :
    Calls Tryd.prog 4 #[va, vb, .int .u32 s] w fun e w' => e = .returned (.bool true) ∧ Below w.heap.size w w' := by
  obtain ⟨A1, c1, hva, hc1, hm1, hr1⟩ := ha
  obtain ⟨A2, c2, hvb, hc2, hm2, hr2⟩ := hb
  subst hva hvb
  have H := Lib.hid ht
  clear ht hr1 hr2
  by_cases h1 : 5000 < a.length
  · have d1 : decide ((5000 : Int) < (a.length : Int)) = true := by simp; omega
    go_enter Tryd.func4, Tryd.ntmps4
    go_wp2_with fail
    refine (speaks_any _ H.out).mono ?_
    rintro e w1 ⟨rfl, hb1⟩
    go_wp2
    go_ret
    exact ⟨rfl, hb1⟩
  · have d1 : decide ((5000 : Int) < (a.length : Int)) = false := by simp; omega
    have h2 : 5000 < b.length := by omega
    have d2 : decide ((5000 : Int) < (b.length : Int)) = true := by simp; omega
    go_enter Tryd.func4, Tryd.ntmps4
    go_wp2_with fail
    refine (speaks_any _ H.out).mono ?_
    rintro e w1 ⟨rfl, hb1⟩
    go_wp2
    go_ret
    exact ⟨rfl, hb1⟩
theorem u32_of_wf {s : Int} (h : (Lit.int .u32 s).wf = true) : ∃ n : Nat, s = n ∧ n < 4294967296 := by
  simp only [Lit.wf, Bool.and_eq_true, IntKind.min, IntKind.max, IntKind.signed, IntKind.bits] at h
  simp at h
  exact ⟨s.toNat, by omega, by omega⟩
theorem crcParts_any (v0 v1 : Value) (s : Int) (w : World) (ht : Tab w) (h0 : ∃ l, Bytes w w.heap.size v0 l) (h1 : ∃ l, Bytes w w.heap.size v1 l) (h2 : (Lit.int .u32 s).wf = true) :
    Calls Tryd.prog 4 #[v0, v1, .int .u32 s] w fun e w' => e = .returned (.bool true) ∧ Below w.heap.size w w' := by
  obtain ⟨a, ha⟩ := h0
  obtain ⟨b, hb⟩ := h1
  obtain ⟨n, rfl, hn⟩ := u32_of_wf h2
  by_cases hl : 5000 < a.length ∨ 5000 < b.length
  · exact parts_long v0 v1 a b n w ht ha hb hl
  · exact parts_main v0 v1 a b n hn w ht ha hb (by omega) (by omega)
end Go.Proofs.YtpokndigknkjmaaDoor
