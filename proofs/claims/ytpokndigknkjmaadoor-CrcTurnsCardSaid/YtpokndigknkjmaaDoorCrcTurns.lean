/- The walk of CrcTurns: it answers true, and changes nothing that was there. Condition: the table holds its sixteen numbers. -/
import Derived.Test.YtpokndigknkjmaaDoorCrcParts
import Derived.Deep.QuietTactic
import Derived.BigQuiet
namespace Go.Proofs.YtpokndigknkjmaaDoor
open Go.RowKit

theorem mask16 (i : Int) : ∃ r : Nat, bits .and .i64 i 65535 = (r : Int) ∧ r ≤ 65535 := by
  refine ⟨(BitVec.ofInt 64 i &&& BitVec.ofInt 64 65535).toNat, ?_, ?_⟩
  · show IntKind.i64.wrap ((BitVec.ofInt 64 i &&& BitVec.ofInt 64 65535).toNat : Int) = _
    have : (BitVec.ofInt 64 i &&& BitVec.ofInt 64 65535).toNat ≤ 65535 := by
      rw [BitVec.toNat_and]
      exact Nat.le_trans Nat.and_le_right (by decide)
    rw [IntKind.wrap_i64]
    omega
  · rw [BitVec.toNat_and]
    exact Nat.le_trans Nat.and_le_right (by decide)

theorem turn8 (u : UInt8) (m : Nat) (hm : m < 8) : ∃ v : UInt8, v.toNat = u.toNat ^^^ 2 ^ m ∧ bits .xor .u8 (u.toNat : Int) (2 ^ m % 256) = (v.toNat : Int) := by
  have hp : 2 ^ m < 2 ^ 8 := Nat.pow_lt_pow_right (by omega) hm
  have hu : u.toNat < 2 ^ 8 := u.toNat_lt
  have hx : u.toNat ^^^ 2 ^ m < 2 ^ 8 := Nat.xor_lt_two_pow hu hp
  refine ⟨UInt8.ofNat (u.toNat ^^^ 2 ^ m), ?_, ?_⟩
  · rw [UInt8.toNat_ofNat', Nat.mod_eq_of_lt hx]
  · have h2 : ∀ m, m < 8 → ((2 : Int) ^ m % 256) = ((2 ^ m : Nat) : Int) := by decide
    rw [UInt8.toNat_ofNat', Nat.mod_eq_of_lt hx, h2 m hm]
    exact u8_xor_nat _ _ hu hp
theorem eq_false (a b : Nat) (h : a ≠ b) : ((a : Int) == (b : Int)) = false := beq_eq_false_iff_ne.2 (by omega)

set_option maxHeartbeats 1600000 in
theorem turns_main (v : Value) (b : List UInt8) (i k : Int) (w : World) (ht : Tab w) (hp : Bytes w w.heap.size v b) (h0 : 0 < b.length) (h1 : b.length ≤ 256) :
    Calls Tryd.prog 5 #[v, .int .i64 i, .int .i64 k] w fun e w' => e = .returned (.bool true) ∧ Below w.heap.size w w' := by
  obtain ⟨A, c, hv, hbc, hcm, hr⟩ := id hp
  have hlt := ht.lt
  subst hv
  have H := Lib.hid ht
  have HP := Lib.hid hp
  obtain ⟨r1, e1, hr1⟩ := mask16 i
  obtain ⟨r2, e2, hr2⟩ := mask16 k
  clear ht hp
  obtain ⟨x, hx⟩ : ∃ x, r1 % (8 * b.length) = x := ⟨_, rfl⟩
  obtain ⟨y, hy⟩ : ∃ y, r2 % (8 * b.length) = y := ⟨_, rfl⟩
  have hx8 : x < 8 * b.length := by rw [← hx]; exact Nat.mod_lt _ (by omega)
  have hy8 : y < 8 * b.length := by rw [← hy]; exact Nat.mod_lt _ (by omega)
  have d1 : ((b.length : Int) == 0) = false := beq_eq_false_iff_ne.2 (by omega)
  have d2 : decide ((256 : Int) < (b.length : Int)) = false := by simp; omega
  have hpos : (0 : Int) < (b.length : Int) := by omega
  go_enter Tryd.func5, Tryd.ntmps5
  have HX : ((r1 : Int) % (8 * (b.length : Int))) = (x : Int) := by rw [← hx]; simp
  have HY : ((r2 : Int) % (8 * (b.length : Int))) = (y : Int) := by rw [← hy]; simp
  clear hx hy
  go_wp2_with fail
  refine (speaks_any _ H.out).mono ?_
  rintro e w1 ⟨rfl, hb1⟩
  go_wp2
  go_quiet (fail)
  rw [HX, HY]
  have hb2 : Below w.heap.size w (w1.drewN nq) := ⟨hb1.os, hb1.tape, hb1.output, hb1.size, hb1.block⟩
  generalize w1.drewN nq = w2 at *
  clear HX HY hb1
  obtain ⟨j, hj⟩ : ∃ j, x / 8 = j := ⟨_, rfl⟩
  obtain ⟨m, hm⟩ : ∃ m, x % 8 = m := ⟨_, rfl⟩
  have q1 : ((x : Int) / 8) = (j : Int) := by omega
  have q2 : ((x : Int) % 8) = (m : Int) := by omega
  have hjl : j < b.length := by omega
  have hm8 : m < 8 := by omega
  obtain ⟨u, hu⟩ : ∃ u, b[j]? = some u := ⟨_, List.getElem?_eq_getElem hjl⟩
  obtain ⟨v, hv, f1⟩ := turn8 u m hm8
  have HVV := Lib.hid hv
  clear hv
  have HJ := Lib.hid hj
  have HM := Lib.hid hm
  clear hj hm
  have hb3 := hb2.alloc hb2.size (.cells #[] 5)
  have O3 := Own.made (e := 5) (base := w.heap.size) #[] 0 hb2.size (by simp) rfl w2.heap.size rfl
  have hz3 := hb3.size
  have A3 := Lib.hid (HP.out.below hb3)
  go_wp2_with (at_builtin; refine wpl_append_bytes byteTys rfl (.tmp 32) (.tmp 33) rfl rfl O3 _ _ _ rfl A3.out (by simp; omega) hz3 b.length (by simp) ?_; intro A4 c4 w4 O4 g4 h4; rw [List.nil_append] at O4; obtain ⟨g, hg, hg1, hg2⟩ := O4.addr h0; subst hg; have cc := O4.cell hu; have cf := O4.free j)
  clear cc cf h4
  have O5 := O4.set j v
  have hb4 := hb3.trans g4
  have hb5 := hb4.setCell (p := ⟨g, j, none⟩) hg1 (.int .u8 (v.toNat : Int))
  have hsz : w4.heap.size = (w4.setCell ⟨g, j, none⟩ (.int .u8 (v.toNat : Int))).heap.size := by simp
  rw [hsz]
  generalize w4.setCell ⟨g, j, none⟩ (.int .u8 (v.toNat : Int)) = w5 at *
  clear hsz hb4 hb3 hb2 g4 O4 O3 A3 hz3 q1 q2 f1
  have hbs : b.length = (b.set j v).length := by simp
  have D5 := O5.bytes (by simp [maxLen]; omega)
  have hb6 := hb5.alloc hb5.size (.cells #[.slice (some ⟨g, 0, none⟩) b.length c4] 25)
  have T6 := Lib.hid (H.out.below hb6 hlt)
  have P6 := Joined.one D5 (Nat.le_refl _) w5.heap.size rfl (w5.heap.size + 1) (by omega) 25
  ((with_reducible refine (sum_call _ _ _ _ T6.out P6).mono ?_); rintro e w6 ⟨rfl, hw⟩)
  have O6 := O5.alloc (.cells #[.slice (some ⟨g, 0, none⟩) b.length c4] 25)
  rw [hw] at hb6 O6
  clear T6 P6 hw D5 O5 hb5 hbs
  go_wp2_with fail
  have hb7 := hb6.alloc hb6.size (.cells #[.slice A b.length c] 25)
  have O7 := O6.alloc (.cells #[.slice A b.length c] 25)
  have T7 := Lib.hid (H.out.below hb7 hlt)
  have P7 := Joined.one (HP.out.below hb6) hb6.size w6.heap.size rfl (w6.heap.size + 1) (by omega) 25
  ((with_reducible refine (sum_call _ _ _ _ T7.out P7).mono ?_); rintro e w7 ⟨rfl, hw⟩)
  rw [hw] at hb7 O7
  clear T7 P7 hw O6 hb6
  have n1 := eq_false _ _ (CM.on_turn_ne 0 b j m u v hu hm8 HVV.out)
  obtain ⟨S0, hS0⟩ : ∃ S, CM.on 0 b = S := ⟨_, rfl⟩
  obtain ⟨S1, hS1⟩ : ∃ S, CM.on 0 (b.set j v) = S := ⟨_, rfl⟩
  rw [hS0, hS1] at n1
  rw [hS0, hS1]
  have HS0 := Lib.hid hS0
  clear hS0 hS1
  obtain ⟨j', hj'⟩ : ∃ j', y / 8 = j' := ⟨_, rfl⟩
  obtain ⟨m', hm'⟩ : ∃ m', y % 8 = m' := ⟨_, rfl⟩
  have q1 : ((y : Int) / 8) = (j' : Int) := by omega
  have q2 : ((y : Int) % 8) = (m' : Int) := by omega
  have hjl' : j' < b.length := by omega
  have hm8' : m' < 8 := by omega
  obtain ⟨u', hu'⟩ : ∃ u', (b.set j v)[j']? = some u' := ⟨_, List.getElem?_eq_getElem (by simpa using hjl')⟩
  obtain ⟨v', hv', f1⟩ := turn8 u' m' hm8'
  have HVV' := Lib.hid hv'
  have HJ' := Lib.hid hj'
  have HM' := Lib.hid hm'
  have HU := Lib.hid hu
  have HU' := Lib.hid hu'
  have cc := O7.cell hu'
  have cf := O7.free j'
  clear hv' hj' hm' hu hu'
  go_wp2_with fail
  clear cc cf n1 q1 q2 f1
  have hall := CM.on_turns 0 b j m j' m' u v u' v' HU.out hm8 HVV.out HU'.out hm8' HVV'.out h1 hjl hjl'
  rw [HS0.out] at hall
  have hxy : 8 * j + m = 8 * j' + m' ↔ x = y := by
    have a1 := HJ.out; have a2 := HM.out; have a3 := HJ'.out; have a4 := HM'.out
    omega
  rw [hxy] at hall
  obtain ⟨S2, hS2⟩ : ∃ S, CM.on 0 ((b.set j v).set j' v') = S := ⟨_, rfl⟩
  rw [hS2] at hall
  have HS2 := Lib.hid hS2
  have HALL := Lib.hid hall
  clear hS2 hall hxy HU HU' HVV HVV' HJ HJ' HM HM'
  have O8 := O7.set j' v'
  have hb8 := hb7.setCell (p := ⟨g, j', none⟩) hg1 (.int .u8 (v'.toNat : Int))
  have hsz : w7.heap.size = (w7.setCell ⟨g, j', none⟩ (.int .u8 (v'.toNat : Int))).heap.size := by simp
  rw [hsz]
  generalize w7.setCell ⟨g, j', none⟩ (.int .u8 (v'.toNat : Int)) = w8 at *
  have D8 := O8.bytes (by simp [maxLen]; omega)
  have hb9 := hb8.alloc hb8.size (.cells #[.slice (some ⟨g, 0, none⟩) b.length c4] 25)
  have T9 := Lib.hid (H.out.below hb9 hlt)
  have P9 := Joined.one D8 (Nat.le_refl _) w8.heap.size rfl (w8.heap.size + 1) (by omega) 25
  ((with_reducible refine (sum_call _ _ _ _ T9.out P9).mono ?_); rintro e w9 ⟨rfl, hw⟩)
  rw [hw] at hb9
  rw [HS2.out]
  clear T9 P9 hw D8 O8 O7 hb8 hb7 hsz
  go_wp2_with fail
  have hb10 := hb9.alloc hb9.size (.cells #[.slice A b.length c] 25)
  have T10 := Lib.hid (H.out.below hb10 hlt)
  have P10 := Joined.one (HP.out.below hb9) hb9.size w9.heap.size rfl (w9.heap.size + 1) (by omega) 25
  ((with_reducible refine (sum_call _ _ _ _ T10.out P10).mono ?_); rintro e w10 ⟨rfl, hw⟩)
  rw [hw] at hb10
  rw [HS0.out]
  clear T10 P10 hw hb9
  by_cases hxy : x = y
  · have h2 := HALL.out.2 hxy
    subst hxy
    rw [h2]
    clear h2
    go_wp2
    go_ret
    exact ⟨rfl, hb10⟩
  · have h2 : S2 ≠ S0 := fun e => hxy (HALL.out.1 e)
    have n2 := eq_false _ _ h2
    have n3 := eq_false _ _ hxy
    clear h2 hxy
    go_wp2
    go_ret
    exact ⟨rfl, hb10⟩

set_option maxHeartbeats 1000000 in
theorem crcTurns_any (v : Value) (i k : Int) (w : World) (ht : Tab w) (hp : ∃ l, Bytes w w.heap.size v l) (_ : (Lit.int .i64 i).wf = true) (_ : (Lit.int .i64 k).wf = true) :
    Calls Tryd.prog 5 #[v, .int .i64 i, .int .i64 k] w fun e w' => e = .returned (.bool true) ∧ Below w.heap.size w w' := by
  obtain ⟨b, hb⟩ := hp
  by_cases h0 : 0 < b.length ∧ b.length ≤ 256
  · exact turns_main v b i k w ht hb h0.1 h0.2
  · obtain ⟨A, c, hv, hbc, hcm, hr⟩ := hb
    subst hv
    have H := Lib.hid ht
    clear ht hr
    by_cases h1 : b.length = 0
    · have d1 : ((b.length : Int) == 0) = true := beq_iff_eq.2 (by omega)
      clear h1 h0
      go_enter Tryd.func5, Tryd.ntmps5
      go_wp2_with fail
      refine (speaks_any _ H.out).mono ?_
      rintro e w1 ⟨rfl, hb1⟩
      go_wp2
      go_ret
      exact ⟨rfl, hb1⟩
    · have h2 : 256 < b.length := by omega
      have d1 : ((b.length : Int) == 0) = false := beq_eq_false_iff_ne.2 (by omega)
      have d2 : decide ((256 : Int) < (b.length : Int)) = true := by simp; omega
      clear h1 h0
      go_enter Tryd.func5, Tryd.ntmps5
      go_wp2_with fail
      refine (speaks_any _ H.out).mono ?_
      rintro e w1 ⟨rfl, hb1⟩
      go_wp2
      go_ret
      exact ⟨rfl, hb1⟩
end Go.Proofs.YtpokndigknkjmaaDoor
