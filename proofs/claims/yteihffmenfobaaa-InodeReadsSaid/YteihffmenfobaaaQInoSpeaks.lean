/- The example of the document for layer 18 holds; InodeKeys' walk: it answers true, and changes nothing that was there. No condition. -/
import Derived.Test.YteihffmenfobaaaQInoWrite
import Derived.Test.YteihffmenfobaaaQNandAnd
namespace Go.Proofs.Yteihffmenfobaaa
open Go.RowKit Go.Shelf
theorem IN.one : IN.ok ⟨2, 0, [⟨⟨#[97]⟩, 3⟩]⟩ := .inr ⟨rfl, rfl, by decide, by decide⟩
set_option maxRecDepth 100000 in
set_option maxHeartbeats 2000000 in
theorem inospeaks_any (w : World) :
    Calls Try.prog 11 #[] w fun e w' => e = .returned (.bool true) ∧ Below w.heap.size w w' := by
  have HB := Lib.hid ((Below.refl w.heap.size w).alloc (Nat.le_refl _) (.cells #[.string ⟨#[97]⟩, .int .i64 3] 43))
  have hr := Row.new w #[.string ⟨#[97]⟩, .int .i64 3] 43 (0, 0) w.heap.size rfl (B := (w.alloc (.cells #[.string ⟨#[97]⟩, .int .i64 3] 43)).heap.size) (by simp)
  have hv : Ents (w.alloc (.cells #[.string ⟨#[97]⟩, .int .i64 3] 43)) (w.alloc (.cells #[.string ⟨#[97]⟩, .int .i64 3] 43)).heap.size (.slice (some ⟨w.heap.size, 0, none⟩) 1 1) [⟨⟨#[97]⟩, 3⟩] := ⟨_, 1, rfl, by decide, by simp [maxLen], hr⟩
  have k := write_yes ⟨2, 0, [⟨⟨#[97]⟩, 3⟩]⟩ _ _ hv IN.one
  rw [show (IN.bytes ⟨2, 0, [⟨⟨#[97]⟩, 3⟩]⟩) = [2, 1, 3, 1, 97] by decide] at k
  have K := Lib.hid k
  have KC := Lib.hid (chunks_any 129 (by decide))
  clear hr hv k
  go_enter Try.func11, Try.ntmps11
  go_wp2_with fail
  refine K.out.mono ?_
  rintro e w2 ⟨g, c, rfl, O2, hb2⟩
  have D2 : Bytes w2 w2.heap.size (.slice (some ⟨g, 0, none⟩) 5 c) [2, 1, 3, 1, 97] := O2.bytes (by simp [maxLen])
  have hs := str_of D2
  have hb3 := Lib.hid (HB.out.trans (hb2.mono HB.out.size))
  clear D2 O2 hb2 K
  go_wp2_with fail
  refine (KC.out _).mono ?_
  rintro e w3 ⟨rfl, rfl⟩
  go_wp2
  go_ret
  exact ⟨by first | rfl | decide, hb3.out⟩
set_option maxRecDepth 100000 in
set_option maxHeartbeats 4000000 in
theorem inodeKeys_any (a b c d : Int) (w : World) (_ha : (Lit.int .i64 a).wf = true) (_hb : (Lit.int .i64 b).wf = true) (hc : (Lit.int .i64 c).wf = true) (_hd : (Lit.int .i64 d).wf = true) :
    Calls Try.prog 6 #[.int .i64 a, .int .i64 b, .int .i64 c, .int .i64 d] w fun e w' => e = .returned (.bool true) ∧ Below w.heap.size w w' := by
  have hc63 : c ≤ 9223372036854775807 := by
    simp only [Lit.wf, Bool.and_eq_true, IntKind.min, IntKind.max, IntKind.signed, IntKind.bits] at hc
    simp at hc
    omega
  have K0 := Lib.hid (inospeaks_any w)
  have K1 := Lib.hid (key_any a b)
  have K2 := Lib.hid (key_any c d)
  have K3 := Lib.hid (chunks_any c hc63)
  obtain ⟨X, hX⟩ : ∃ X, keyOf a b = X := ⟨_, rfl⟩
  obtain ⟨Y, hY⟩ : ∃ Y, keyOf c d = Y := ⟨_, rfl⟩
  obtain ⟨Z, hZ⟩ : ∃ Z, chunksOf c = Z := ⟨_, rfl⟩
  rw [hX] at K1
  rw [hY] at K2
  rw [hZ] at K3
  have HX := Lib.hid hX
  have HY := Lib.hid hY
  have HZ := Lib.hid hZ
  clear hX hY hZ hc
  go_enter Try.func6, Try.ntmps6
  go_wp2_with fail
  refine K0.out.mono ?_
  rintro e w1 ⟨rfl, hb⟩
  have HB := Lib.hid hb
  clear hb K0
  go_wp2_with fail
  refine (K1.out _).mono ?_
  rintro e w2 ⟨rfl, rfl⟩
  go_wp2_with fail
  refine (K2.out _).mono ?_
  rintro e w3 ⟨rfl, rfl⟩
  clear K1 K2
  by_cases hr : 1 ≤ a ∧ a ≤ 24 ∧ 0 ≤ b ∧ b ≤ 6
  · obtain ⟨r1, r2, r3, r4⟩ := hr
    have hx : X = 8 * a + b := by rw [← HX.out]; exact if_pos ⟨r1, r2, r3, r4⟩
    have x0 : 0 ≤ X := by omega
    have x1 : ¬ 255 < X := by omega
    have hy : (1 ≤ c ∧ c ≤ 24 ∧ 0 ≤ d ∧ d ≤ 6 ∧ Y = 8 * c + d) ∨ (¬ (1 ≤ c ∧ c ≤ 24 ∧ 0 ≤ d ∧ d ≤ 6) ∧ Y = -1) := by
      rw [← HY.out]
      by_cases h : 1 ≤ c ∧ c ≤ 24 ∧ 0 ≤ d ∧ d ≤ 6
      · exact .inl ⟨h.1, h.2.1, h.2.2.1, h.2.2.2, if_pos h⟩
      · exact .inr ⟨h, if_neg h⟩
    by_cases hac : a = c
    · have e1 : (a == c) = true := beq_iff_eq.2 hac
      by_cases hbd : b = d
      · have e2 : (b == d) = true := beq_iff_eq.2 hbd
        have e3 : (X == Y) = true := beq_iff_eq.2 (by omega)
        clear hy hx hac hbd
        clear HX HY
        go_wp2_with fail
        refine (K3.out _).mono ?_
        rintro e w4 ⟨rfl, rfl⟩
        by_cases hc0 : c ≤ 0
        · obtain rfl : Z = 0 := by rw [← HZ.out]; exact if_pos hc0
          go_wp2_with fail
          go_ret
          exact ⟨by first | rfl | (simp; omega), HB.out⟩
        · have hz : Z = (c - 1) / 128 + 1 := by rw [← HZ.out]; exact if_neg hc0
          have z1 : 1 ≤ Z := by omega
          have z2 : Z ≤ 9223372036854775807 := by omega
          have z3 : (Z - 1 == (c - 1) / 128) = true := beq_iff_eq.2 (by omega)
          clear hz
          go_wp2_with fail
          go_ret
          exact ⟨by first | rfl | (simp; omega), HB.out⟩
      · have e2 : (b == d) = false := beq_eq_false_iff_ne.2 hbd
        have e3 : (X == Y) = false := beq_eq_false_iff_ne.2 (by omega)
        clear hy hx hac hbd
        clear HX HY
        go_wp2_with fail
        refine (K3.out _).mono ?_
        rintro e w4 ⟨rfl, rfl⟩
        by_cases hc0 : c ≤ 0
        · obtain rfl : Z = 0 := by rw [← HZ.out]; exact if_pos hc0
          go_wp2_with fail
          go_ret
          exact ⟨by first | rfl | (simp; omega), HB.out⟩
        · have hz : Z = (c - 1) / 128 + 1 := by rw [← HZ.out]; exact if_neg hc0
          have z1 : 1 ≤ Z := by omega
          have z2 : Z ≤ 9223372036854775807 := by omega
          have z3 : (Z - 1 == (c - 1) / 128) = true := beq_iff_eq.2 (by omega)
          clear hz
          go_wp2_with fail
          go_ret
          exact ⟨by first | rfl | (simp; omega), HB.out⟩
    · have e1 : (a == c) = false := beq_eq_false_iff_ne.2 hac
      have e3 : (X == Y) = false := beq_eq_false_iff_ne.2 (by omega)
      clear hy hx hac
      clear HX HY
      go_wp2_with fail
      refine (K3.out _).mono ?_
      rintro e w4 ⟨rfl, rfl⟩
      by_cases hc0 : c ≤ 0
      · obtain rfl : Z = 0 := by rw [← HZ.out]; exact if_pos hc0
        go_wp2_with fail
        go_ret
        exact ⟨by first | rfl | (simp; omega), HB.out⟩
      · have hz : Z = (c - 1) / 128 + 1 := by rw [← HZ.out]; exact if_neg hc0
        have z1 : 1 ≤ Z := by omega
        have z2 : Z ≤ 9223372036854775807 := by omega
        have z3 : (Z - 1 == (c - 1) / 128) = true := beq_iff_eq.2 (by omega)
        clear hz
        go_wp2_with fail
        go_ret
        exact ⟨by first | rfl | (simp; omega), HB.out⟩
  · obtain rfl : X = -1 := by rw [← HX.out]; exact if_neg hr
    by_cases r1 : 1 ≤ a
    · by_cases r2 : a ≤ 24
      · by_cases r3 : 0 ≤ b
        · have r4 : ¬ b ≤ 6 := fun h => hr ⟨r1, r2, r3, h⟩
          clear hr
          clear HX HY
          go_wp2_with fail
          refine (K3.out _).mono ?_
          rintro e w4 ⟨rfl, rfl⟩
          by_cases hc0 : c ≤ 0
          · obtain rfl : Z = 0 := by rw [← HZ.out]; exact if_pos hc0
            go_wp2_with fail
            go_ret
            exact ⟨by first | rfl | (simp; omega), HB.out⟩
          · have hz : Z = (c - 1) / 128 + 1 := by rw [← HZ.out]; exact if_neg hc0
            have z1 : 1 ≤ Z := by omega
            have z2 : Z ≤ 9223372036854775807 := by omega
            have z3 : (Z - 1 == (c - 1) / 128) = true := beq_iff_eq.2 (by omega)
            clear hz
            go_wp2_with fail
            go_ret
            exact ⟨by first | rfl | (simp; omega), HB.out⟩
        · clear hr
          clear HX HY
          go_wp2_with fail
          refine (K3.out _).mono ?_
          rintro e w4 ⟨rfl, rfl⟩
          by_cases hc0 : c ≤ 0
          · obtain rfl : Z = 0 := by rw [← HZ.out]; exact if_pos hc0
            go_wp2_with fail
            go_ret
            exact ⟨by first | rfl | (simp; omega), HB.out⟩
          · have hz : Z = (c - 1) / 128 + 1 := by rw [← HZ.out]; exact if_neg hc0
            have z1 : 1 ≤ Z := by omega
            have z2 : Z ≤ 9223372036854775807 := by omega
            have z3 : (Z - 1 == (c - 1) / 128) = true := beq_iff_eq.2 (by omega)
            clear hz
            go_wp2_with fail
            go_ret
            exact ⟨by first | rfl | (simp; omega), HB.out⟩
      · clear hr
        clear HX HY
        go_wp2_with fail
        refine (K3.out _).mono ?_
        rintro e w4 ⟨rfl, rfl⟩
        by_cases hc0 : c ≤ 0
        · obtain rfl : Z = 0 := by rw [← HZ.out]; exact if_pos hc0
          go_wp2_with fail
          go_ret
          exact ⟨by first | rfl | (simp; omega), HB.out⟩
        · have hz : Z = (c - 1) / 128 + 1 := by rw [← HZ.out]; exact if_neg hc0
          have z1 : 1 ≤ Z := by omega
          have z2 : Z ≤ 9223372036854775807 := by omega
          have z3 : (Z - 1 == (c - 1) / 128) = true := beq_iff_eq.2 (by omega)
          clear hz
          go_wp2_with fail
          go_ret
          exact ⟨by first | rfl | (simp; omega), HB.out⟩
    · clear hr
      clear HX HY
      go_wp2_with fail
      refine (K3.out _).mono ?_
      rintro e w4 ⟨rfl, rfl⟩
      by_cases hc0 : c ≤ 0
      · obtain rfl : Z = 0 := by rw [← HZ.out]; exact if_pos hc0
        go_wp2_with fail
        go_ret
        exact ⟨by first | rfl | (simp; omega), HB.out⟩
      · have hz : Z = (c - 1) / 128 + 1 := by rw [← HZ.out]; exact if_neg hc0
        have z1 : 1 ≤ Z := by omega
        have z2 : Z ≤ 9223372036854775807 := by omega
        have z3 : (Z - 1 == (c - 1) / 128) = true := beq_iff_eq.2 (by omega)
        clear hz
        go_wp2_with fail
        go_ret
        exact ⟨by first | rfl | (simp; omega), HB.out⟩
end Go.Proofs.Yteihffmenfobaaa

