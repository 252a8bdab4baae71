/- Layer 12: what the document's calls answer. No condition. -/
import Derived.Test.YticigjkaangkmaaQViewP
namespace Go.Proofs.Yticigjkaangkmaa
open Go Go.RowKit
theorem beqI {a b : Int} (h : a ≠ b) : (a == b) = false := by simpa using h
def rightZ (z m : Int) : Bool := decide (0 < z ∧ z ≤ 9223372036854775808 ∧ 1 ≤ m ∧ m ≤ 3)
set_option maxRecDepth 100000 in
theorem refright_z (z m b : Int) (w : World) : Calls Try.prog 20 #[.agg #[.int .u64 z, .int .i64 m, .int .u64 b]] w fun e w' => e = .returned (.bool (rightZ z m)) ∧ Below w.heap.size w w' := by
  have b1 := Lib.hid (fun m => (Below.refl w.heap.size w).alloc (Nat.le_refl _) (.cells #[.int .u64 z, .int .i64 m, .int .u64 b] 24))
  by_cases h1 : 0 < z
  · have d1 : decide (0 < z) = true := decide_eq_true h1
    by_cases h2 : z ≤ 9223372036854775808
    · have d2 : decide (z ≤ 9223372036854775808) = true := decide_eq_true h2
      by_cases h3 : m = 1
      · subst h3
        have HR := Lib.hid (show rightZ z 1 = true by unfold rightZ; simp; omega)
        clear h1 h2
        go_enter Try.func20, Try.ntmps20
        go_wp2
        go_ret
        exact ⟨by rw [HR.out]; rfl, b1.out _⟩
      · have e1 := beqI h3
        by_cases h4 : m = 2
        · subst h4
          have HR := Lib.hid (show rightZ z 2 = true by unfold rightZ; simp; omega)
          clear h1 h2 h3 e1
          go_enter Try.func20, Try.ntmps20
          go_wp2
          go_ret
          exact ⟨by rw [HR.out]; rfl, b1.out _⟩
        · have e2 := beqI h4
          by_cases h5 : m = 3
          · subst h5
            have HR := Lib.hid (show rightZ z 3 = true by unfold rightZ; simp; omega)
            clear h1 h2 h3 h4 e1 e2
            go_enter Try.func20, Try.ntmps20
            go_wp2
            go_ret
            exact ⟨by rw [HR.out]; rfl, b1.out _⟩
          · have e3 := beqI h5
            have HR := Lib.hid (show rightZ z m = false by unfold rightZ; simp; omega)
            clear h1 h2 h3 h4 h5
            go_enter Try.func20, Try.ntmps20
            go_wp2
            go_ret
            exact ⟨by rw [HR.out]; rfl, b1.out _⟩
    · have d2 : decide (z ≤ 9223372036854775808) = false := decide_eq_false h2
      have HR := Lib.hid (show rightZ z m = false by unfold rightZ; simp; omega)
      clear h1 h2
      go_enter Try.func20, Try.ntmps20
      go_wp2
      go_ret
      exact ⟨by rw [HR.out]; rfl, b1.out _⟩
  · have d1 : decide (0 < z) = false := decide_eq_false h1
    have HR := Lib.hid (show rightZ z m = false by unfold rightZ; simp; omega)
    clear h1
    go_enter Try.func20, Try.ntmps20
    go_wp2
    go_ret
    exact ⟨by rw [HR.out]; rfl, b1.out _⟩
theorem refright_any (v : VV) (w : World) : Calls Try.prog 20 #[va v] w fun e w' => e = .returned (.bool v.right) ∧ Below w.heap.size w w' := by
  have h := refright_z (v.n : Int) v.m (v.b : Int) w
  rw [show rightZ (v.n : Int) v.m = v.right by unfold rightZ VV.right; rw [Bool.eq_iff_iff]; simp only [decide_eq_true_eq]; omega] at h
  exact h
set_option maxRecDepth 100000 in
theorem refhas_any (v : VV) (c : Int) (w : World) : Calls Try.prog 11 #[va v, .int .i64 c] w fun e w' => e = .returned (.bool (v.has c)) ∧ Below w.heap.size w w' := by
  have b1 := Lib.hid ((Below.refl w.heap.size w).alloc (Nat.le_refl _) (.cells #[.int .u64 (v.n : Int), .int .i64 v.m, .int .u64 (v.b : Int)] 24))
  by_cases h0 : c = 0
  · subst h0
    by_cases hq : v.m % 2 = 1
    · have HR := Lib.hid (show v.has 0 = true by rw [has_zero, decide_eq_true hq])
      have e1 : (bits .and .i64 v.m 1 == 1) = true := by rw [and_1]; simp [hq]
      clear hq
      go_enter Try.func11, Try.ntmps11
      go_wp2
      go_ret
      exact ⟨by rw [HR.out]; rfl, b1.out⟩
    · have HR := Lib.hid (show v.has 0 = false by rw [has_zero, decide_eq_false hq])
      have e1 : (bits .and .i64 v.m 1 == 1) = false := by rw [and_1]; simp [hq]
      clear hq
      go_enter Try.func11, Try.ntmps11
      go_wp2
      go_ret
      exact ⟨by rw [HR.out]; rfl, b1.out⟩
  · have e0 := beqI h0
    by_cases h1 : c = 1
    · subst h1
      by_cases hq : v.m / 2 % 2 = 1
      · have HR := Lib.hid (show v.has 1 = true by rw [has_one, decide_eq_true hq])
        have e1 : (bits .and .i64 v.m 2 == 2) = true := by rw [and_2]; simp; omega
        clear hq e0 h0
        go_enter Try.func11, Try.ntmps11
        go_wp2
        go_ret
        exact ⟨by rw [HR.out]; rfl, b1.out⟩
      · have HR := Lib.hid (show v.has 1 = false by rw [has_one, decide_eq_false hq])
        have e1 : (bits .and .i64 v.m 2 == 2) = false := by rw [and_2]; simp; omega
        clear hq e0 h0
        go_enter Try.func11, Try.ntmps11
        go_wp2
        go_ret
        exact ⟨by rw [HR.out]; rfl, b1.out⟩
    · have e1 := beqI h1
      have HR := Lib.hid (show v.has c = false from has_else v h0 h1)
      clear h0 h1
      go_enter Try.func11, Try.ntmps11
      go_wp2
      go_ret
      exact ⟨by rw [HR.out]; rfl, b1.out⟩
theorem VV.shrink_bad {v : VV} {c : Int} {b : Nat} (h : ¬ (v.right = true ∧ v.n ≠ 9223372036854775808)) : v.shrink c b = (VV.zero, 1) := by
  unfold VV.shrink
  split
  · exact VV.next_no h
  · rfl
set_option maxRecDepth 100000 in
set_option maxHeartbeats 4000000 in
theorem refshrink_any (v : VV) (c : Int) (b : Nat) (w : World) :
    Calls Try.prog 13 #[va v, .int .i64 c, .int .u64 (b : Int)] w fun e w' => e = .returned (.tuple #[va (v.shrink c b).1, .int .i64 (v.shrink c b).2]) ∧ Below w.heap.size w w' := by
  obtain ⟨b1, P1, R1⟩ := boxes w v
  have b1 := Lib.hid b1
  have P1 := Lib.hid P1
  have R1 := Lib.hid R1
  have hgr := Lib.hid R1.out.lt
  obtain ⟨W, hW⟩ : ∃ W, W = (w.alloc (.cells #[.int .u64 (v.n : Int), .int .i64 v.m, .int .u64 (v.b : Int)] 24)).alloc (.cells #[.int .u64 0, .int .i64 0, .int .u64 0] 24) := ⟨_, rfl⟩
  have HW := Lib.hid hW
  rw [← hW] at b1 P1 R1 hgr
  clear hW
  have kr := fun w => refright_any v w
  have kh := fun w => refhas_any v c w
  cases hr : v.right
  · rw [hr] at kr
    have HN := Lib.hid (VV.shrink_bad (v := v) (c := c) (b := b) (by rw [hr]; simp))
    clear hr kh
    go_enter Try.func13, Try.ntmps13
    go_wp2_with fail
    rw [← HW.out]
    ((with_reducible refine (kr _).mono ?_); rintro e w2 ⟨rfl, b2⟩)
    have T2 := Lib.hid (b1.out.trans (b2.mono b1.out.size))
    have R2 := Lib.hid (R1.out.after b2)
    have P2 := Lib.hid (P1.out.after b2)
    clear b2
    go_wp2_with ((with_reducible refine wpl_vstore (.tmp 6) (.tmp 22) rfl rfl R2.out rfl rfl rfl rfl rfl ?_); intro w9 R9 g9 e9; have T9 := Lib.hid (T2.out.grown g9 T2.out.size (fun k e => by cases e; exact Nat.le_succ _)); have S9 := Lib.hid R9; clear R9 g9 e9)
    refine bodyPost_ret (vret2 rfl _ S9.out rfl) rfl ?_
    rw [HN.out]
    exact ⟨rfl, T9.out⟩
  · rw [hr] at kr
    have c0 : Hid (∀ w' : World, Blk w' w.heap.size 24 [.int .u64 (v.n : Int), .int .i64 v.m, .int .u64 (v.b : Int)] → w'.cell? ⟨w.heap.size, 0, none⟩ = some (.int .u64 (v.n : Int))) := Lib.hid (fun w' h => h.cell 0)
    by_cases hn : v.n = 9223372036854775808
    · have HN := Lib.hid (VV.shrink_bad (v := v) (c := c) (b := b) (by rintro ⟨_, q⟩; exact q hn))
      have HD := Lib.hid (show ((v.n : Int) == 9223372036854775808) = true by simp; omega)
      clear hr hn kh
      go_enter Try.func13, Try.ntmps13
      go_wp2_with fail
      rw [← HW.out]
      ((with_reducible refine (kr _).mono ?_); rintro e w2 ⟨rfl, b2⟩)
      have T2 := Lib.hid (b1.out.trans (b2.mono b1.out.size))
      have R2 := Lib.hid (R1.out.after b2)
      have P2 := Lib.hid (P1.out.after b2)
      clear b2
      have x0 := c0.out _ P2.out
      have d1 := HD.out
      go_wp2_with ((with_reducible refine wpl_vstore (.tmp 6) (.tmp 22) rfl rfl R2.out rfl rfl rfl rfl rfl ?_); intro w9 R9 g9 e9; have T9 := Lib.hid (T2.out.grown g9 T2.out.size (fun k e => by cases e; exact Nat.le_succ _)); have S9 := Lib.hid R9; clear R9 g9 e9)
      refine bodyPost_ret (vret2 rfl _ S9.out rfl) rfl ?_
      rw [HN.out]
      exact ⟨rfl, T9.out⟩
    · have d1 : ((v.n : Int) == 9223372036854775808) = false := by simp; omega
      cases hh : v.has c
      · rw [hh] at kh
        have HN := Lib.hid (VV.shrink_no (v := v) (c := c) (b := b) hh)
        clear hr hh hn
        go_enter Try.func13, Try.ntmps13
        go_wp2_with fail
        rw [← HW.out]
        ((with_reducible refine (kr _).mono ?_); rintro e w2 ⟨rfl, b2⟩)
        have T2 := Lib.hid (b1.out.trans (b2.mono b1.out.size))
        have R2 := Lib.hid (R1.out.after b2)
        have P2 := Lib.hid (P1.out.after b2)
        clear b2
        have x0 := c0.out _ P2.out
        go_wp2_with (with_reducible refine wpl_vload (.tmp 3) rfl rfl P2.out rfl ?_)
        ((with_reducible refine (kh _).mono ?_); rintro e w3 ⟨rfl, b3⟩)
        have T3 := Lib.hid (T2.out.trans (b3.mono T2.out.size))
        have R3 := Lib.hid (R2.out.after b3)
        have P3 := Lib.hid (P2.out.after b3)
        clear b3
        go_wp2_with ((with_reducible refine wpl_vstore (.tmp 6) (.tmp 22) rfl rfl R3.out rfl rfl rfl rfl rfl ?_); intro w9 R9 g9 e9; have T9 := Lib.hid (T3.out.grown g9 T3.out.size (fun k e => by cases e; exact Nat.le_succ _)); have S9 := Lib.hid R9; clear R9 g9 e9)
        refine bodyPost_ret (vret2 rfl _ S9.out rfl) rfl ?_
        rw [HN.out]
        exact ⟨rfl, T9.out⟩
      · rw [hh] at kh
        have HN := Lib.hid ((VV.shrink_yes (v := v) (c := c) (b := b) hh).trans (VV.next_yes hr hn))
        have hb := (VV.right_n hr).2.1
        have hw : IntKind.u64.wrap ((v.n : Int) + 1) = (((v.n + 1 : Nat)) : Int) := by rw [IntKind.wrap_u64]; omega
        have hc := has_chip hh
        have hw2 : IntKind.i64.wrap (c + 1) = c + 1 := by rw [IntKind.wrap_i64]; omega
        clear hr hh hn hc
        go_enter Try.func13, Try.ntmps13
        go_wp2_with fail
        rw [← HW.out]
        ((with_reducible refine (kr _).mono ?_); rintro e w2 ⟨rfl, b2⟩)
        have T2 := Lib.hid (b1.out.trans (b2.mono b1.out.size))
        have R2 := Lib.hid (R1.out.after b2)
        have P2 := Lib.hid (P1.out.after b2)
        clear b2
        have x0 := c0.out _ P2.out
        go_wp2_with (with_reducible refine wpl_vload (.tmp 3) rfl rfl P2.out rfl ?_)
        ((with_reducible refine (kh _).mono ?_); rintro e w3 ⟨rfl, b3⟩)
        have T3 := Lib.hid (T2.out.trans (b3.mono T2.out.size))
        have R3 := Lib.hid (R2.out.after b3)
        have P3 := Lib.hid (P2.out.after b3)
        clear b3
        have x1 := c0.out _ P3.out
        go_wp2_with ((with_reducible refine wpl_vstore (.tmp 6) (.tmp 29) rfl rfl R3.out rfl rfl rfl rfl rfl ?_); intro w9 R9 g9 e9; have T9 := Lib.hid (T3.out.grown g9 T3.out.size (fun k e => by cases e; exact Nat.le_succ _)); have S9 := Lib.hid R9; clear R9 g9 e9)
        refine bodyPost_ret (vret2 rfl _ S9.out rfl) rfl ?_
        rw [HN.out]
        exact ⟨rfl, T9.out⟩
end Go.Proofs.Yticigjkaangkmaa

