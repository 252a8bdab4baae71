/- The contracts of the reference's Live and may: they only read. No condition but what the chip's block holds. -/
import Derived.Test.YtjdegfblacbkoaaNandPower
namespace Go.Proofs.Ytjdegfblacbkoaa
open Go.RowKit
theorem refLive_any (c : Nat) (cs : List Value) (dead out : Bool) (h4 : cs[4]? = some (.bool dead)) (h5 : cs[5]? = some (.bool out)) (w : World) (hB : Blk w c 53 cs) :
    Calls Try.prog 14 #[.pointer (some ⟨c, 0, none⟩)] w fun e w' => e = .returned (.bool (!dead && !out)) ∧ w = w' := by
  have e4 := (hB.cell 4).trans h4
  have e5 := (hB.cell 5).trans h5
  cases dead
  · go_enter Try.func14, Try.ntmps14
    go_wp2
    go_ret
    exact ⟨rfl, rfl⟩
  · go_enter Try.func14, Try.ntmps14
    go_wp2
    go_ret
    exact ⟨rfl, rfl⟩
/-- may a page of so many blocks be asked for? the error's number -/
def NM.may (off live : Bool) (M b k : Int) : Int := if off then 30 else if live then (if b < 0 ∨ M ≤ b ∨ k < 0 ∨ 7 < k then 1 else 0) else 31
set_option maxHeartbeats 1000000 in
theorem refMay_any (c p : Nat) (cs : List Value) (dead out : Bool) (A : Option Addr) (M : Nat) (s : NM.Pwr) (h0 : cs[0]? = some (.pointer (some ⟨p, 0, none⟩))) (h2 : cs[2]? = some (.slice A M M)) (h4 : cs[4]? = some (.bool dead)) (h5 : cs[5]? = some (.bool out)) (b k : Int) (w : World) (hB : Blk w c 53 cs) (hP : RPow w p s) :
    Calls Try.prog 40 #[.pointer (some ⟨c, 0, none⟩), .int .i64 b, .int .i64 k] w fun e w' => e = .returned (.int .i64 (NM.may s.off (!dead && !out) M b k)) ∧ w = w' := by
  have hl := refLive_any c cs dead out h4 h5 w hB
  have e0 := (hB.cell 0).trans h0
  have e2 := (hB.cell 2).trans h2
  obtain ⟨off, a0, k0⟩ := s
  have e3 : w.cell? ⟨p, 0, none⟩ = some (.bool off) := Blk.cell hP 0
  obtain ⟨lv, hlv⟩ : ∃ lv, lv = (!dead && !out) := ⟨_, rfl⟩
  rw [← hlv] at hl ⊢
  have HB := Lib.hid hB
  have HP := Lib.hid hP
  clear hlv hB hP h0 h2 h4 h5
  unfold NM.may
  cases off
  · cases lv
    · go_enter Try.func40, Try.ntmps40
      go_wp2_with fail
      ((with_reducible refine hl.mono ?_); rintro e w' ⟨rfl, rfl⟩)
      go_wp2
      go_ret
      exact ⟨rfl, rfl⟩
    · by_cases c1 : b < 0
      · have d1 : decide (b < 0) = true := by simp [c1]
        rw [if_neg (by simp), if_pos rfl, if_pos (.inl c1)]
        clear c1
        go_enter Try.func40, Try.ntmps40
        go_wp2_with fail
        ((with_reducible refine hl.mono ?_); rintro e w' ⟨rfl, rfl⟩)
        go_wp2
        go_ret
        exact ⟨rfl, rfl⟩
      · have d1 : decide (b < 0) = false := by simp [c1]
        by_cases c2 : (M : Int) ≤ b
        · have d2 : decide ((M : Int) ≤ b) = true := by simp [c2]
          rw [if_neg (by simp), if_pos rfl, if_pos (.inr (.inl c2))]
          clear c1 c2
          go_enter Try.func40, Try.ntmps40
          go_wp2_with fail
          ((with_reducible refine hl.mono ?_); rintro e w' ⟨rfl, rfl⟩)
          go_wp2
          go_ret
          exact ⟨rfl, rfl⟩
        · have d2 : decide ((M : Int) ≤ b) = false := by simp [c2]
          by_cases c3 : k < 0
          · have d3 : decide (k < 0) = true := by simp [c3]
            rw [if_neg (by simp), if_pos rfl, if_pos (.inr (.inr (.inl c3)))]
            clear c1 c2 c3
            go_enter Try.func40, Try.ntmps40
            go_wp2_with fail
            ((with_reducible refine hl.mono ?_); rintro e w' ⟨rfl, rfl⟩)
            go_wp2
            go_ret
            exact ⟨rfl, rfl⟩
          · have d3 : decide (k < 0) = false := by simp [c3]
            by_cases c4 : 7 < k
            · have d4 : decide (7 < k) = true := by simp [c4]
              rw [if_neg (by simp), if_pos rfl, if_pos (.inr (.inr (.inr c4)))]
              clear c1 c2 c3 c4
              go_enter Try.func40, Try.ntmps40
              go_wp2_with fail
              ((with_reducible refine hl.mono ?_); rintro e w' ⟨rfl, rfl⟩)
              go_wp2
              go_ret
              exact ⟨rfl, rfl⟩
            · have d4 : decide (7 < k) = false := by simp [c4]
              rw [if_neg (by simp), if_pos rfl, if_neg (by omega)]
              clear c1 c2 c3 c4
              go_enter Try.func40, Try.ntmps40
              go_wp2_with fail
              ((with_reducible refine hl.mono ?_); rintro e w' ⟨rfl, rfl⟩)
              go_wp2
              go_ret
              exact ⟨rfl, rfl⟩
  · go_enter Try.func40, Try.ntmps40
    go_wp2
    go_ret
    exact ⟨rfl, rfl⟩
end Go.Proofs.Ytjdegfblacbkoaa
