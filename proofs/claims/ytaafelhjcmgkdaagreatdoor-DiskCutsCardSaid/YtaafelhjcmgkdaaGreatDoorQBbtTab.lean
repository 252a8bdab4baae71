/- The contracts of the calls of a table that only look: Len, At, Lost, Spare. Condition: the table is there. -/
import Derived.Test.YtaafelhjcmgkdaaGreatDoorQBbtDev
namespace Go.Proofs.YtaafelhjcmgkdaaGreatDoor
open Go.RowKit
section
variable {w : World} {t : Nat} {a : At} {l : Lay}
theorem tlen_any (hT : Tb w t a l) (hok : l.ok) : Calls Tryz.prog 52 #[.pointer (some ⟨t, 0, none⟩)] w fun e w' => e = .returned (.int .i64 ((l.n - 6 : Nat) : Int)) ∧ w = w' := by
  have k1 := lsize_any t 1 l w (hT.lay hok)
  clear hT hok
  go_enter Tryz.func52, Tryz.ntmps52
  go_wp2_with ((with_reducible refine k1.mono ?_); rintro e w' ⟨rfl, rfl⟩)
  go_ret
  exact ⟨rfl, rfl⟩
theorem tlost_any (hT : Tb w t a l) (hok : l.ok) : Calls Tryz.prog 32 #[.pointer (some ⟨t, 0, none⟩)] w fun e w' => e = .returned (.int .i64 (l.losses : Int)) ∧ w = w' := by
  have k1 := losses_any t 1 l w (hT.lay hok)
  clear hT hok
  go_enter Tryz.func32, Tryz.ntmps32
  go_wp2_with ((with_reducible refine k1.mono ?_); rintro e w' ⟨rfl, rfl⟩)
  go_ret
  exact ⟨rfl, rfl⟩
theorem tspare_any (hT : Tb w t a l) (hok : l.ok) : Calls Tryz.prog 47 #[.pointer (some ⟨t, 0, none⟩)] w fun e w' => e = .returned (.tuple #[.int .i64 ((l.spare.getD 0 : Nat) : Int), .bool l.spare.isSome]) ∧ ∃ k, w' = w.drewN k := by
  have k1 := spare_any t 1 l w (hT.lay hok)
  clear hT hok
  go_enter Tryz.func47, Tryz.ntmps47
  go_wp2_with ((with_reducible refine k1.mono ?_); rintro e w' ⟨rfl, k, rfl⟩)
  go_ret2
  exact ⟨rfl, k, rfl⟩
/-- the block of a logical one, or 0 -/
def Lay.atOf (l : Lay) (b : Int) : Nat := if 0 ≤ b ∧ b < ((l.n - 6 : Nat) : Int) then l.at_.getD b.toNat 0 else 0
set_option maxHeartbeats 2000000 in
theorem tat_any (hT : Tb w t a l) (hok : l.ok) (b : Int) : Calls Tryz.prog 46 #[.pointer (some ⟨t, 0, none⟩), .int .i64 b] w fun e w' => e = .returned (.tuple #[.int .i64 (l.atOf b : Int), .bool (decide (0 ≤ b ∧ b < ((l.n - 6 : Nat) : Int)))]) ∧ w = w' := by
  have k1 := lhas_any t 1 l b w (hT.lay hok)
  have h1 := hok.n2
  unfold Lay.atOf
  by_cases c : 0 ≤ b ∧ b < ((l.n - 6 : Nat) : Int)
  · rw [decide_eq_true c] at k1
    rw [decide_eq_true c, if_pos c]
    obtain ⟨c1, c2⟩ := c
    obtain ⟨m, rfl⟩ : ∃ m : Nat, b = m := ⟨b.toNat, by omega⟩
    rw [Int.toNat_natCast]
    have c0 := (hT.lay hok).at_ (i := m) (by omega)
    have hm : (m : Int) < 34 := by omega
    have hm0 : (0 : Int) ≤ (m : Int) := by omega
    clear hT c1 c2 h1 hok
    go_enter Tryz.func46, Tryz.ntmps46
    go_wp2_with ((with_reducible refine k1.mono ?_); rintro e w' ⟨rfl, rfl⟩)
    go_ret2
    exact ⟨rfl, rfl⟩
  · rw [decide_eq_false c] at k1
    rw [decide_eq_false c, if_neg c]
    clear hT c h1 hok
    go_enter Tryz.func46, Tryz.ntmps46
    go_wp2_with ((with_reducible refine k1.mono ?_); rintro e w' ⟨rfl, rfl⟩)
    go_ret2
    exact ⟨rfl, rfl⟩
end
end Go.Proofs.YtaafelhjcmgkdaaGreatDoor

