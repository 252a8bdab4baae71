/- Several texts of the proof, joined: what each has is said at its head. -/
import Derived.Test.YtdiocjneakfdgaaGreatDoorQBbtD
import Derived.Test.YtdiocjneakfdgaaGreatDoorQBbtForm
import Derived.Test.YtdiocjneakfdgaaGreatDoorQNandN
/- The contracts of the calls of a table that only look: Len, At, Lost, Spare. Condition: the table is there. -/
namespace Go.Proofs.YtdiocjneakfdgaaGreatDoor
open Go.RowKit
section
variable {w : World} {t : Nat} {a : At} {l : Lay}
theorem tlen_any (hT : Tb w t a l) (hok : l.ok) : Calls Tryz.prog 31 #[.pointer (some ⟨t, 0, none⟩)] w fun e w' => e = .returned (.int .i64 ((l.n - 6 : Nat) : Int)) ∧ w = w' := by
  have k1 := lsize_any t 1 l w (hT.lay hok)
  clear hT hok
  go_enter Tryz.func31, Tryz.ntmps31
  go_wp2_with ((with_reducible refine k1.mono ?_); rintro e w' ⟨rfl, rfl⟩)
  go_ret
  exact ⟨rfl, rfl⟩
theorem tspare_any (hT : Tb w t a l) (hok : l.ok) : Calls Tryz.prog 102 #[.pointer (some ⟨t, 0, none⟩)] w fun e w' => e = .returned (.tuple #[.int .i64 ((l.spare.getD 0 : Nat) : Int), .bool l.spare.isSome]) ∧ ∃ k, w' = w.drewN k := by
  have k1 := spare_any t 1 l w (hT.lay hok)
  clear hT hok
  go_enter Tryz.func102, Tryz.ntmps102
  go_wp2_with ((with_reducible refine k1.mono ?_); rintro e w' ⟨rfl, k, rfl⟩)
  go_ret2
  exact ⟨rfl, k, rfl⟩
/-- the block of a logical one, or 0 -/
def Lay.atOf (l : Lay) (b : Int) : Nat := if 0 ≤ b ∧ b < ((l.n - 6 : Nat) : Int) then l.at_.getD b.toNat 0 else 0
set_option maxHeartbeats 2000000 in
theorem tat_any (hT : Tb w t a l) (hok : l.ok) (b : Int) : Calls Tryz.prog 101 #[.pointer (some ⟨t, 0, none⟩), .int .i64 b] w fun e w' => e = .returned (.tuple #[.int .i64 (l.atOf b : Int), .bool (decide (0 ≤ b ∧ b < ((l.n - 6 : Nat) : Int)))]) ∧ w = w' := by
  have k1 := lhas_any t 1 l b w (hT.lay hok)
  have h1 := hok.n2
  unfold Lay.atOf
  by_cases c : 0 ≤ b ∧ b < ((l.n - 6 : Nat) : Int)
  · rw [decide_eq_true c] at k1
    rw [decide_eq_true c, if_pos c]
    obtain ⟨c1, c2⟩ := c
    obtain ⟨m, rfl⟩ : ∃ m : Nat, b = m := ⟨b.toNat, by omega⟩
    rw [Int.toNat_natCast]
    have c0 := (hT.lay hok).at_ (i := m) (by omega)
    have hm : (m : Int) < 34 := by omega
    have hm0 : (0 : Int) ≤ (m : Int) := by omega
    clear hT c1 c2 h1 hok
    go_enter Tryz.func101, Tryz.ntmps101
    go_wp2_with ((with_reducible refine k1.mono ?_); rintro e w' ⟨rfl, rfl⟩)
    go_ret2
    exact ⟨rfl, rfl⟩
  · rw [decide_eq_false c] at k1
    rw [decide_eq_false c, if_neg c]
    clear hT c h1 hok
    go_enter Tryz.func101, Tryz.ntmps101
    go_wp2_with ((with_reducible refine k1.mono ?_); rintro e w' ⟨rfl, rfl⟩)
    go_ret2
    exact ⟨rfl, rfl⟩
end
end Go.Proofs.YtdiocjneakfdgaaGreatDoor

/- A chip that is made for a law; the law's own start (the document's example) is true. Condition: the table of the check sum holds its sixteen numbers. -/
namespace Go.Proofs.YtdiocjneakfdgaaGreatDoor
open Go.RowKit
theorem freshFits : NM.Pwr.fresh.fits := ⟨by show (-9223372036854775808 : Int) ≤ -1; omega, by show (-1 : Int) < 9223372036854775808; omega⟩
/-- all that the chip changes lies at or behind B -/
def At.behind (a : At) (B : Nat) : Prop := ∀ j, a.all j → B ≤ j
theorem behind_new {g p B : Nat} (hg : B ≤ g) (hp : B ≤ p) : At.behind ⟨g + 1, g, p, none, none⟩ B := fun j hj => by
  rcases hj with (e | e | e | e) | e
  · show B ≤ j; have : j = g + 1 := e; omega
  · have : j = g := e; omega
  · cases e
  · cases e
  · have : j = p := e; omega
theorem Below.chgAll {B : Nat} {a : At} {w w1 w2 : World} (h : Below B w w1) (hc : Chg w1 w2 a.all) (ha : a.behind B) (h0 : B ≤ w.heap.size) : Below B w w2 :=
  h.trans (hc.below ha (Nat.le_trans h0 h.size))
theorem devNew {w w1 : World} (ht : Tab w) (B1 : Below w.heap.size w w1) (p : Nat) (hp : w.heap.size ≤ p) (P1 : PPow w1 p NM.Pwr.fresh) (N : Nat) (hN : 16 ≤ N ∧ N ≤ 40) (zs : List Int) (v : Value) (hv : Nums w1 w1.heap.size .i64 v zs) (hz : badOut N zs = false) :
    Calls Tryz.prog 18 #[.pointer (some ⟨p, 0, none⟩), .int .i64 (N : Int), v] w1 fun e w' =>
      e = .returned (.tuple #[.pointer (some ⟨w1.heap.size + 1, 0, none⟩), .int .i64 0]) ∧ Dev w' ⟨w1.heap.size + 1, w1.heap.size, p, none, none⟩ (Ch.marked N zs) NM.Pwr.fresh ∧ Below w1.heap.size w1 w' := by
  refine (newB_any N hN zs v p NM.Pwr.fresh w1 P1 hv hz).mono ?_
  rintro e w' ⟨rfl, h1, h2⟩
  have hb := behind_new (g := w1.heap.size) B1.size hp
  have hl := ht.lt
  exact ⟨rfl, ⟨h1, P1.after h2, (ht.below B1 hl).below h2 (Nat.lt_of_lt_of_le hl B1.size), fun k hk e => by have := hb k hk; omega, freshFits⟩, h2⟩
theorem markB_getD {N : Nat} (zs : List Int) {b : Nat} (h : b < N) (d : Bk) : (markB N zs).getD b d = { Bk.blank with bad := decide ((b : Int) ∈ zs) } := by
  rw [List.getD_eq_getElem?_getD, List.getElem?_eq_getElem (by rw [markB_length]; exact h), Option.getD_some]
  exact markB_at zs h
theorem marked_calm {N : Nat} (hN : 16 ≤ N) {zs : List Int} (h0 : (0 : Int) ∉ zs) (h1 : (1 : Int) ∉ zs) : Calm (Ch.marked N zs) NM.Pwr.fresh := by
  refine ⟨fun _ => rfl, fun _ => rfl, rfl, rfl, by show (-1 : Int) < 0; omega, by show 16 ≤ (markB N zs).length; rw [markB_length]; exact hN, fun b hb => ?_, fun b hb => ?_⟩
  · show ((markB N zs).getD b _).bad = false
    rw [markB_getD zs (by omega)]
    rcases (show b = 0 ∨ b = 1 by omega) with rfl | rfl
    · exact decide_eq_false h0
    · exact decide_eq_false h1
  · show ((markB N zs).getD b _).pg.length = 8
    rw [markB_getD zs (by omega)]
    rfl
theorem marked_blank {N : Nat} {zs : List Int} {b : Nat} (hb : b < N) (h : (b : Int) ∉ zs) : (Ch.marked N zs).bs.getD b ⟨[], 0, false⟩ = Bk.blank := by
  show (markB N zs).getD b _ = _
  rw [markB_getD zs hb, decide_eq_false h]
  rfl
theorem marked_may {N : Nat} (hN : 16 ≤ N) (zs : List Int) : (Ch.marked N zs).mayE NM.Pwr.fresh = 0 := may_here (b := 0) (k := 0) rfl rfl (by show 0 < (markB N zs).length; rw [markB_length]; omega) (by omega)
theorem marked_few (N : Nat) (zs : List Int) (n : Nat) : (Ch.marked N zs).few n := ⟨Nat.zero_le _, Nat.zero_le _, Nat.zero_le _⟩
def lay3 : Lay := ⟨16, [2, 4, 5, 6, 7, 8, 9, 10, 11, 12] ++ List.replicate 24 0, (List.range 40).map fun i => decide (i = 3)⟩
end Go.Proofs.YtdiocjneakfdgaaGreatDoor

/- The walk of BbtNone: it answers true, and changes nothing that was there. Condition: the table of the check sum holds its sixteen numbers. -/
namespace Go.Proofs.YtdiocjneakfdgaaGreatDoor
open Go.RowKit
section
variable {w w' : World} {a : At} {S S' : Ch} {s s' : NM.Pwr}
end
def offPwr : NM.Pwr := NM.Pwr.fresh.cut 0 0
end Go.Proofs.YtdiocjneakfdgaaGreatDoor

