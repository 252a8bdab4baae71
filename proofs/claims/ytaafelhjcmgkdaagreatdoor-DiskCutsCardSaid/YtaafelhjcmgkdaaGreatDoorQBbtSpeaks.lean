/- A chip that is made for a law; the law's own start (the document's example) is true. Condition: the table of the check sum holds its sixteen numbers. -/
import Derived.Test.YtaafelhjcmgkdaaGreatDoorQBbtForm
import Derived.Test.YtaafelhjcmgkdaaGreatDoorQBbtTab
import Derived.Test.YtaafelhjcmgkdaaGreatDoorQNandBad
namespace Go.Proofs.YtaafelhjcmgkdaaGreatDoor
open Go.RowKit
theorem freshFits : NM.Pwr.fresh.fits := ⟨by show (-9223372036854775808 : Int) ≤ -1; omega, by show (-1 : Int) < 9223372036854775808; omega⟩
/-- all that the chip changes lies at or behind B -/
def At.behind (a : At) (B : Nat) : Prop := ∀ j, a.all j → B ≤ j
theorem behind_new {g p B : Nat} (hg : B ≤ g) (hp : B ≤ p) : At.behind ⟨g + 1, g, p, none, none⟩ B := fun j hj => by
  rcases hj with (e | e | e | e) | e
  · show B ≤ j; have : j = g + 1 := e; omega
  · have : j = g := e; omega
  · cases e
  · cases e
  · have : j = p := e; omega
theorem Below.chgAll {B : Nat} {a : At} {w w1 w2 : World} (h : Below B w w1) (hc : Chg w1 w2 a.all) (ha : a.behind B) (h0 : B ≤ w.heap.size) : Below B w w2 :=
  h.trans (hc.below ha (Nat.le_trans h0 h.size))
theorem devNew {w w1 : World} (ht : Tab w) (B1 : Below w.heap.size w w1) (p : Nat) (hp : w.heap.size ≤ p) (P1 : PPow w1 p NM.Pwr.fresh) (N : Nat) (hN : 16 ≤ N ∧ N ≤ 40) (zs : List Int) (v : Value) (hv : Nums w1 w1.heap.size .i64 v zs) (hz : badOut N zs = false) :
    Calls Tryz.prog 19 #[.pointer (some ⟨p, 0, none⟩), .int .i64 (N : Int), v] w1 fun e w' =>
      e = .returned (.tuple #[.pointer (some ⟨w1.heap.size + 1, 0, none⟩), .int .i64 0]) ∧ Dev w' ⟨w1.heap.size + 1, w1.heap.size, p, none, none⟩ (Ch.marked N zs) NM.Pwr.fresh ∧ Below w1.heap.size w1 w' := by
  refine (newB_any N hN zs v p NM.Pwr.fresh w1 P1 hv hz).mono ?_
  rintro e w' ⟨rfl, h1, h2⟩
  have hb := behind_new (g := w1.heap.size) B1.size hp
  have hl := ht.lt
  exact ⟨rfl, ⟨h1, P1.after h2, (ht.below B1 hl).below h2 (Nat.lt_of_lt_of_le hl B1.size), fun k hk e => by have := hb k hk; omega, freshFits⟩, h2⟩
theorem markB_getD {N : Nat} (zs : List Int) {b : Nat} (h : b < N) (d : Bk) : (markB N zs).getD b d = { Bk.blank with bad := decide ((b : Int) ∈ zs) } := by
  rw [List.getD_eq_getElem?_getD, List.getElem?_eq_getElem (by rw [markB_length]; exact h), Option.getD_some]
  exact markB_at zs h
theorem marked_calm {N : Nat} (hN : 16 ≤ N) {zs : List Int} (h0 : (0 : Int) ∉ zs) (h1 : (1 : Int) ∉ zs) : Calm (Ch.marked N zs) NM.Pwr.fresh := by
  refine ⟨fun _ => rfl, fun _ => rfl, rfl, rfl, by show (-1 : Int) < 0; omega, by show 16 ≤ (markB N zs).length; rw [markB_length]; exact hN, fun b hb => ?_, fun b hb => ?_⟩
  · show ((markB N zs).getD b _).bad = false
    rw [markB_getD zs (by omega)]
    rcases (show b = 0 ∨ b = 1 by omega) with rfl | rfl
    · exact decide_eq_false h0
    · exact decide_eq_false h1
  · show ((markB N zs).getD b _).pg.length = 8
    rw [markB_getD zs (by omega)]
    rfl
theorem marked_blank {N : Nat} {zs : List Int} {b : Nat} (hb : b < N) (h : (b : Int) ∉ zs) : (Ch.marked N zs).bs.getD b ⟨[], 0, false⟩ = Bk.blank := by
  show (markB N zs).getD b _ = _
  rw [markB_getD zs hb, decide_eq_false h]
  rfl
theorem marked_bad {N : Nat} {zs : List Int} {b : Nat} (hb : b < N) : (Ch.marked N zs).badAt b = decide ((b : Int) ∈ zs) := by
  unfold Ch.badAt Ch.isBad
  rw [if_neg (by show ¬ ((b : Int) < 0 ∨ ((markB N zs).length : Int) ≤ (b : Int)); rw [markB_length]; omega), Int.toNat_natCast]
  show ((markB N zs).getD b _).bad = _
  rw [markB_getD zs hb]
theorem marked_may {N : Nat} (hN : 16 ≤ N) (zs : List Int) : (Ch.marked N zs).mayE NM.Pwr.fresh = 0 := may_here (b := 0) (k := 0) rfl rfl (by show 0 < (markB N zs).length; rw [markB_length]; omega) (by omega)
theorem marked_few (N : Nat) (zs : List Int) (n : Nat) : (Ch.marked N zs).few n := ⟨Nat.zero_le _, Nat.zero_le _, Nat.zero_le _⟩
/-- a list of numbers that a call has made for itself -/
theorem nums_new (w : World) (t : TypeId) (zs : List Int) (hl : zs.length ≤ 1000) (hz : ∀ z ∈ zs, (Lit.int .i64 z).wf = true) : Nums (w.alloc (.cells (zs.map (Value.int .i64)).toArray t)) (w.alloc (.cells (zs.map (Value.int .i64)).toArray t)).heap.size .i64 (.slice (some ⟨w.heap.size, 0, none⟩) zs.length zs.length) zs := by
  refine ⟨_, _, rfl, Nat.le_refl _, Nat.le_trans hl (by unfold maxLen; omega), fun j u hu => ?_, hz⟩
  exact ⟨_, rfl, by simp, by
    have h := Blk.new w t (zs.map (Value.int .i64))
    rw [add_off, Nat.zero_add, h.cell j]
    exact hu⟩
def lay3 : Lay := ⟨16, [2, 4, 5, 6, 7, 8, 9, 10, 11, 12] ++ List.replicate 24 0, (List.range 40).map fun i => decide (i = 3)⟩
theorem fresh3 : (Ch.marked 16 [3]).fresh = some lay3 := by kernel_rfl
theorem lay3_ok : lay3.ok := ⟨by decide, by decide, by decide, by decide⟩
theorem losses3 : lay3.losses = 1 := by kernel_rfl
theorem tptr_ok (t : Nat) : tptr 0 t = .pointer (some ⟨t, 0, none⟩) := if_pos rfl
end Go.Proofs.YtaafelhjcmgkdaaGreatDoor

