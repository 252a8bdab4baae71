/- Several texts of the proof, joined: what each has is said at its head. -/
import Derived.Test.YtjagonoicaelmaaGreatDoorQBbtD
import Derived.Test.YtjagonoicaelmaaGreatDoorQBbtForm
import Derived.Test.YtjagonoicaelmaaGreatDoorQNandN
/- The contracts of the calls of a table that only look: Len, At, Lost, Spare. Condition: the table is there. -/
namespace Go.Proofs.YtjagonoicaelmaaGreatDoor
open Go.RowKit
section
variable {w : World} {t : Nat} {a : At} {l : Lay}
theorem tlen_any (hT : Tb w t a l) (hok : l.ok) : Calls Tryz.prog 39 #[.pointer (some ⟨t, 0, none⟩)] w fun e w' => e = .returned (.int .i64 ((l.n - 6 : Nat) : Int)) ∧ w = w' := by
  have k1 := lsize_any t 1 l w (hT.lay hok)
  clear hT hok
  go_enter Tryz.func39, Tryz.ntmps39
  go_wp2_with ((with_reducible refine k1.mono ?_); rintro e w' ⟨rfl, rfl⟩)
  go_ret
  exact ⟨rfl, rfl⟩
theorem tspare_any (hT : Tb w t a l) (hok : l.ok) : Calls Tryz.prog 113 #[.pointer (some ⟨t, 0, none⟩)] w fun e w' => e = .returned (.tuple #[.int .i64 ((l.spare.getD 0 : Nat) : Int), .bool l.spare.isSome]) ∧ ∃ k, w' = w.drewN k := by
  have k1 := spare_any t 1 l w (hT.lay hok)
  clear hT hok
  go_enter Tryz.func113, Tryz.ntmps113
  go_wp2_with ((with_reducible refine k1.mono ?_); rintro e w' ⟨rfl, k, rfl⟩)
  go_ret2
  exact ⟨rfl, k, rfl⟩
/-- the block of a logical one, or 0 -/
def Lay.atOf (l : Lay) (b : Int) : Nat := if 0 ≤ b ∧ b < ((l.n - 6 : Nat) : Int) then l.at_.getD b.toNat 0 else 0
set_option maxHeartbeats 2000000 in
theorem tat_any (hT : Tb w t a l) (hok : l.ok) (b : Int) : Calls Tryz.prog 100 #[.pointer (some ⟨t, 0, none⟩), .int .i64 b] w fun e w' => e = .returned (.tuple #[.int .i64 (l.atOf b : Int), .bool (decide (0 ≤ b ∧ b < ((l.n - 6 : Nat) : Int)))]) ∧ w = w' := by
  have k1 := lhas_any t 1 l b w (hT.lay hok)
  have h1 := hok.n2
  unfold Lay.atOf
  by_cases c : 0 ≤ b ∧ b < ((l.n - 6 : Nat) : Int)
  · rw [decide_eq_true c] at k1
    rw [decide_eq_true c, if_pos c]
    obtain ⟨c1, c2⟩ := c
    obtain ⟨m, rfl⟩ : ∃ m : Nat, b = m := ⟨b.toNat, by omega⟩
    rw [Int.toNat_natCast]
    have c0 := (hT.lay hok).at_ (i := m) (by omega)
    have hm : (m : Int) < 34 := by omega
    have hm0 : (0 : Int) ≤ (m : Int) := by omega
    clear hT c1 c2 h1 hok
    go_enter Tryz.func100, Tryz.ntmps100
    go_wp2_with ((with_reducible refine k1.mono ?_); rintro e w' ⟨rfl, rfl⟩)
    go_ret2
    exact ⟨rfl, rfl⟩
  · rw [decide_eq_false c] at k1
    rw [decide_eq_false c, if_neg c]
    clear hT c h1 hok
    go_enter Tryz.func100, Tryz.ntmps100
    go_wp2_with ((with_reducible refine k1.mono ?_); rintro e w' ⟨rfl, rfl⟩)
    go_ret2
    exact ⟨rfl, rfl⟩
end
end Go.Proofs.YtjagonoicaelmaaGreatDoor

/- A chip that is made for a law; the law's own start (the document's example) is true. Condition: the table of the check sum holds its sixteen numbers. -/
namespace Go.Proofs.YtjagonoicaelmaaGreatDoor
open Go.RowKit
theorem freshFits : NM.Pwr.fresh.fits := ⟨by show (-9223372036854775808 : Int) ≤ -1; omega, by show (-1 : Int) < 9223372036854775808; omega⟩
/-- all that the chip changes lies at or behind B -/
def At.behind (a : At) (B : Nat) : Prop := ∀ j, a.all j → B ≤ j
theorem behind_new {g p B : Nat} (hg : B ≤ g) (hp : B ≤ p) : At.behind ⟨g + 1, g, p, none, none⟩ B := fun j hj => by
  rcases hj with (e | e | e | e) | e
  · show B ≤ j; have : j = g + 1 := e; omega
  · have : j = g := e; omega
  · cases e
  · cases e
  · have : j = p := e; omega
theorem Below.chgAll {B : Nat} {a : At} {w w1 w2 : World} (h : Below B w w1) (hc : Chg w1 w2 a.all) (ha : a.behind B) (h0 : B ≤ w.heap.size) : Below B w w2 :=
  h.trans (hc.below ha (Nat.le_trans h0 h.size))
theorem devNew {w w1 : World} (ht : Tab w) (B1 : Below w.heap.size w w1) (p : Nat) (hp : w.heap.size ≤ p) (P1 : PPow w1 p NM.Pwr.fresh) (N : Nat) (hN : 16 ≤ N ∧ N ≤ 40) (zs : List Int) (v : Value) (hv : Nums w1 w1.heap.size .i64 v zs) (hz : badOut N zs = false) :
    Calls Tryz.prog 27 #[.pointer (some ⟨p, 0, none⟩), .int .i64 (N : Int), v] w1 fun e w' =>
      e = .returned (.tuple #[.pointer (some ⟨w1.heap.size + 1, 0, none⟩), .int .i64 0]) ∧ Dev w' ⟨w1.heap.size + 1, w1.heap.size, p, none, none⟩ (Ch.marked N zs) NM.Pwr.fresh ∧ Below w1.heap.size w1 w' := by
  refine (newB_any N hN zs v p NM.Pwr.fresh w1 P1 hv hz).mono ?_
  rintro e w' ⟨rfl, h1, h2⟩
  have hb := behind_new (g := w1.heap.size) B1.size hp
  have hl := ht.lt
  exact ⟨rfl, ⟨h1, P1.after h2, (ht.below B1 hl).below h2 (Nat.lt_of_lt_of_le hl B1.size), fun k hk e => by have := hb k hk; omega, freshFits⟩, h2⟩
theorem markB_getD {N : Nat} (zs : List Int) {b : Nat} (h : b < N) (d : Bk) : (markB N zs).getD b d = { Bk.blank with bad := decide ((b : Int) ∈ zs) } := by
  rw [List.getD_eq_getElem?_getD, List.getElem?_eq_getElem (by rw [markB_length]; exact h), Option.getD_some]
  exact markB_at zs h
theorem marked_calm {N : Nat} (hN : 16 ≤ N) {zs : List Int} (h0 : (0 : Int) ∉ zs) (h1 : (1 : Int) ∉ zs) : Calm (Ch.marked N zs) NM.Pwr.fresh := by
  refine ⟨fun _ => rfl, fun _ => rfl, rfl, rfl, by show (-1 : Int) < 0; omega, by show 16 ≤ (markB N zs).length; rw [markB_length]; exact hN, fun b hb => ?_, fun b hb => ?_⟩
  · show ((markB N zs).getD b _).bad = false
    rw [markB_getD zs (by omega)]
    rcases (show b = 0 ∨ b = 1 by omega) with rfl | rfl
    · exact decide_eq_false h0
    · exact decide_eq_false h1
  · show ((markB N zs).getD b _).pg.length = 8
    rw [markB_getD zs (by omega)]
    rfl
theorem marked_blank {N : Nat} {zs : List Int} {b : Nat} (hb : b < N) (h : (b : Int) ∉ zs) : (Ch.marked N zs).bs.getD b ⟨[], 0, false⟩ = Bk.blank := by
  show (markB N zs).getD b _ = _
  rw [markB_getD zs hb, decide_eq_false h]
  rfl
theorem marked_bad {N : Nat} {zs : List Int} {b : Nat} (hb : b < N) : (Ch.marked N zs).badAt b = decide ((b : Int) ∈ zs) := by
  unfold Ch.badAt Ch.isBad
  rw [if_neg (by show ¬ ((b : Int) < 0 ∨ ((markB N zs).length : Int) ≤ (b : Int)); rw [markB_length]; omega), Int.toNat_natCast]
  show ((markB N zs).getD b _).bad = _
  rw [markB_getD zs hb]
theorem marked_may {N : Nat} (hN : 16 ≤ N) (zs : List Int) : (Ch.marked N zs).mayE NM.Pwr.fresh = 0 := may_here (b := 0) (k := 0) rfl rfl (by show 0 < (markB N zs).length; rw [markB_length]; omega) (by omega)
theorem marked_few (N : Nat) (zs : List Int) (n : Nat) : (Ch.marked N zs).few n := ⟨Nat.zero_le _, Nat.zero_le _, Nat.zero_le _⟩
/-- a list of numbers that a call has made for itself -/
theorem nums_new (w : World) (t : TypeId) (zs : List Int) (hl : zs.length ≤ 1000) (hz : ∀ z ∈ zs, (Lit.int .i64 z).wf = true) : Nums (w.alloc (.cells (zs.map (Value.int .i64)).toArray t)) (w.alloc (.cells (zs.map (Value.int .i64)).toArray t)).heap.size .i64 (.slice (some ⟨w.heap.size, 0, none⟩) zs.length zs.length) zs := by
  refine ⟨_, _, rfl, Nat.le_refl _, Nat.le_trans hl (by unfold maxLen; omega), fun j u hu => ?_, hz⟩
  exact ⟨_, rfl, by simp, by
    have h := Blk.new w t (zs.map (Value.int .i64))
    rw [add_off, Nat.zero_add, h.cell j]
    exact hu⟩
def lay3 : Lay := ⟨16, [2, 4, 5, 6, 7, 8, 9, 10, 11, 12] ++ List.replicate 24 0, (List.range 40).map fun i => decide (i = 3)⟩
theorem fresh3 : (Ch.marked 16 [3]).fresh = some lay3 := by kernel_rfl
theorem lay3_ok : lay3.ok := ⟨by decide, by decide, by decide, by decide⟩
theorem losses3 : lay3.losses = 1 := by kernel_rfl
theorem tptr_ok (t : Nat) : tptr 0 t = .pointer (some ⟨t, 0, none⟩) := if_pos rfl
end Go.Proofs.YtjagonoicaelmaaGreatDoor

/- The walk of BbtNone: it answers true, and changes nothing that was there. Condition: the table of the check sum holds its sixteen numbers. -/
namespace Go.Proofs.YtjagonoicaelmaaGreatDoor
open Go.RowKit
section
variable {w w' : World} {a : At} {S S' : Ch} {s s' : NM.Pwr}
theorem PChip.own_p (h : PChip w a S) : ¬ a.own a.p := by
  rintro (e | e | e | e)
  · exact h.pc e
  · exact h.pg e
  · exact (h.mps _ e).2.2 rfl
  · exact (h.mes _ e).2.2 rfl
theorem Dev.cut (h : Dev w a S s) (g : w.grownBy w' (some a.p)) (hp : PPow w' a.p s') (hf : s'.fits) : Dev w' a S s' := by
  have q : Chg w w' (fun k => k = a.p) := Chg.of_grown g (fun k e => Option.some.inj e)
  exact ⟨h.pc.chg q (fun k hk e => h.pc.own_p (e ▸ hk)), hp, h.tab.chg q (fun e => h.far _ (.inr e) rfl), h.far, hf⟩
theorem Dev.set (h : Dev w a S s) (hc : Chg w w' (fun j => j = a.c)) (hp : PChip w' a S') : Dev w' a S' s :=
  ⟨hp, h.pw.chg hc h.pc.pc, h.tab.chg hc (fun e => h.far _ (.inl (.inl e)) rfl), h.far, h.fits⟩
theorem look_none (h : S.mayE s ≠ 0) : S.lookE s = S.mayE s := if_neg h
theorem open_off (hD : Dev w a S s) (h : S.mayE s ≠ 0) : Calls Tryz.prog 64 #[.pointer (some ⟨a.c, 0, none⟩)] w fun e w' => e = .returned (.tuple #[.pointer none, .int .i64 (S.mayE s)]) ∧ Below w.heap.size w w' := by
  have := open_none hD (by rw [look_none h]; exact h)
  rw [look_none h] at this
  exact this
end
theorem marked_look {N : Nat} (hN : 16 ≤ N) (zs : List Int) : (Ch.marked N zs).lookE NM.Pwr.fresh = 35 := by
  unfold Ch.lookE
  rw [if_pos (marked_may hN zs), lookTo_none (bs := (Ch.marked N zs).bs) (fun i hi => by
    have : pageOf (Ch.marked N zs).bs (i / 8) (i % 8) = NM.ff := by
      show ((markB N zs).getD (i / 8) ⟨[], 0, false⟩).pg.getD (i % 8) [] = NM.ff
      rw [markB_getD zs (by omega)]
      exact ff_pages (by omega)
    rw [this]
    exact tableOf_ff) 16 (Nat.le_refl _)]
  rfl
theorem newE_ok {n : Int} {zs : List Int} (h : newE n zs ≠ 1) : ∃ N : Nat, n = N ∧ 16 ≤ N ∧ N ≤ 40 ∧ badOut N zs = false := by
  unfold newE at h
  split at h
  · exact absurd rfl h
  · rename_i c
    refine ⟨n.toNat, by omega, by omega, by omega, ?_⟩
    rw [show ((n.toNat : Nat) : Int) = n by omega]
    cases e : badOut n zs with
    | false => rfl
    | true => exact absurd (.inr (.inr e)) c
def offPwr : NM.Pwr := NM.Pwr.fresh.cut 0 0
theorem off_erase {N : Nat} (hN : 16 ≤ N) (zs : List Int) : (((Ch.marked N zs).erase 2 offPwr).1).mayE ((Ch.marked N zs).erase 2 offPwr).2.1 = 30 := by
  have hm : NM.may offPwr.off (Ch.marked N zs).live ((Ch.marked N zs).bs.length : Int) 2 0 = 0 := may_here (b := 2) (k := 0) rfl rfl (by show 2 < (markB N zs).length; rw [markB_length]; omega) (by omega)
  have : ((Ch.marked N zs).erase 2 offPwr).2.1 = offPwr.act.1 := by
    unfold Ch.erase
    rw [if_neg (by rw [hm]; simp)]
  unfold Ch.mayE NM.may
  rw [this]
  rfl
theorem dead_may {N : Nat} (zs : List Int) : (Ch.marked N zs).setDead.mayE NM.Pwr.fresh = 31 := rfl
end Go.Proofs.YtjagonoicaelmaaGreatDoor

