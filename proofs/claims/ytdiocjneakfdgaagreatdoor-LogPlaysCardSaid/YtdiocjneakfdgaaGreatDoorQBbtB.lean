/- Several texts of the proof, joined: what each has is said at its head. -/
import Derived.Test.YtdiocjneakfdgaaGreatDoorQBbtK
import Derived.Test.YtdiocjneakfdgaaGreatDoorQBbtFact
import Derived.Test.YtdiocjneakfdgaaGreatDoorRows
import Derived.Test.YtdiocjneakfdgaaGreatDoorQCore
import Derived.Deep.Slices
import Derived.Deep.Fields
import Derived.ChangeSame
/- The contracts of Lose and Swap. Condition: the table is there, and its layout good; few acts so far. -/
namespace Go.Proofs.YtdiocjneakfdgaaGreatDoor
open Go.RowKit
/-- what Lose does, and answers -/
def Ch.losing (S : Ch) (s : NM.Pwr) (l : Lay) (b : Int) : Ch × NM.Pwr × Int := if l.isSpare b then S.keep s (l.setLost b.toNat) else (S, s, 1)
def Ch.lostLay (S : Ch) (s : NM.Pwr) (l : Lay) (b : Int) : Lay := if l.isSpare b then S.lays s l (l.setLost b.toNat) else l
def Lay.swap (l : Lay) (x b : Nat) : Lay := (l.setLost (l.at_.getD x 0)).setAt x b
def Lay.canSwap (l : Lay) (x b : Int) : Bool := decide (0 ≤ x ∧ x < ((l.n - 6 : Nat) : Int)) && l.isSpare b
/-- what Swap does, and answers -/
def Ch.swapping (S : Ch) (s : NM.Pwr) (l : Lay) (x b : Int) : Ch × NM.Pwr × Int := if l.canSwap x b then S.keep s (l.swap x.toNat b.toNat) else (S, s, 1)
def Ch.swapLay (S : Ch) (s : NM.Pwr) (l : Lay) (x b : Int) : Lay := if l.canSwap x b then S.lays s l (l.swap x.toNat b.toNat) else l
theorem Lay.swap_ok {l : Lay} (h : l.ok) (x b : Nat) : (l.swap x b).ok := Lay.setAt_ok (Lay.setLost_ok h _) x b
section
variable {w : World} {t : Nat} {a : At} {l : Lay} {S : Ch} {s : NM.Pwr}
theorem grown2 {w w3 w4 : World} {k : Nat} {o : Obj} (g3 : ((w.drewN k).alloc o).grownBy w3 (some w.heap.size)) (g4 : w3.grownBy w4 (some w.heap.size)) : Below w.heap.size w w4 := by
  have h0 : Below w.heap.size w ((w.drewN k).alloc o) := (drewN_below w k).alloc (Nat.le_refl _) _
  have h3 : Below w.heap.size w w3 := h0.grown g3 h0.size (fun k e => Nat.le_of_eq (Option.some.inj e))
  exact h3.grown g4 h3.size (fun k e => Nat.le_of_eq (Option.some.inj e))
theorem tb_load {p : Value} (h : l.row.length = 75) : ((p :: l.row).drop 1).take 75 = l.row := by
  rw [List.drop_succ_cons, List.drop_zero, List.take_of_length_le (Nat.le_of_eq h)]
set_option maxRecDepth 100000 in
set_option maxHeartbeats 8000000 in
theorem tlose_any (hT : Tb w t a l) (hok : l.ok) (hat : ∀ x ∈ l.at_, x < 40) (hD : Dev w a S s) (hsm : S.few 999700) (b : Int) :
    Calls Tryz.prog 106 #[.pointer (some ⟨t, 0, none⟩), .int .i64 b] w fun e w' => e = .returned (.int .i64 (S.losing s l b).2.2) ∧ Dev w' a (S.losing s l b).1 (S.losing s l b).2.1 ∧ Tb w' t a (S.lostLay s l b) ∧ Chg w w' (fun j => a.all j ∨ j = t) := by
  have k1 := isSpare_any t 1 l b w (hT.lay hok)
  by_cases hb : l.isSpare b = true
  · rw [hb] at k1
    unfold Ch.losing Ch.lostLay
    rw [if_pos hb, if_pos hb]
    obtain ⟨h2, hn⟩ := Lay.isSpare_lt hb
    have h40 := hok.n2
    obtain ⟨m, rfl⟩ : ∃ m : Nat, b = m := ⟨b.toNat, by omega⟩
    rw [Int.toNat_natCast]
    have hm : (m : Int) < 40 := by omega
    have hm0 : (0 : Int) ≤ (m : Int) := by omega
    have hok2 := Lay.setLost_ok hok m
    have k5 := fun (X : World) (hB : Below w.heap.size w X) => keep_any t a l (l.setLost m) hok2 (fun x hx => Nat.lt_trans (hat x hx) (by omega)) S s hsm X (hT.after hB) (hD.after hB)
    have HK := Lib.hid k5
    have HT := Lib.hid hT
    have hrl := Lay.row_length hok
    have HRL := Lib.hid hrl
    have HRL2 := Lib.hid (Lay.row_length hok2)
    have HL0 := Lib.hid Lay.zero_length
    have hs0 := segSet_all (Lay.zero_length.trans hrl.symm)
    have HST := Lib.hid (Lay.row_setLost hok m)
    have HM := Lib.hid (show m < 40 by omega)
    obtain ⟨q, hq⟩ : ∃ q, q = S.keep s (l.setLost m) := ⟨_, rfl⟩
    rw [← hq] at HK ⊢
    obtain ⟨ly, hly⟩ : ∃ ly, ly = S.lays s l (l.setLost m) := ⟨_, rfl⟩
    rw [← hly] at HK ⊢
    have zl := zeroLay
    clear k5 hT hok hat hD hsm hb h2 hn h40 hok2 hrl hq hly
    go_enter Tryz.func106, Tryz.ntmps106
    go_wp2_with (first
      | ((with_reducible refine k1.mono ?_); rintro e w2 ⟨rfl, k, rfl⟩; have T2 : Blk (w.drewN k) t 125 (.pointer (some ⟨a.c, 0, none⟩) :: l.row) := HT.out.blk; have L2 : Blk ((w.drewN k).alloc (.cells (Lay.of 0).row.toArray 123)) w.heap.size 123 (Lay.of 0).row := Blk.new (w.drewN k) _ _)
      | (with_reducible refine wpl_seg_load aggLay sizeLay (.tmp 14) rfl rfl T2 1 l.row (tb_load HRL.out) HRL.out rfl ?_)
      | (with_reducible refine wpl_seg_store sizeLay (.tmp 5) (.tmp 15) rfl rfl L2 0 l.row HRL.out (by rw [HL0.out]; exact Nat.le_refl _) (Lay.one _) rfl rfl _ hs0 ?_; intro w3 L3 g3 e3; clear e3)
      | (with_reducible refine wpl_blk_bool true bool_one (.tmp 18) (.const (.bool true)) rfl rfl L3 (35 + m) (by rw [HRL.out]; have := HM.out; omega) rfl rfl _ HST.out ?_; intro w4 L4 g4 e4; clear e4; simp only [Act.put]; have B4 := grown2 g3 g4; have k6 := HK.out _ B4)
      | (with_reducible refine wpl_seg_load aggLay sizeLay (.tmp 5) rfl rfl L4 0 (l.setLost m).row (by rw [List.drop_zero, List.take_of_length_le (Nat.le_of_eq HRL2.out)]) HRL2.out rfl ?_)
      | ((with_reducible refine k6.mono ?_); rintro e w5 ⟨rfl, D5, T5, c5⟩))
    go_ret
    exact ⟨rfl, D5, T5, (Chg.of_below B4).trans c5⟩
  · have hb' : l.isSpare b = false := by simpa using hb
    rw [hb'] at k1
    unfold Ch.losing Ch.lostLay
    rw [if_neg hb, if_neg hb]
    have HT := Lib.hid hT
    have HD := Lib.hid hD
    clear hT hok hat hD hsm hb hb'
    go_enter Tryz.func106, Tryz.ntmps106
    go_wp2_with ((with_reducible refine k1.mono ?_); rintro e w2 ⟨rfl, k, rfl⟩)
    go_ret
    exact ⟨rfl, HD.out.after (drewN_below w k), HT.out.after (drewN_below w k), Chg.of_below (drewN_below w k)⟩
set_option maxRecDepth 100000 in
set_option maxHeartbeats 8000000 in
theorem tswap_any (hT : Tb w t a l) (hok : l.ok) (hat : ∀ x ∈ l.at_, x < 40) (hD : Dev w a S s) (hsm : S.few 999700) (x b : Int) :
    Calls Tryz.prog 105 #[.pointer (some ⟨t, 0, none⟩), .int .i64 x, .int .i64 b] w fun e w' => e = .returned (.int .i64 (S.swapping s l x b).2.2) ∧ Dev w' a (S.swapping s l x b).1 (S.swapping s l x b).2.1 ∧ Tb w' t a (S.swapLay s l x b) ∧ Chg w w' (fun j => a.all j ∨ j = t) := by
  have k0 := lhas_any t 1 l x w (hT.lay hok)
  have k1 := isSpare_any t 1 l b w (hT.lay hok)
  obtain ⟨h, hh⟩ : ∃ h, h = decide (0 ≤ x ∧ x < ((l.n - 6 : Nat) : Int)) := ⟨_, rfl⟩
  rw [← hh] at k0
  by_cases hb : l.canSwap x b = true
  · have hb0 := hb
    unfold Lay.canSwap at hb0
    rw [Bool.and_eq_true, ← hh] at hb0
    obtain ⟨hx, hb1⟩ := hb0
    rw [hb1] at k1
    have hx' := hx
    rw [hh] at hx'
    obtain ⟨hx0, hx1⟩ := of_decide_eq_true hx'
    rw [hx] at k0
    unfold Ch.swapping Ch.swapLay
    rw [if_pos hb, if_pos hb]
    obtain ⟨h2, hn⟩ := Lay.isSpare_lt hb1
    have h40 := hok.n2
    obtain ⟨m, rfl⟩ : ∃ m : Nat, b = m := ⟨b.toNat, by omega⟩
    obtain ⟨n, rfl⟩ : ∃ n : Nat, x = n := ⟨x.toNat, by omega⟩
    rw [Int.toNat_natCast, Int.toNat_natCast]
    have hn34 : n < 34 := by omega
    have hni : (n : Int) < 34 := by omega
    have hni0 : (0 : Int) ≤ (n : Int) := by omega
    have hm : (m : Int) < 40 := by omega
    have hm0 : (0 : Int) ≤ (m : Int) := by omega
    have hsw : l.swap n m = (l.setLost (l.at_.getD n 0)).setAt n m := rfl
    have hok2 := Lay.swap_ok hok n m
    have hat2 : ∀ z ∈ (l.swap n m).at_, z < 1000 := fun z hz => by
      rcases List.mem_or_eq_of_mem_set hz with h | h
      · exact Nat.lt_trans (hat z h) (by omega)
      · omega
    have k5 := fun (X : World) (hB : Below w.heap.size w X) => keep_any t a l (l.swap n m) hok2 hat2 S s hsm X (hT.after hB) (hD.after hB)
    have hy40 : l.at_.getD n 0 < 40 := by
      rw [List.getD_eq_getElem?_getD, List.getElem?_eq_getElem (by rw [hok.a]; exact hn34)]
      exact hat _ (List.getElem_mem _)
    have hc1 : ∀ (X : World) (g : Nat), Blk X g 123 l.row → X.cell? ⟨g, 1 + n, none⟩ = some (.int .i64 ((l.at_.getD n 0 : Nat) : Int)) := fun X g hX => (hX.cell (1 + n)).trans (Lay.row_at hok hn34)
    obtain ⟨y, hy⟩ : ∃ y, y = l.at_.getD n 0 := ⟨_, rfl⟩
    rw [← hy] at hy40 hc1 hsw
    have hyi : (y : Int) < 40 := by omega
    have hyi0 : (0 : Int) ≤ (y : Int) := by omega
    have HK := Lib.hid k5
    have HT := Lib.hid hT
    have HC1 := Lib.hid hc1
    have hrl := Lay.row_length hok
    have HRL := Lib.hid hrl
    have HRLm := Lib.hid (Lay.row_length (Lay.setLost_ok hok y))
    have HRL2 := Lib.hid (Lay.row_length hok2)
    have HL0 := Lib.hid Lay.zero_length
    have hs0 := segSet_all (Lay.zero_length.trans hrl.symm)
    have HST := Lib.hid (Lay.row_setLost hok y)
    have HSA := Lib.hid ((Lay.row_setAt (Lay.setLost_ok hok y) hn34 m).trans (congrArg Lay.row hsw.symm))
    have HM := Lib.hid (show y < 40 ∧ n < 34 from ⟨hy40, hn34⟩)
    obtain ⟨q, hq⟩ : ∃ q, q = S.keep s (l.swap n m) := ⟨_, rfl⟩
    rw [← hq] at HK ⊢
    obtain ⟨ly, hly⟩ : ∃ ly, ly = S.lays s l (l.swap n m) := ⟨_, rfl⟩
    rw [← hly] at HK ⊢
    have zl := zeroLay
    clear k5 hT hok hat hD hsm hb h2 hn h40 hok2 hrl hq hly hx hx' hx0 hx1 hb1 hh hat2 hc1 hy hsw hy40 hn34
    go_enter Tryz.func105, Tryz.ntmps105
    go_wp2_with (first
      | ((with_reducible refine k0.mono ?_); rintro e w' ⟨rfl, rfl⟩)
      | ((with_reducible refine k1.mono ?_); rintro e w2 ⟨rfl, k, rfl⟩; have T2 : Blk (w.drewN k) t 125 (.pointer (some ⟨a.c, 0, none⟩) :: l.row) := HT.out.blk; have L2 : Blk ((w.drewN k).alloc (.cells (Lay.of 0).row.toArray 123)) w.heap.size 123 (Lay.of 0).row := Blk.new (w.drewN k) _ _)
      | (with_reducible refine wpl_seg_load aggLay sizeLay (.tmp 24) rfl rfl T2 1 l.row (tb_load HRL.out) HRL.out rfl ?_)
      | (with_reducible refine wpl_seg_store sizeLay (.tmp 7) (.tmp 25) rfl rfl L2 0 l.row HRL.out (by rw [HL0.out]; exact Nat.le_refl _) (Lay.one _) rfl rfl _ hs0 ?_; intro w3 L3 g3 e3; clear e3; have c3 := HC1.out _ _ L3)
      | (with_reducible refine wpl_blk_bool true bool_one (.tmp 31) (.const (.bool true)) rfl rfl L3 (35 + y) (by rw [HRL.out]; have := HM.out; omega) rfl rfl _ HST.out ?_; intro w4 L4 g4 e4; clear e4; simp only [Act.put])
      | (with_reducible refine wpl_blk_int .i64 (m : Int) int_one (.tmp 35) (.tmp 33) rfl rfl L4 (1 + n) (by rw [HRLm.out]; have := HM.out; omega) rfl rfl _ HSA.out ?_; intro w5 L5 g5 e5; clear e5; have B5 := (grown2 g3 g4).grown g5 (grown2 g3 g4).size (fun k e => Nat.le_of_eq (Option.some.inj e)); have k6 := HK.out _ B5)
      | (with_reducible refine wpl_seg_load aggLay sizeLay (.tmp 7) rfl rfl L5 0 (l.swap n m).row (by rw [List.drop_zero, List.take_of_length_le (Nat.le_of_eq HRL2.out)]) HRL2.out rfl ?_)
      | ((with_reducible refine k6.mono ?_); rintro e w6 ⟨rfl, D6, T6, c6⟩))
    go_ret
    exact ⟨rfl, D6, T6, (Chg.of_below B5).trans c6⟩
  · unfold Ch.swapping Ch.swapLay
    rw [if_neg hb, if_neg hb]
    have HT := Lib.hid hT
    have HD := Lib.hid hD
    cases h with
    | false =>
      clear hT hok hat hD hsm hb hh k1
      go_enter Tryz.func105, Tryz.ntmps105
      go_wp2_with ((with_reducible refine k0.mono ?_); rintro e w' ⟨rfl, rfl⟩)
      go_ret
      exact ⟨rfl, HD.out, HT.out, Chg.refl w _⟩
    | true =>
      have hb' : l.isSpare b = false := by
        cases e : l.isSpare b with
        | false => rfl
        | true => exact absurd (show l.canSwap x b = true by unfold Lay.canSwap; rw [← hh, e]; rfl) hb
      rw [hb'] at k1
      clear hT hok hat hD hsm hb hh hb'
      go_enter Tryz.func105, Tryz.ntmps105
      go_wp2_with (first
        | ((with_reducible refine k0.mono ?_); rintro e w' ⟨rfl, rfl⟩)
        | ((with_reducible refine k1.mono ?_); rintro e w2 ⟨rfl, k, rfl⟩))
      go_ret
      exact ⟨rfl, HD.out.after (drewN_below w k), HT.out.after (drewN_below w k), Chg.of_below (drewN_below w k)⟩
end
end Go.Proofs.YtdiocjneakfdgaaGreatDoor

/- The argument that is a script of bbt's laws: what it reads as, how an element is loaded and kept. No condition. -/
namespace Go.Proofs.YtdiocjneakfdgaaGreatDoor
open Go.RowKit Go.ChangeShapes Go.WideShapes Go.ChangeAt
/-- a call of a script -/
structure Op5 where
  k : Int
  l : Int
  b : Int
  least : Bool
  bit : Int
instance : Inhabited Op5 := ⟨⟨0, 0, 0, false, 0⟩⟩
def Op5.row (o : Op5) : List Value := [.int .i64 o.k, .int .i64 o.l, .int .i64 o.b, .bool o.least, .int .i64 o.bit]
structure Op5.ok (o : Op5) : Prop where
  k : (Lit.int .i64 o.k).wf = true
  l : (Lit.int .i64 o.l).wf = true
  b : (Lit.int .i64 o.b).wf = true
  bit : (Lit.int .i64 o.bit).wf = true
/-- v is a slice of the calls os -/
def Script5 (w : World) (B : Nat) (v : Value) (os : List Op5) : Prop :=
  ∃ A c, v = .slice A os.length c ∧ os.length ≤ c ∧ c ≤ maxLen ∧ (∀ i o, os[i]? = some o → ∃ a, A = some a ∧ a.block < B ∧ ∀ j u, o.row[j]? = some u → w.cell? (a.add (i * 5 + j)) = some u) ∧ ∀ o ∈ os, o.ok
section
variable {H : Type} {enc : TypeId × Value → H} {w : World} {r : Reach} {base b0 : Nat} {spare : Nat → Bool} {held : Bool} {v : Value} {d : DataW H} {ps : List MemPlace}
end
def zOp5 : List Value := [.int .i64 0, .int .i64 0, .int .i64 0, .bool false, .int .i64 0]
end Go.Proofs.YtdiocjneakfdgaaGreatDoor

/- The contract of the laws' own call of a table. Condition: the table is there, and its layout; few acts so far. -/
namespace Go.Proofs.YtdiocjneakfdgaaGreatDoor
open Go.RowKit
/-- is the call a Lose? -/
def Op5.lose (o : Op5) : Bool := bits .and .i64 o.k 1 == 0
def Ch.doing (S : Ch) (s : NM.Pwr) (l : Lay) (o : Op5) (b : Int) : Ch × NM.Pwr × Int := if o.lose then S.losing s l b else S.swapping s l o.l b
def Ch.doLay (S : Ch) (s : NM.Pwr) (l : Lay) (o : Op5) (b : Int) : Lay := if o.lose then S.lostLay s l b else S.swapLay s l o.l b
section
variable {w : World} {t : Nat} {a : At} {l : Lay} {S : Ch} {s : NM.Pwr}
end
end Go.Proofs.YtdiocjneakfdgaaGreatDoor

