/- Several texts of the proof, joined: what each has is said at its head. -/
import Derived.Test.YtnemlbnmnijghaaDoorQBbtKeep
import Derived.Test.YtnemlbnmnijghaaDoorQBbtFact
import Derived.Test.YtnemlbnmnijghaaDoorRows
import Derived.Test.YtnemlbnmnijghaaDoorQCore
import Derived.Deep.Slices
import Derived.Deep.Fields
import Derived.ChangeSame
/- The contracts of Lose and Swap. Condition: the table is there, and its layout good; few acts so far. -/
namespace Go.Proofs.YtnemlbnmnijghaaDoor
open Go.RowKit
/-- what Lose does, and answers -/
def Ch.losing (S : Ch) (s : NM.Pwr) (l : Lay) (b : Int) : Ch × NM.Pwr × Int := if l.isSpare b then S.keep s (l.setLost b.toNat) else (S, s, 1)
def Ch.lostLay (S : Ch) (s : NM.Pwr) (l : Lay) (b : Int) : Lay := if l.isSpare b then S.lays s l (l.setLost b.toNat) else l
def Lay.swap (l : Lay) (x b : Nat) : Lay := (l.setLost (l.at_.getD x 0)).setAt x b
def Lay.canSwap (l : Lay) (x b : Int) : Bool := decide (0 ≤ x ∧ x < ((l.n - 6 : Nat) : Int)) && l.isSpare b
/-- what Swap does, and answers -/
def Ch.swapping (S : Ch) (s : NM.Pwr) (l : Lay) (x b : Int) : Ch × NM.Pwr × Int := if l.canSwap x b then S.keep s (l.swap x.toNat b.toNat) else (S, s, 1)
def Ch.swapLay (S : Ch) (s : NM.Pwr) (l : Lay) (x b : Int) : Lay := if l.canSwap x b then S.lays s l (l.swap x.toNat b.toNat) else l
theorem Lay.swap_ok {l : Lay} (h : l.ok) (x b : Nat) : (l.swap x b).ok := Lay.setAt_ok (Lay.setLost_ok h _) x b
section
variable {w : World} {t : Nat} {a : At} {l : Lay} {S : Ch} {s : NM.Pwr}
theorem grown2 {w w3 w4 : World} {k : Nat} {o : Obj} (g3 : ((w.drewN k).alloc o).grownBy w3 (some w.heap.size)) (g4 : w3.grownBy w4 (some w.heap.size)) : Below w.heap.size w w4 := by
  have h0 : Below w.heap.size w ((w.drewN k).alloc o) := (drewN_below w k).alloc (Nat.le_refl _) _
  have h3 : Below w.heap.size w w3 := h0.grown g3 h0.size (fun k e => Nat.le_of_eq (Option.some.inj e))
  exact h3.grown g4 h3.size (fun k e => Nat.le_of_eq (Option.some.inj e))
theorem tb_load {p : Value} (h : l.row.length = 75) : ((p :: l.row).drop 1).take 75 = l.row := by
  rw [List.drop_succ_cons, List.drop_zero, List.take_of_length_le (Nat.le_of_eq h)]
set_option maxRecDepth 100000 in
set_option maxHeartbeats 8000000 in
theorem tlose_any (hT : Tb w t a l) (hok : l.ok) (hat : ∀ x ∈ l.at_, x < 40) (hD : Dev w a S s) (hsm : S.few 999700) (b : Int) :
    Calls Tryd.prog 51 #[.pointer (some ⟨t, 0, none⟩), .int .i64 b] w fun e w' => e = .returned (.int .i64 (S.losing s l b).2.2) ∧ Dev w' a (S.losing s l b).1 (S.losing s l b).2.1 ∧ Tb w' t a (S.lostLay s l b) ∧ Chg w w' (fun j => a.all j ∨ j = t) := by
  have k1 := isSpare_any t 1 l b w (hT.lay hok)
  by_cases hb : l.isSpare b = true
  · rw [hb] at k1
    unfold Ch.losing Ch.lostLay
    rw [if_pos hb, if_pos hb]
    obtain ⟨h2, hn⟩ := Lay.isSpare_lt hb
    have h40 := hok.n2
    obtain ⟨m, rfl⟩ : ∃ m : Nat, b = m := ⟨b.toNat, by omega⟩
    rw [Int.toNat_natCast]
    have hm : (m : Int) < 40 := by omega
    have hm0 : (0 : Int) ≤ (m : Int) := by omega
    have hok2 := Lay.setLost_ok hok m
    have k5 := fun (X : World) (hB : Below w.heap.size w X) => keep_any t a l (l.setLost m) hok2 (fun x hx => Nat.lt_trans (hat x hx) (by omega)) S s hsm X (hT.after hB) (hD.after hB)
    have HK := Lib.hid k5
    have HT := Lib.hid hT
    have hrl := Lay.row_length hok
    have HRL := Lib.hid hrl
    have HRL2 := Lib.hid (Lay.row_length hok2)
    have HL0 := Lib.hid Lay.zero_length
    have hs0 := segSet_all (Lay.zero_length.trans hrl.symm)
    have HST := Lib.hid (Lay.row_setLost hok m)
    have HM := Lib.hid (show m < 40 by omega)
    obtain ⟨q, hq⟩ : ∃ q, q = S.keep s (l.setLost m) := ⟨_, rfl⟩
    rw [← hq] at HK ⊢
    obtain ⟨ly, hly⟩ : ∃ ly, ly = S.lays s l (l.setLost m) := ⟨_, rfl⟩
    rw [← hly] at HK ⊢
    have zl := zeroLay
    clear k5 hT hok hat hD hsm hb h2 hn h40 hok2 hrl hq hly
    go_enter Tryd.func51, Tryd.ntmps51
    go_wp2_with (first
      | ((with_reducible refine k1.mono ?_); rintro e w2 ⟨rfl, k, rfl⟩; have T2 : Blk (w.drewN k) t 97 (.pointer (some ⟨a.c, 0, none⟩) :: l.row) := HT.out.blk; have L2 : Blk ((w.drewN k).alloc (.cells (Lay.of 0).row.toArray 93)) w.heap.size 93 (Lay.of 0).row := Blk.new (w.drewN k) _ _)
      | (with_reducible refine wpl_seg_load aggLay sizeLay (.tmp 14) rfl rfl T2 1 l.row (tb_load HRL.out) HRL.out rfl ?_)
      | (with_reducible refine wpl_seg_store sizeLay (.tmp 5) (.tmp 15) rfl rfl L2 0 l.row HRL.out (by rw [HL0.out]; exact Nat.le_refl _) (Lay.one _) rfl rfl _ hs0 ?_; intro w3 L3 g3 e3; clear e3)
      | (with_reducible refine wpl_blk_bool true bool_one (.tmp 18) (.const (.bool true)) rfl rfl L3 (35 + m) (by rw [HRL.out]; have := HM.out; omega) rfl rfl _ HST.out ?_; intro w4 L4 g4 e4; clear e4; simp only [Act.put]; have B4 := grown2 g3 g4; have k6 := HK.out _ B4)
      | (with_reducible refine wpl_seg_load aggLay sizeLay (.tmp 5) rfl rfl L4 0 (l.setLost m).row (by rw [List.drop_zero, List.take_of_length_le (Nat.le_of_eq HRL2.out)]) HRL2.out rfl ?_)
      | ((with_reducible refine k6.mono ?_); rintro e w5 ⟨rfl, D5, T5, c5⟩))
    go_ret
    exact ⟨rfl, D5, T5, (Chg.of_below B4).trans c5⟩
  · have hb' : l.isSpare b = false := by simpa using hb
    rw [hb'] at k1
    unfold Ch.losing Ch.lostLay
    rw [if_neg hb, if_neg hb]
    have HT := Lib.hid hT
    have HD := Lib.hid hD
    clear hT hok hat hD hsm hb hb'
    go_enter Tryd.func51, Tryd.ntmps51
    go_wp2_with ((with_reducible refine k1.mono ?_); rintro e w2 ⟨rfl, k, rfl⟩)
    go_ret
    exact ⟨rfl, HD.out.after (drewN_below w k), HT.out.after (drewN_below w k), Chg.of_below (drewN_below w k)⟩
set_option maxRecDepth 100000 in
set_option maxHeartbeats 8000000 in
theorem tswap_any (hT : Tb w t a l) (hok : l.ok) (hat : ∀ x ∈ l.at_, x < 40) (hD : Dev w a S s) (hsm : S.few 999700) (x b : Int) :
    Calls Tryd.prog 52 #[.pointer (some ⟨t, 0, none⟩), .int .i64 x, .int .i64 b] w fun e w' => e = .returned (.int .i64 (S.swapping s l x b).2.2) ∧ Dev w' a (S.swapping s l x b).1 (S.swapping s l x b).2.1 ∧ Tb w' t a (S.swapLay s l x b) ∧ Chg w w' (fun j => a.all j ∨ j = t) := by
  have k0 := lhas_any t 1 l x w (hT.lay hok)
  have k1 := isSpare_any t 1 l b w (hT.lay hok)
  obtain ⟨h, hh⟩ : ∃ h, h = decide (0 ≤ x ∧ x < ((l.n - 6 : Nat) : Int)) := ⟨_, rfl⟩
  rw [← hh] at k0
  by_cases hb : l.canSwap x b = true
  · have hb0 := hb
    unfold Lay.canSwap at hb0
    rw [Bool.and_eq_true, ← hh] at hb0
    obtain ⟨hx, hb1⟩ := hb0
    rw [hb1] at k1
    have hx' := hx
    rw [hh] at hx'
    obtain ⟨hx0, hx1⟩ := of_decide_eq_true hx'
    rw [hx] at k0
    unfold Ch.swapping Ch.swapLay
    rw [if_pos hb, if_pos hb]
    obtain ⟨h2, hn⟩ := Lay.isSpare_lt hb1
    have h40 := hok.n2
    obtain ⟨m, rfl⟩ : ∃ m : Nat, b = m := ⟨b.toNat, by omega⟩
    obtain ⟨n, rfl⟩ : ∃ n : Nat, x = n := ⟨x.toNat, by omega⟩
    rw [Int.toNat_natCast, Int.toNat_natCast]
    have hn34 : n < 34 := by omega
    have hni : (n : Int) < 34 := by omega
    have hni0 : (0 : Int) ≤ (n : Int) := by omega
    have hm : (m : Int) < 40 := by omega
    have hm0 : (0 : Int) ≤ (m : Int) := by omega
    have hsw : l.swap n m = (l.setLost (l.at_.getD n 0)).setAt n m := rfl
    have hok2 := Lay.swap_ok hok n m
    have hat2 : ∀ z ∈ (l.swap n m).at_, z < 1000 := fun z hz => by
      rcases List.mem_or_eq_of_mem_set hz with h | h
      · exact Nat.lt_trans (hat z h) (by omega)
      · omega
    have k5 := fun (X : World) (hB : Below w.heap.size w X) => keep_any t a l (l.swap n m) hok2 hat2 S s hsm X (hT.after hB) (hD.after hB)
    have hy40 : l.at_.getD n 0 < 40 := by
      rw [List.getD_eq_getElem?_getD, List.getElem?_eq_getElem (by rw [hok.a]; exact hn34)]
      exact hat _ (List.getElem_mem _)
    have hc1 : ∀ (X : World) (g : Nat), Blk X g 93 l.row → X.cell? ⟨g, 1 + n, none⟩ = some (.int .i64 ((l.at_.getD n 0 : Nat) : Int)) := fun X g hX => (hX.cell (1 + n)).trans (Lay.row_at hok hn34)
    obtain ⟨y, hy⟩ : ∃ y, y = l.at_.getD n 0 := ⟨_, rfl⟩
    rw [← hy] at hy40 hc1 hsw
    have hyi : (y : Int) < 40 := by omega
    have hyi0 : (0 : Int) ≤ (y : Int) := by omega
    have HK := Lib.hid k5
    have HT := Lib.hid hT
    have HC1 := Lib.hid hc1
    have hrl := Lay.row_length hok
    have HRL := Lib.hid hrl
    have HRLm := Lib.hid (Lay.row_length (Lay.setLost_ok hok y))
    have HRL2 := Lib.hid (Lay.row_length hok2)
    have HL0 := Lib.hid Lay.zero_length
    have hs0 := segSet_all (Lay.zero_length.trans hrl.symm)
    have HST := Lib.hid (Lay.row_setLost hok y)
    have HSA := Lib.hid ((Lay.row_setAt (Lay.setLost_ok hok y) hn34 m).trans (congrArg Lay.row hsw.symm))
    have HM := Lib.hid (show y < 40 ∧ n < 34 from ⟨hy40, hn34⟩)
    obtain ⟨q, hq⟩ : ∃ q, q = S.keep s (l.swap n m) := ⟨_, rfl⟩
    rw [← hq] at HK ⊢
    obtain ⟨ly, hly⟩ : ∃ ly, ly = S.lays s l (l.swap n m) := ⟨_, rfl⟩
    rw [← hly] at HK ⊢
    have zl := zeroLay
    clear k5 hT hok hat hD hsm hb h2 hn h40 hok2 hrl hq hly hx hx' hx0 hx1 hb1 hh hat2 hc1 hy hsw hy40 hn34
    go_enter Tryd.func52, Tryd.ntmps52
    go_wp2_with (first
      | ((with_reducible refine k0.mono ?_); rintro e w' ⟨rfl, rfl⟩)
      | ((with_reducible refine k1.mono ?_); rintro e w2 ⟨rfl, k, rfl⟩; have T2 : Blk (w.drewN k) t 97 (.pointer (some ⟨a.c, 0, none⟩) :: l.row) := HT.out.blk; have L2 : Blk ((w.drewN k).alloc (.cells (Lay.of 0).row.toArray 93)) w.heap.size 93 (Lay.of 0).row := Blk.new (w.drewN k) _ _)
      | (with_reducible refine wpl_seg_load aggLay sizeLay (.tmp 24) rfl rfl T2 1 l.row (tb_load HRL.out) HRL.out rfl ?_)
      | (with_reducible refine wpl_seg_store sizeLay (.tmp 7) (.tmp 25) rfl rfl L2 0 l.row HRL.out (by rw [HL0.out]; exact Nat.le_refl _) (Lay.one _) rfl rfl _ hs0 ?_; intro w3 L3 g3 e3; clear e3; have c3 := HC1.out _ _ L3)
      | (with_reducible refine wpl_blk_bool true bool_one (.tmp 31) (.const (.bool true)) rfl rfl L3 (35 + y) (by rw [HRL.out]; have := HM.out; omega) rfl rfl _ HST.out ?_; intro w4 L4 g4 e4; clear e4; simp only [Act.put])
      | (with_reducible refine wpl_blk_int .i64 (m : Int) int_one (.tmp 35) (.tmp 33) rfl rfl L4 (1 + n) (by rw [HRLm.out]; have := HM.out; omega) rfl rfl _ HSA.out ?_; intro w5 L5 g5 e5; clear e5; have B5 := (grown2 g3 g4).grown g5 (grown2 g3 g4).size (fun k e => Nat.le_of_eq (Option.some.inj e)); have k6 := HK.out _ B5)
      | (with_reducible refine wpl_seg_load aggLay sizeLay (.tmp 7) rfl rfl L5 0 (l.swap n m).row (by rw [List.drop_zero, List.take_of_length_le (Nat.le_of_eq HRL2.out)]) HRL2.out rfl ?_)
      | ((with_reducible refine k6.mono ?_); rintro e w6 ⟨rfl, D6, T6, c6⟩))
    go_ret
    exact ⟨rfl, D6, T6, (Chg.of_below B5).trans c6⟩
  · unfold Ch.swapping Ch.swapLay
    rw [if_neg hb, if_neg hb]
    have HT := Lib.hid hT
    have HD := Lib.hid hD
    cases h with
    | false =>
      clear hT hok hat hD hsm hb hh k1
      go_enter Tryd.func52, Tryd.ntmps52
      go_wp2_with ((with_reducible refine k0.mono ?_); rintro e w' ⟨rfl, rfl⟩)
      go_ret
      exact ⟨rfl, HD.out, HT.out, Chg.refl w _⟩
    | true =>
      have hb' : l.isSpare b = false := by
        cases e : l.isSpare b with
        | false => rfl
        | true => exact absurd (show l.canSwap x b = true by unfold Lay.canSwap; rw [← hh, e]; rfl) hb
      rw [hb'] at k1
      clear hT hok hat hD hsm hb hh hb'
      go_enter Tryd.func52, Tryd.ntmps52
      go_wp2_with (first
        | ((with_reducible refine k0.mono ?_); rintro e w' ⟨rfl, rfl⟩)
        | ((with_reducible refine k1.mono ?_); rintro e w2 ⟨rfl, k, rfl⟩))
      go_ret
      exact ⟨rfl, HD.out.after (drewN_below w k), HT.out.after (drewN_below w k), Chg.of_below (drewN_below w k)⟩
end
end Go.Proofs.YtnemlbnmnijghaaDoor

/- The argument that is a script of bbt's laws: what it reads as, how an element is loaded and kept. No condition. -/
namespace Go.Proofs.YtnemlbnmnijghaaDoor
open Go.RowKit Go.ChangeShapes Go.WideShapes Go.ChangeAt
/-- a call of a script -/
structure Op5 where
  k : Int
  l : Int
  b : Int
  least : Bool
  bit : Int
instance : Inhabited Op5 := ⟨⟨0, 0, 0, false, 0⟩⟩
def Op5.row (o : Op5) : List Value := [.int .i64 o.k, .int .i64 o.l, .int .i64 o.b, .bool o.least, .int .i64 o.bit]
structure Op5.ok (o : Op5) : Prop where
  k : (Lit.int .i64 o.k).wf = true
  l : (Lit.int .i64 o.l).wf = true
  b : (Lit.int .i64 o.b).wf = true
  bit : (Lit.int .i64 o.bit).wf = true
/-- v is a slice of the calls os -/
def Script5 (w : World) (B : Nat) (v : Value) (os : List Op5) : Prop :=
  ∃ A c, v = .slice A os.length c ∧ os.length ≤ c ∧ c ≤ maxLen ∧ (∀ i o, os[i]? = some o → ∃ a, A = some a ∧ a.block < B ∧ ∀ j u, o.row[j]? = some u → w.cell? (a.add (i * 5 + j)) = some u) ∧ ∀ o ∈ os, o.ok
section
variable {H : Type} {enc : TypeId × Value → H} {w : World} {r : Reach} {base b0 : Nat} {spare : Nat → Bool} {held : Bool} {v : Value} {d : DataW H} {ps : List MemPlace}
theorem op5_cells : Tryd.prog.cellsOf 39 = 5 := by kernel_rfl
theorem open_op5_slice {t e : TypeId} {fs : Array Field} {fuel : Nat} {P : Program} {cs : List Value} {x : DataW H × List MemPlace} (ht : P.underlying t = some (.slice e)) (he : P.underlying e = some (.struct fs))
    (hone : Go.Deep.oneCellFields P fs = true) (hC : P.cellsOf e = fs.size) (h : DataW.trod enc P w base spare held fuel t cs = some x) :
    cs = [.slice none 0 0] ∨
    ∃ (a : Addr) (len cap m : Nat), cs = [.slice (some a) len cap] ∧ len ≤ cap ∧ cap ≤ maxLen ∧ len ≤ m ∧
      ∀ i, i < m → ∃ n, ∀ (j : Nat) (f : Field), fs[j]? = some f → ∃ (v : Value) (y : DataW H × List MemPlace), w.cell? (a.add (i * fs.size + j)) = some v ∧ DataW.trod enc P w base spare held n f.type [v] = some y := by
  rcases Go.Deep.open_slice ht h with h0 | ⟨a, len, cap, m, n, D, Pl, hcs, hb, hl, hm, hmm, hx, hi⟩
  · exact .inl h0.1
  · refine .inr ⟨a, len, cap, m, hcs, hl, hm, by rw [hmm]; split <;> omega, fun i him => ?_⟩
    obtain ⟨cs', hc, ht'⟩ := hi i him
    rw [hC] at hc
    obtain ⟨ys, n', hn', hy, hlen, hyl, hf⟩ := DataW.trod_struct he ht'
    obtain ⟨_, hcl, hat⟩ := World.cells?_some hc
    refine ⟨n', fun j f hj => ?_⟩
    obtain ⟨ho, hk⟩ := Go.Deep.hone_of hone j f hj
    have hjl : j < fs.size := (Array.getElem?_eq_some_iff.1 hj).1
    have hcell := hat j hjl
    have hv : cs'[j]? = some (cs'[j]'(by omega)) := List.getElem?_eq_getElem (by omega)
    have h1 := hf j f hj
    rw [ho, hk] at h1
    have hone' : (cs'.drop j).take 1 = [cs'[j]'(by omega)] := by
      rw [List.drop_eq_getElem_cons (by omega)]
      rfl
    rw [hone'] at h1
    have hys : ys[j]? = some (ys[j]'(by omega)) := List.getElem?_eq_getElem (by omega)
    refine ⟨_, _, ?_, h1.trans hys⟩
    rw [← Go.Deep.add_add, hcell, hv]
set_option maxRecDepth 100000 in
theorem open_script5 (hval : Value.okWide Tryd.prog w r b0 23 v) (h : DataW.Trod enc Tryd.prog w base spare held 23 v d ps) : ∃ os, Script5 w w.heap.size v os := by
  obtain ⟨a, len, cap, rfl⟩ := okWide_slice Tryd.underlying23 hval
  obtain ⟨fuel, hf⟩ := h
  have hf' : DataW.trod enc Tryd.prog w base spare held fuel 23 [.slice a len cap] = some (d, ps) := hf
  rcases open_op5_slice Tryd.underlying23 Tryd.underlying39 (by kernel_rfl) (by kernel_rfl) hf' with hcs | ⟨a', len', cap', m, hcs, hl, hm, hlm, hel⟩
  · simp only [List.cons.injEq, and_true] at hcs
    rw [hcs]
    exact ⟨[], none, 0, rfl, by simp, by simp [maxLen], fun i o h => by simp at h, fun o h => by simp at h⟩
  · simp only [List.cons.injEq, and_true, Value.slice.injEq] at hcs
    obtain ⟨rfl, rfl, rfl⟩ := hcs
    have each : ∀ i, i < len → ∃ o : Op5, o.ok ∧ a'.block < w.heap.size ∧ ∀ j u, o.row[j]? = some u → w.cell? (a'.add (i * 5 + j)) = some u := by
      intro i hi
      obtain ⟨n, hn⟩ := hel i (by omega)
      obtain ⟨v0, y0, c0, t0⟩ := hn 0 _ rfl
      obtain ⟨v1, y1, c1, t1⟩ := hn 1 _ rfl
      obtain ⟨v2, y2, c2, t2⟩ := hn 2 _ rfl
      obtain ⟨v3, y3, c3, t3⟩ := hn 3 _ rfl
      obtain ⟨v4, y4, c4, t4⟩ := hn 4 _ rfl
      obtain ⟨z0, e0, _, w0⟩ := DataW.trod_int Tryd.underlying3 t0
      obtain ⟨z1, e1, _, w1⟩ := DataW.trod_int Tryd.underlying3 t1
      obtain ⟨z2, e2, _, w2⟩ := DataW.trod_int Tryd.underlying3 t2
      obtain ⟨z3, e3, _⟩ := DataW.trod_bool Tryd.underlying4 t3
      obtain ⟨z4, e4, _, w4⟩ := DataW.trod_int Tryd.underlying3 t4
      obtain rfl : v0 = _ := List.head_eq_of_cons_eq e0
      obtain rfl : v1 = _ := List.head_eq_of_cons_eq e1
      obtain rfl : v2 = _ := List.head_eq_of_cons_eq e2
      obtain rfl : v3 = _ := List.head_eq_of_cons_eq e3
      obtain rfl : v4 = _ := List.head_eq_of_cons_eq e4
      refine ⟨⟨z0, z1, z2, z3, z4⟩, ⟨w0, w1, w2, w4⟩, ?_, ?_⟩
      · have := World.block_lt_of_cell? w _ c0
        rwa [add_block] at this
      · intro j u hu
        match j, hu with
        | 0, hu => cases hu; exact c0
        | 1, hu => cases hu; exact c1
        | 2, hu => cases hu; exact c2
        | 3, hu => cases hu; exact c3
        | 4, hu => cases hu; exact c4
        | j + 5, hu => exact absurd hu (by simp [Op5.row])
    obtain ⟨f, hfb⟩ := Deep.choose_lt (α := Op5) (n := len) (p := fun i o => o.ok ∧ a'.block < w.heap.size ∧ ∀ j u, o.row[j]? = some u → w.cell? (a'.add (i * 5 + j)) = some u) each
    refine ⟨(List.range len).map f, some a', cap, by simp, by simpa using hl, hm, fun i o ho => ?_, fun o ho => ?_⟩
    · have hi : i < len := by have := (List.getElem?_eq_some_iff.1 ho).1; simpa using this
      have : f i = o := by simpa [hi] using ho
      rw [← this]
      exact ⟨a', rfl, (hfb i hi).2.1, (hfb i hi).2.2⟩
    · obtain ⟨i, hi, rfl⟩ := List.mem_map.1 ho
      exact (hfb i (by simpa using hi)).1
/-- an element is loaded whole -/
theorem op5_size : (Tryd.prog.info? 39).map (·.size) = some 5 := by kernel_rfl
theorem op5_load (q : Addr) (o : Op5) (w : World) (h : ∀ j u, o.row[j]? = some u → w.cell? (q.add j) = some u) : (loadVar 39 q).run Tryd.prog w = .ok (.agg o.row.toArray) w := by
  have h1 := run_loadCells_list (P := Tryd.prog) w q o.row h
  have h2 : (isAgg 39).run Tryd.prog w = .ok true w := by kernel_rfl
  have h3 : (sizeOf 39).run Tryd.prog w = .ok 5 w := by kernel_rfl
  unfold loadVar
  simp only [Sem.run_bind, h2, Result.andThen_ok, if_true, h3, Sem.run_pure]
  have hl : o.row.length = 5 := rfl
  rw [hl] at h1
  rw [h1]
  rfl
end
def zOp5 : List Value := [.int .i64 0, .int .i64 0, .int .i64 0, .bool false, .int .i64 0]
theorem zeroOp5 (w : World) : (zeroValue 39).run Tryd.prog w = .ok (.agg zOp5.toArray) w := by
  kernel_rfl
theorem aggOp5 (w : World) : (isAgg 39).run Tryd.prog w = .ok true w := by kernel_rfl
theorem sizeOp5 (w : World) : (sizeOf 39).run Tryd.prog w = .ok 5 w := by kernel_rfl
theorem Op5.one (o : Op5) : ∀ v ∈ o.row, v.oneCell' = true := by
  intro v hv
  simp only [Op5.row, List.mem_cons, List.not_mem_nil, or_false] at hv
  rcases hv with rfl | rfl | rfl | rfl | rfl <;> rfl
/-- an element is loaded whole, as the walk meets it -/
theorem wpl_o5load {ops : Array Oper} {rest : List Oper} {o : Oper} {a : Act} {w : World} {q : Addr} {v : Value} {Q : Exit → Act → World → Prop} (x : Operand) (ho : o.op = .load 39 x) (hgd : Region.wanted o (yielded ops a.tmps) = true)
    (hx : a.eval x = .pointer (some q)) (hl : (loadVar 39 q).run Tryd.prog w = .ok v w) (h : wpList Tryd.prog ops Q rest (a.put o.dst v) w) : wpList Tryd.prog ops Q (o :: rest) a w := by
  refine BigFrame.wpList_want hgd fun K hK => ?_
  unfold Oper.wp execOp
  simp only [ho, hx, Instr.loadAt, Instr.sureAddr, Sem.run_bind, Sem.run_pure, Result.andThen_ok, hl]
  exact hK _ _ h
/-- a script's element in a later world -/
theorem Script5.at_ {w : World} {B : Nat} {A : Option Addr} {c : Nat} {os : List Op5} (h : Script5 w B (.slice A os.length c) os) {i : Nat} (hi : i < os.length) {w' : World} (hb : Below B w w') :
    ∃ p, A = some p ∧ (os[i]).ok ∧ (loadVar 39 (p.add (i * 5))).run Tryd.prog w' = .ok (.agg (os[i]).row.toArray) w' := by
  obtain ⟨A', c', e, _, _, h1, h2⟩ := h
  obtain ⟨rfl, _, _⟩ := Value.slice.inj e
  obtain ⟨p, rfl, hp, hc⟩ := h1 i _ (List.getElem?_eq_getElem hi)
  refine ⟨p, rfl, h2 _ (List.getElem_mem hi), op5_load _ _ _ fun j u hu => ?_⟩
  rw [Go.Deep.add_add, hb.cell (by rw [add_block]; exact hp)]
  exact hc j u hu
end Go.Proofs.YtnemlbnmnijghaaDoor

/- The contract of the laws' own call of a table. Condition: the table is there, and its layout; few acts so far. -/
namespace Go.Proofs.YtnemlbnmnijghaaDoor
open Go.RowKit
/-- is the call a Lose? -/
def Op5.lose (o : Op5) : Bool := bits .and .i64 o.k 1 == 0
def Ch.doing (S : Ch) (s : NM.Pwr) (l : Lay) (o : Op5) (b : Int) : Ch × NM.Pwr × Int := if o.lose then S.losing s l b else S.swapping s l o.l b
def Ch.doLay (S : Ch) (s : NM.Pwr) (l : Lay) (o : Op5) (b : Int) : Lay := if o.lose then S.lostLay s l b else S.swapLay s l o.l b
section
variable {w : World} {t : Nat} {a : At} {l : Lay} {S : Ch} {s : NM.Pwr}
set_option maxRecDepth 100000 in
set_option maxHeartbeats 4000000 in
theorem bdo_any (o : Op5) (hT : Tb w t a l) (hok : l.ok) (hat : ∀ x ∈ l.at_, x < 40) (hD : Dev w a S s) (hsm : S.few 999700) (b : Int) :
    Calls Tryd.prog 19 #[.pointer (some ⟨t, 0, none⟩), .agg o.row.toArray, .int .i64 b] w fun e w' => e = .returned (.int .i64 (S.doing s l o b).2.2) ∧ Dev w' a (S.doing s l o b).1 (S.doing s l o b).2.1 ∧ Tb w' t a (S.doLay s l o b) ∧ Chg w w' (fun j => a.all j ∨ j = t) := by
  have hb0 : Below w.heap.size w (w.alloc (.cells o.row.toArray 39)) := (Below.refl _ _).alloc (Nat.le_refl _) _
  have B0 := Blk.new w 39 o.row
  have c0 : (w.alloc (.cells o.row.toArray 39)).cell? ⟨w.heap.size, 0, none⟩ = some (.int .i64 o.k) := B0.cell 0
  have c1 : (w.alloc (.cells o.row.toArray 39)).cell? ⟨w.heap.size, 1, none⟩ = some (.int .i64 o.l) := B0.cell 1
  have k1 := tlose_any (hT.after hb0) hok hat (hD.after hb0) hsm b
  have k2 := tswap_any (hT.after hb0) hok hat (hD.after hb0) hsm o.l b
  unfold Ch.doing Ch.doLay
  obtain ⟨d, hd⟩ : ∃ d, d = o.lose := ⟨_, rfl⟩
  have d1 : (bits .and .i64 o.k 1 == 0) = d := hd.symm
  rw [← hd]
  have HB := Lib.hid hb0
  clear B0 hT hok hat hD hsm hd hb0
  obtain ⟨ok, ol, ob, ole, obi⟩ := o
  simp only at c0 c1 k1 k2 d1 ⊢
  cases d with
  | true =>
    clear k2
    go_enter Tryd.func19, Tryd.ntmps19
    go_wp2_with ((with_reducible refine k1.mono ?_); rintro e w2 ⟨rfl, D2, T2, q2⟩)
    go_ret
    exact ⟨rfl, D2, T2, (Chg.of_below HB.out).trans q2⟩
  | false =>
    clear k1
    go_enter Tryd.func19, Tryd.ntmps19
    go_wp2_with ((with_reducible refine k2.mono ?_); rintro e w2 ⟨rfl, D2, T2, q2⟩)
    go_ret
    exact ⟨rfl, D2, T2, (Chg.of_below HB.out).trans q2⟩
end
end Go.Proofs.YtnemlbnmnijghaaDoor

