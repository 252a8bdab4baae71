/- The walk of BbtPlays: it answers true, and changes nothing that was there. Condition: the table of the check sum holds its sixteen numbers. -/
import Derived.Test.YtnemlbnmnijghaaDoorQBbtBads
import Derived.Test.YtnemlbnmnijghaaDoorQBbtFlips
namespace Go.Proofs.YtnemlbnmnijghaaDoor
open Go.RowKit
theorem mark_congr {n : Nat} {f g : Nat → Bool} (h : ∀ i, i < n → f i = g i) : Lay.mark n f n = Lay.mark n g n := by
  unfold Lay.mark
  congr 1
  apply List.map_congr_left
  intro i _
  by_cases c : i < n
  · rw [h i c]
  · rw [decide_eq_false c]; rfl
theorem fresh_congr {n : Nat} {f g : Nat → Bool} (h : ∀ i, i < n → f i = g i) : Lay.fresh n f = Lay.fresh n g := by
  unfold Lay.fresh
  rw [mark_congr h]
theorem goods_count {n : Nat} {f : Nat → Bool} (h1 : 2 ≤ n) (h2 : n ≤ 40) (f0 : f 0 = false) (f1 : f 1 = false) : (goods n f).length + (Lay.mark n f n).lossesTo n = n - 2 := by
  have : ∀ k, 2 ≤ k → k ≤ n → ((List.range' 2 (k - 2)).filter fun b => !f b).length + (Lay.mark n f n).lossesTo k = k - 2 := fun k => by
    induction k with
    | zero => intro h; omega
    | succ k ih =>
      intro ha hb
      rcases Nat.lt_or_ge k 2 with c | c
      · have : k = 1 := by omega
        subst this
        have e0 : (Lay.mark n f n).lostAt 0 = false := by rw [mark_lost n f h2, f0, Bool.and_false]
        have e1 : (Lay.mark n f n).lostAt 1 = false := by rw [mark_lost n f h2, f1, Bool.and_false]
        rw [Lay.lossesTo_succ, Lay.lossesTo_succ, e0, e1]
        rfl
      · have hi := ih c (by omega)
        have el : (Lay.mark n f n).lostAt k = f k := by rw [mark_lost n f h2, decide_eq_true (by omega), Bool.true_and]
        rw [show k + 1 - 2 = (k - 2) + 1 by omega, List.range'_concat, List.filter_append, List.length_append, Lay.lossesTo_succ, el, show 2 + 1 * (k - 2) = k by omega]
        cases hf : f k with
        | true => simp [hf]; omega
        | false => simp [hf]; omega
  exact this n h1 (Nat.le_refl _)
/-- the program's Format and the document's go together -/
theorem fresh_ref {n : Nat} {f : Nat → Bool} (h1 : 16 ≤ n) (h2 : n ≤ 40) :
    (∀ l, Lay.fresh n f = some l → f 0 = false ∧ f 1 = false ∧ n - 6 ≤ (refUses n f n 2 []).length ∧ refUses n f n 2 [] = l.used) ∧ (Lay.fresh n f = none → f 0 = true ∨ f 1 = true ∨ (refUses n f n 2 []).length < n - 6) := by
  have hU := uses_goods n f h1 n 2 (by omega) (by omega) (by omega) [] (by simp) (by simp)
  have m0 : (Lay.mark n f n).lostAt 0 = f 0 := by rw [mark_lost n f h2, decide_eq_true (by omega), Bool.true_and]
  have m1 : (Lay.mark n f n).lostAt 1 = f 1 := by rw [mark_lost n f h2, decide_eq_true (by omega), Bool.true_and]
  have mr : (Lay.mark n f n).markRefuse = (f 0 || (f 1 || decide (4 < (Lay.mark n f n).lossesTo n))) := by
    unfold Lay.markRefuse
    rw [m0, m1]
    rfl
  refine ⟨fun l h => ?_, fun h => ?_⟩
  · have h' := h
    unfold Lay.fresh at h'
    rw [mr] at h'
    split at h'
    · cases h'
    · rename_i hr
      simp only [Bool.or_eq_true, decide_eq_true_eq, not_or, Bool.not_eq_true] at hr
      obtain ⟨r0, r1, r4⟩ := hr
      have hc := goods_count (by omega) h2 r0 r1
      have hF : n - 6 ≤ (goods n f).length := by omega
      exact ⟨r0, r1, by rw [hU, List.length_take]; omega, uses_fresh h1 h2 h hF⟩
  · unfold Lay.fresh at h
    rw [mr] at h
    split at h
    · rename_i hr
      cases q0 : f 0 with
      | true => exact .inl rfl
      | false =>
        cases q1 : f 1 with
        | true => exact .inr (.inl rfl)
        | false =>
          rw [q0, q1] at hr
          simp only [Bool.false_or, decide_eq_true_eq] at hr
          have hc := goods_count (by omega) h2 q0 q1
          exact .inr (.inr (by rw [hU, List.length_take]; omega))
    · cases h
section
variable {w w' : World} {a : At} {t lo hi m N q : Nat} {S : Ch} {s : NM.Pwr} {l : Lay}
theorem Both.open_ (h : Both w a t lo hi m N q S s l) (hq : q ≤ 40) : Calls Tryd.prog 21 #[.pointer (some ⟨a.c, 0, none⟩)] w fun e w' => ∃ t', w.heap.size ≤ t' ∧ e = .returned (.tuple #[.pointer (some ⟨t', 0, none⟩), .int .i64 0]) ∧ Both w' a t' lo hi m N q S s l ∧ Below w.heap.size w w' := by
  obtain ⟨o, k, hK, hk⟩ := h.keeps
  have hlk := hK.look h.good (h.sz.trans h.len.symm) (by omega)
  have hm := h.calm.may
  have hE : S.lookE s = 0 := by unfold Ch.lookE; rw [if_pos hm, hlk]; rfl
  have hKp : (keptOf (S.lookK s)).lay = l := by unfold Ch.lookK; rw [if_pos hm, hlk]; rfl
  have ko := open_some h.dev hE
  rw [hKp] at ko
  refine ko.mono ?_
  rintro e w' ⟨t', ht, rfl, T, b⟩
  exact ⟨t', ht, rfl, ⟨h.dev.after b, T, h.calm, h.keeps, h.good, h.sz, h.len, h.few, h.ref.after b, fun k hk => by
    rcases hk with hk | rfl
    · exact h.far k (.inl hk)
    · exact .inr (Nat.le_trans h.ref.hi ht)⟩, b⟩
theorem Both.drewN (h : Both w a t lo hi m N q S s l) (k : Nat) : Both (w.drewN k) a t lo hi m N q S s l := h.after (drewN_below w k)
end
set_option maxRecDepth 100000 in
set_option maxHeartbeats 16000000 in
theorem plays_main (A : Option Addr) (cap : Nat) (zs : List Int) (A2 : Option Addr) (c2 : Nat) (os : List Op5) (N : Nat) (hN : 16 ≤ N ∧ N ≤ 40) (w : World) (ht : Tab w) (hv : Nums w w.heap.size .i64 (.slice A zs.length cap) zs) (hs : Script5 w w.heap.size (.slice A2 os.length c2) os) (h20 : zs.length ≤ 20) (h30 : os.length ≤ 30) (hz : badOut N zs = false) :
    Calls Tryd.prog 3 #[.int .i64 (N : Int), .slice A zs.length cap, .slice A2 os.length c2] w fun e w' => e = .returned (.bool true) ∧ Below w.heap.size w w' := by
  have d1 : decide ((20 : Int) < (zs.length : Int)) = false := by simp; omega
  have d2 : decide ((30 : Int) < (os.length : Int)) = false := by simp; omega
  have ks := bbtspeaks_any w ht
  have HV := Lib.hid hv
  have HS := Lib.hid hs
  have HT := Lib.hid ht
  have HZ := Lib.hid hz
  have H20 := Lib.hid h20
  have H30 := Lib.hid h30
  have HN := Lib.hid hN
  have zo := zeroOp5
  clear hv hs ht hz h20 h30 hN
  go_enter Tryd.func3, Tryd.ntmps3
  go_wp2_with ((with_reducible refine ks.mono ?_); rintro e w1 ⟨rfl, b1⟩)
  have B1 := Lib.hid b1
  have k0 := newpower_any w1
  clear b1 ks
  go_wp2_with ((with_reducible refine k0.mono ?_); rintro e w2 ⟨rfl, P2, b2⟩)
  have B2 : Hid (Below w.heap.size w w2) := Lib.hid (B1.out.trans (b2.mono B1.out.size))
  have HVB : Hid (∀ X, Below w.heap.size w X → Nums X X.heap.size .i64 (.slice A zs.length cap) zs) := Lib.hid (fun X hb => by
    obtain ⟨A', cap', ev, hl1, hl2, hrow, hwf⟩ := HV.out
    exact ⟨A', cap', ev, hl1, hl2, (hrow.below hb).more hb.size, hwf⟩)
  have k1 := devNew HT.out B2.out w1.heap.size B1.out.size P2 N HN.out zs _ (HVB.out _ B2.out) HZ.out
  have hf := Lib.hid (behind_new (g := w2.heap.size) (p := w1.heap.size) (B := w.heap.size) B2.out.size B1.out.size)
  clear P2 b2 k0
  go_wp2_with fail
  ((with_reducible refine k1.mono ?_); rintro e w3 ⟨rfl, D3, b3⟩)
  have B3 : Hid (Below w.heap.size w w3) := Lib.hid (B2.out.trans (b3.mono B2.out.size))
  obtain ⟨a, ha⟩ : ∃ a : At, a = ⟨w2.heap.size + 1, w2.heap.size, w1.heap.size, none, none⟩ := ⟨_, rfl⟩
  have hac : w2.heap.size + 1 = a.c := by rw [ha]
  rw [hac]
  rw [← ha] at D3 hf
  have HD3 := Lib.hid D3
  have hfc : (Ch.marked N zs).fresh = Lay.fresh N (fun j => decide ((j : Int) ∈ zs)) := by
    unfold Ch.fresh
    rw [show (Ch.marked N zs).bs.length = N from markB_length N zs]
    exact fresh_congr (fun i hi => marked_bad hi)
  obtain ⟨r1, r2⟩ := fresh_ref (n := N) (f := fun j => decide ((j : Int) ∈ zs)) HN.out.1 HN.out.2
  have HBD : Hid (∀ X, Below w.heap.size w X → _) := Lib.hid (fun X hb => bads_any N HN.out.1 HN.out.2 A cap zs X (HVB.out X hb) HZ.out H20.out)
  clear b3 k1 ha hac D3 B1 B2
  cases hfr : (Ch.marked N zs).fresh with
  | none =>
    have k3 := format_worn HD3.out (marked_may HN.out.1 zs) hfr
    have hno := r2 (hfc.symm.trans hfr)
    have HNO := Lib.hid hno
    have hkn : ∀ X g E, Blk X g 4 (bl (badsL N zs) ++ E) → _ := fun X g E hB => refFormat_no N HN.out.1 HN.out.2 g N (badsL N zs) (badsL_length N zs) X (row_blk hB) (fun j => decide ((j : Int) ∈ zs)) (fun j hj => badsL_at zs hj) HNO.out
    have HKN := Lib.hid hkn
    clear hfr hno r1 r2 hfc hkn
    go_wp2_with ((with_reducible refine k3.mono ?_); rintro e w4 ⟨rfl, b4⟩)
    have B4 : Hid (Below w.heap.size w w4) := Lib.hid (B3.out.trans (b4.mono B3.out.size))
    have k5 := HBD.out _ B4.out
    clear b4 k3
    go_wp2_with (first
      | ((with_reducible refine k5.mono ?_); rintro e w5 ⟨g, E, rfl, hB5, b5⟩; have k6 := HKN.out _ _ _ hB5)
      | ((with_reducible refine k6.mono ?_); rintro e w6 ⟨rfl, b6⟩))
    go_ret
    have B5 := B4.out.trans (b5.mono B4.out.size)
    exact ⟨rfl, B5.trans (b6.mono B5.size)⟩
  | some l =>
    obtain ⟨hg, hsz, h0, h1, hbl⟩ := fresh_marked HN.out hfr
    obtain ⟨f0, f1, hU, hUs⟩ := r1 l (hfc.symm.trans hfr)
    obtain ⟨S', ek, hcm, hK, hln, _⟩ := (marked_calm (N := N) HN.out.1 h0 h1).first (marked_blank (b := 0) (by have := HN.out; omega) h0) (marked_blank (b := 1) (by have := HN.out; omega) h1) hg.ok
    have k3 := format_main l HD3.out (marked_may HN.out.1 zs) hfr (marked_few _ _ _)
    have hfew := few_keep (Ch.marked N zs) NM.Pwr.fresh l 0 (marked_few _ _ _)
    rw [ek] at k3 hfew
    simp only [tptr_ok] at k3 hfew
    have hlo : badsL N zs = l.lost.take l.n := by
      have hq := (fresh_good (hfc.symm.trans hfr) HN.out.1 HN.out.2).2.2
      apply List.ext_getElem?
      intro i
      rcases Nat.lt_or_ge i N with c | c
      · rw [badsL_at zs c, List.getElem?_take_of_lt (by rw [hsz]; exact c)]
        have e := hq i
        rw [decide_eq_true c, Bool.true_and] at e
        unfold Lay.lostAt at e
        rw [List.getD_eq_getElem?_getD] at e
        have hi : i < l.lost.length := by rw [hg.ok.o]; have := HN.out.2; omega
        rw [List.getElem?_eq_getElem hi] at e ⊢
        rw [← e]
        rfl
      · rw [List.getElem?_eq_none (by rw [badsL_length]; exact c), List.getElem?_eq_none (by rw [lost_take hg.ok, hsz]; exact c)]
    have hky : ∀ X g E, Blk X g 4 (bl (badsL N zs) ++ E) → _ := fun X g E hB => refFormat_yes N HN.out.1 HN.out.2 g N (badsL N zs) (badsL_length N zs) X (row_blk hB) (fun j => decide ((j : Int) ∈ zs)) (fun j hj => badsL_at zs hj) f0 f1 hU
    have HKY := Lib.hid hky
    have HG := Lib.hid (And.intro hg (And.intro hsz (And.intro hcm (And.intro hK (And.intro (hln.trans (markB_length N zs)) (And.intro hfew (And.intro hUs hlo)))))))
    clear hg hsz h0 h1 hbl f0 f1 hU hUs ek hcm hK hln hfew hlo hky hfr r1 r2 hfc
    go_wp2_with fail
    ((with_reducible refine k3.mono ?_); rintro e w4 ⟨t, htl, rfl, D4, hT4, c4⟩)
    have B4 : Hid (Below w.heap.size w w4) := Lib.hid (Below.chgAll B3.out c4 hf.out (Nat.le_refl _))
    have HD4 := Lib.hid D4
    have HT4 := Lib.hid (hT4 trivial)
    have HTL : Hid (w.heap.size ≤ t) := Lib.hid (Nat.le_trans B3.out.size htl)
    have k5 := HBD.out _ B4.out
    clear k3 htl D4 hT4 c4 B3
    go_wp2_with (first
      | ((with_reducible refine k5.mono ?_); rintro e w5 ⟨g, E, rfl, hB5, b5⟩; have k6 := HKY.out _ _ _ hB5)
      | ((with_reducible refine k6.mono ?_); rintro e w6 ⟨m, rfl, R6, b6⟩))
    have X6 : Below w4.heap.size w4 w6 := b5.trans (b6.mono b5.size)
    have B6 := B4.out.trans (X6.mono B4.out.size)
    have I6 : Both w6 a t w5.heap.size w6.heap.size m N 0 S' NM.Pwr.fresh l :=
      ⟨HD4.out.after X6, HT4.out.after X6, HG.out.2.2.1, ⟨1, 1, HG.out.2.2.2.1, by omega⟩, HG.out.1, HG.out.2.1, HG.out.2.2.2.2.1, HG.out.2.2.2.2.2.1, (by unfold RTL; rw [← HG.out.2.2.2.2.2.2.1, ← HG.out.2.2.2.2.2.2.2]; exact R6), fun k hk => .inl (by
        have := b5.size
        rcases hk with h | rfl
        · have := HD4.out.lt k h; omega
        · have := HT4.out.blk.lt; omega)⟩
    have HI6 := Lib.hid I6
    have HB6 := Lib.hid B6
    clear B6 X6 I6 R6 b6 k6 k5 hB5 b5 HD4 HT4 B4 HG HKY HBD HVB
    go_loopw [9, 11, 76] (fun vt vm i wr => ∃ j : Nat, j ≤ os.length ∧ i = .int .i64 j ∧ ∃ (t m lo hi : Nat) (S : Ch) (s : NM.Pwr) (l : Lay), vt = .pointer (some ⟨t, 0, none⟩) ∧ vm = .pointer (some ⟨m, 0, none⟩) ∧ Both wr a t lo hi m N j S s l ∧ w.heap.size ≤ t ∧ Below w.heap.size w wr) (fun _ _ i _ => os.length - (intOf i).toNat)
    case atStart => exact ⟨0, Nat.zero_le _, rfl, t, m, _, _, S', _, _, rfl, rfl, HI6.out, HTL.out, HB6.out⟩
    case round =>
      obtain ⟨j, hj, rfl, t, m, lo, hi, S, s, l, rfl, rfl, hI, htl, hB⟩ := hrel
      clear HI6 HB6 HTL
      have HI := Lib.hid hI
      have HB := Lib.hid hB
      have HTL := Lib.hid htl
      by_cases hlt : j < os.length
      · obtain ⟨p, o, rfl, _, _, hld⟩ := HS.out.get hlt hB
        have O2 := Blk.new wr 39 zOp5
        have hs5 := seg5 (a := zOp5) (b := o.row) rfl rfl
        have hj30 : (j : Int) < 30 := by have := H30.out; omega
        have HJ40 : Hid (j + 1 ≤ 40) := Lib.hid (by have := H30.out; omega)
        have hb6 : ∀ X, (wr.alloc (.cells zOp5.toArray 39)).grownBy X (some wr.heap.size) → Below wr.heap.size wr X := fun X g => ((Below.refl wr.heap.size wr).alloc (Nat.le_refl _) _).grown g (by simp) (fun k e => Nat.le_of_eq (Option.some.inj e))
        have hks : ∀ X, Below wr.heap.size wr X → _ := fun X hb => bstep_any (hI.after hb).ref hI.good o
        have hfar : ∀ k, a.all k ∨ k = t → k < wr.heap.size := fun k hk => by
          rcases hk with h | rfl
          · exact hI.dev.lt k h
          · exact hI.tb.blk.lt
        have hkd : ∀ X7 lo2 m2, Below wr.heap.size wr X7 → wr.heap.size ≤ lo2 → RTL X7 lo2 X7.heap.size m2 (l.next o (o.blk l)) → _ := fun X7 lo2 m2 b h R => (HI.out.after b).call (by have := H30.out; omega) o R (fun k hk => .inl (Nat.lt_of_lt_of_le (hfar k hk) h))
        have KS := Lib.hid hks
        have KD := Lib.hid hkd
        have hbe : ∀ X7 Y, Below wr.heap.size wr X7 → Chg X7 Y (fun k => a.all k ∨ k = t) → Below w.heap.size w Y := fun X7 Y b q => (HB.out.trans (b.mono HB.out.size)).trans (q.below (fun k h => h.elim (hf.out k) (fun e => e ▸ HTL.out)) (Nat.le_trans HB.out.size b.size))
        have HBE := Lib.hid hbe
        obtain ⟨bk, hbk⟩ : ∃ bk, bk = o.blk l := ⟨_, rfl⟩
        obtain ⟨cn, hcn⟩ : ∃ cn, cn = l.can o bk := ⟨_, rfl⟩
        rw [← hbk, ← hcn] at KS
        rw [← hbk, ← hcn] at KD
        clear hI hB htl hks hfar hkd hbe hcn hbk
        cases cn with
        | true =>
          go_wp2_with (first
            | (with_reducible refine wpl_o5load (.tmp 78) rfl rfl rfl hld ?_)
            | (with_reducible refine wpl_seg_store sizeOp5 (.tmp 13) (.tmp 79) rfl rfl O2 0 o.row rfl (Nat.le_refl _) (Op5.one _) rfl rfl _ hs5 ?_; intro w6 O6 g6 e6; clear e6; have B6 := hb6 _ g6; have k7 := KS.out _ B6)
            | (with_reducible refine wpl_seg_load aggOp5 sizeOp5 (.tmp 13) rfl rfl O6 0 o.row rfl rfl rfl ?_)
            | ((with_reducible refine k7.mono ?_); rintro e w7 ⟨m2, lo2, rfl, hlo2, R7, b7⟩; have O7 := O6.after b7; have B7 := B6.trans (b7.mono B6.size); have k8 := KD.out w7 lo2 m2 B7 (Nat.le_trans B6.size hlo2) R7)
            | (with_reducible refine wpl_seg_load aggOp5 sizeOp5 (.tmp 13) rfl rfl O7 0 o.row rfl rfl rfl ?_)
            | ((with_reducible refine k8.mono ?_); rintro e w8 ⟨rfl, ⟨S8, J1⟩, J2, c8⟩; have k9 := bsame_yes J1.tb J1.good.ok J1.ref)
            | ((with_reducible refine k9.mono ?_); rintro e w9 ⟨rfl, k, rfl⟩; have k10 := (J1.drewN k).open_ HJ40.out)
            | ((with_reducible refine k10.mono ?_); rintro e w11 ⟨t11, ht11, rfl, I11, b11⟩; have k12 := bsame_yes I11.tb I11.good.ok I11.ref)
            | ((with_reducible refine k12.mono ?_); rintro e w12 ⟨rfl, k2, rfl⟩))
          have B8 : Below w.heap.size w w8 := HBE.out _ _ B7 c8
          have BA : Below w.heap.size w (w8.drewN k) := B8.trans ((drewN_below w8 k).mono B8.size)
          have BB : Below w.heap.size w w11 := BA.trans (b11.mono BA.size)
          have BC : Below w.heap.size w (w11.drewN k2) := BB.trans ((drewN_below w11 k2).mono BB.size)
          exact ⟨⟨j + 1, by omega, by go_num, t11, m2, _, _, _, _, _, rfl, rfl, I11.drewN k2, Nat.le_trans BA.size ht11, BC⟩, by simp [intOf]; omega⟩
        | false =>
          go_wp2_with (first
            | (with_reducible refine wpl_o5load (.tmp 78) rfl rfl rfl hld ?_)
            | (with_reducible refine wpl_seg_store sizeOp5 (.tmp 13) (.tmp 79) rfl rfl O2 0 o.row rfl (Nat.le_refl _) (Op5.one _) rfl rfl _ hs5 ?_; intro w6 O6 g6 e6; clear e6; have B6 := hb6 _ g6; have k7 := KS.out _ B6)
            | (with_reducible refine wpl_seg_load aggOp5 sizeOp5 (.tmp 13) rfl rfl O6 0 o.row rfl rfl rfl ?_)
            | ((with_reducible refine k7.mono ?_); rintro e w7 ⟨m2, lo2, rfl, hlo2, R7, b7⟩; have O7 := O6.after b7; have B7 := B6.trans (b7.mono B6.size); have k8 := KD.out w7 lo2 m2 B7 (Nat.le_trans B6.size hlo2) R7)
            | (with_reducible refine wpl_seg_load aggOp5 sizeOp5 (.tmp 13) rfl rfl O7 0 o.row rfl rfl rfl ?_)
            | ((with_reducible refine k8.mono ?_); rintro e w8 ⟨rfl, ⟨S8, J1⟩, J2, c8⟩; obtain ⟨S9, J9⟩ := J2 (by first | trivial | rfl); have k9 := bsame_yes J9.tb J9.good.ok J9.ref)
            | ((with_reducible refine k9.mono ?_); rintro e w9 ⟨rfl, k, rfl⟩; have k10 := (J9.drewN k).open_ HJ40.out)
            | ((with_reducible refine k10.mono ?_); rintro e w11 ⟨t11, ht11, rfl, I11, b11⟩; have k12 := bsame_yes I11.tb I11.good.ok I11.ref)
            | ((with_reducible refine k12.mono ?_); rintro e w12 ⟨rfl, k2, rfl⟩))
          have B8 : Below w.heap.size w w8 := HBE.out _ _ B7 c8
          have BA : Below w.heap.size w (w8.drewN k) := B8.trans ((drewN_below w8 k).mono B8.size)
          have BB : Below w.heap.size w w11 := BA.trans (b11.mono BA.size)
          have BC : Below w.heap.size w (w11.drewN k2) := BB.trans ((drewN_below w11 k2).mono BB.size)
          exact ⟨⟨j + 1, by omega, by go_num, t11, m, _, _, _, _, _, rfl, rfl, I11.drewN k2, Nat.le_trans BA.size ht11, BC⟩, by simp [intOf]; omega⟩
      · obtain rfl : j = os.length := by omega
        go_wp2_with fail
        go_ret
        exact ⟨rfl, HB.out⟩
set_option maxRecDepth 100000 in
set_option maxHeartbeats 4000000 in
theorem bbtPlays_any (n : Int) (v v2 : Value) (w : World) (ht : Tab w) (hn : (Lit.int .i64 n).wf = true) (hv : ∃ zs, Nums w w.heap.size .i64 v zs) (hs : ∃ os, Script5 w w.heap.size v2 os) :
    Calls Tryd.prog 3 #[.int .i64 n, v, v2] w fun e w' => e = .returned (.bool true) ∧ Below w.heap.size w w' := by
  obtain ⟨zs, hv⟩ := hv
  obtain ⟨os, hs⟩ := hs
  obtain ⟨A, cap, rfl, hl1, hl2, hrow, hwf⟩ := id hv
  obtain ⟨A2, c2, rfl, _⟩ := id hs
  have ks := bbtspeaks_any w ht
  by_cases h30 : os.length ≤ 30
  · have d2 : decide ((30 : Int) < (os.length : Int)) = false := by simp; omega
    by_cases h20 : zs.length ≤ 20
    · by_cases hE : newE n zs = 1
      · have d1 : decide ((20 : Int) < (zs.length : Int)) = false := by simp; omega
        have HV := Lib.hid hv
        have HE := Lib.hid hE
        clear hl1 hl2 hrow hwf hv h30 h20 ht hs hE hn
        go_enter Tryd.func3, Tryd.ntmps3
        go_wp2_with ((with_reducible refine ks.mono ?_); rintro e w1 ⟨rfl, b1⟩)
        have k0 := newpower_any w1
        go_wp2_with ((with_reducible refine k0.mono ?_); rintro e w2 ⟨rfl, P2, b2⟩)
        have B2 : Below w.heap.size w w2 := b1.trans (b2.mono b1.size)
        have hv2 : Nums w2 w2.heap.size .i64 (.slice A zs.length cap) zs := by
          obtain ⟨A', cap', ev, hl1, hl2, hrow, hwf⟩ := HV.out
          exact ⟨A', cap', ev, hl1, hl2, (hrow.below B2).more B2.size, hwf⟩
        have k1 := newR_any n zs _ w1.heap.size w2 hv2 HE.out
        clear k0 ks P2 hv2
        go_wp2_with ((with_reducible refine k1.mono ?_); rintro e w3 ⟨rfl, b3⟩)
        go_ret
        exact ⟨rfl, B2.trans (b3.mono B2.size)⟩
      · obtain ⟨N, rfl, h1, h2, hz⟩ := newE_ok hE
        exact plays_main A cap zs A2 c2 os N ⟨h1, h2⟩ w ht hv hs h20 h30 hz
    · have d1 : decide ((20 : Int) < (zs.length : Int)) = true := by simp; omega
      clear hl1 hl2 hrow hwf hv h30 h20 ht hs hn
      go_enter Tryd.func3, Tryd.ntmps3
      go_wp2_with ((with_reducible refine ks.mono ?_); rintro e w1 ⟨rfl, b1⟩)
      go_ret
      exact ⟨rfl, b1⟩
  · have d2 : decide ((30 : Int) < (os.length : Int)) = true := by simp; omega
    clear hl1 hl2 hrow hwf hv h30 ht hs hn
    go_enter Tryd.func3, Tryd.ntmps3
    go_wp2_with ((with_reducible refine ks.mono ?_); rintro e w1 ⟨rfl, b1⟩)
    go_ret
    exact ⟨rfl, b1⟩
end Go.Proofs.YtnemlbnmnijghaaDoor

