/- A script of calls in which the power may end: what a call leaves. Condition: as named; few acts so far. -/
import Derived.Test.YtnemlbnmnijghaaDoorQBbtCutM
import Derived.Test.YtnemlbnmnijghaaDoorQBbtPlays
namespace Go.Proofs.YtnemlbnmnijghaaDoor
open Go.RowKit
def lay24 : Lay := ⟨24, List.range' 2 18 ++ List.replicate 16 0, List.replicate 40 false⟩
theorem fresh24 : (Ch.marked 24 []).fresh = some lay24 := by kernel_rfl
theorem uses24 : refUses 24 (fun _ => false) 24 2 [] = lay24.used := by kernel_rfl
theorem lost24 : falses 24 = lay24.lost.take lay24.n := by kernel_rfl
theorem make24 (w : World) : (Instr.makeSlice 36 (.int .i64 24) (.int .i64 24)).run Tryd.prog w = .ok (.slice (some ⟨w.heap.size, 0, none⟩) 24 24) (w.alloc (.cells (bl (falses 24)).toArray 4)) := by kernel_rfl
theorem Calm.toP {S : Ch} {s : NM.Pwr} (h : Calm S s) : CalmP S := ⟨h.fp, h.fe, h.live, h.len, h.good, h.oks⟩
theorem Keeps.two {S : Ch} {o k : Nat} {l : Lay} (h : Keeps S o k l) (hg : l.good) (hn : l.n = S.bs.length) (hk : k < 1000) : Two2 S o k l := by
  have ho := h.lt
  refine ⟨h.lt, ?_, fun j j1 j2 => ?_, .inl ?_, fun j j1 j2 => ?_⟩
  · rw [page_of h.here]
    exact tableOf_tpage hg hn (by omega)
  · rw [page_of h.here, page_first j2, if_neg (by omega)]
    exact tableOf_ff
  · rw [page_of h.there, ff_pages (by omega)]
    exact tableOf_ff
  · rw [page_of h.there, ff_pages j2]
    exact tableOf_ff
/-- the two tables in the midst of a script, the power on: they tell the same, and so does the chip -/
structure CutS (w : World) (a : At) (t lo hi m N q : Nat) (S : Ch) (s : NM.Pwr) (l : Lay) : Prop where
  dev : Dev w a S s
  tb : Tb w t a l
  calm : CalmP S
  off : s.off = false
  two : ∃ o k, Two2 S o k l ∧ k ≤ 1 + q
  good : l.good
  sz : l.n = N
  len : S.bs.length = N
  few : S.few (24 + 24 * q)
  ref : RTL w lo hi m l
  far : ∀ k, a.all k ∨ k = t → k < lo ∨ hi ≤ k
section
variable {w w' : World} {a : At} {t lo hi m N q : Nat} {S : Ch} {s : NM.Pwr} {l : Lay}
theorem CutS.after (h : CutS w a t lo hi m N q S s l) (hb : Below w.heap.size w w') : CutS w' a t lo hi m N q S s l := ⟨h.dev.after hb, h.tb.after hb, h.calm, h.off, h.two, h.good, h.sz, h.len, h.few, h.ref.after hb, h.far⟩
/-- behind a call in which the power ended: the elder table, or the new one -/
structure CutE (w : World) (a : At) (N q : Nat) (S : Ch) (s : NM.Pwr) (l l2 : Lay) : Prop where
  dev : Dev w a S s
  calm : CalmP S
  len : S.bs.length = N
  few : S.few (24 + 24 * (q + 1))
  two : ∃ o k, k ≤ 2 + q ∧ (Two2 S o k l ∨ Two2 S o k l2)
theorem CutS.call (h : CutS w a t lo hi m N q S s l) (hq : q ≤ 30) {lo' hi' m' : Nat} (o : Op5) (hR : RTL w lo' hi' m' (l.next o (o.blk l))) (hfar : ∀ k, a.all k ∨ k = t → k < lo' ∨ hi' ≤ k) :
    Calls Tryd.prog 19 #[.pointer (some ⟨t, 0, none⟩), .agg o.row.toArray, .int .i64 (o.blk l)] w fun e w' => ∃ z : Int, e = .returned (.int .i64 z) ∧ Chg w w' (fun j => a.all j ∨ j = t) ∧
      ((z = 1 ∧ l.can o (o.blk l) = false ∧ CutS w' a t lo hi m N (q + 1) S s l) ∨
       (z = 0 ∧ l.can o (o.blk l) = true ∧ ∃ S' s', CutS w' a t lo' hi' m' N (q + 1) S' s' (l.next o (o.blk l))) ∨
       (z = 30 ∧ l.can o (o.blk l) = true ∧ ∃ S' s', CutE w' a N q S' s' l (l.next o (o.blk l)) ∧ RTL w' lo hi m l ∧ RTL w' lo' hi' m' (l.next o (o.blk l)))) := by
  refine (bdo_any o h.tb h.good.ok h.good.at40 h.dev (few_le (by omega) h.few) (o.blk l)).mono ?_
  rintro e w' ⟨rfl, d, t', c⟩
  refine ⟨_, rfl, c, ?_⟩
  obtain ⟨oo, k, hK, hk⟩ := h.two
  have hg := good_next h.good o (o.blk l)
  have hRc : RTL w' lo' hi' m' (l.next o (o.blk l)) := hR.chg c (fun k h1 h2 h3 => by have := hfar k h3; omega)
  have hRo : RTL w' lo hi m l := h.ref.chg c (fun k h1 h2 h3 => by have := h.far k h3; omega)
  have hfw := few_doing S s l o (o.blk l) _ h.few
  cases hc : l.can o (o.blk l) with
  | true =>
    obtain ⟨S', s', e1, ek, cP, hL, hcase⟩ := hK.keep h.calm h.off (by omega) hg.1 (hg.2.trans (h.sz.trans h.len.symm))
    have hnx : l.next o (o.blk l) = if o.lose then l.setLost (o.blk l).toNat else l.swap o.l.toNat (o.blk l).toNat := by unfold Lay.next; rw [if_pos hc]
    have hdo : S.doing s l o (o.blk l) = (S', s', e1) ∧ S.doLay s l o (o.blk l) = S.lays s l (l.next o (o.blk l)) := by
      unfold Ch.doing Ch.doLay Ch.losing Ch.swapping Ch.lostLay Ch.swapLay
      unfold Lay.can at hc
      by_cases hl : o.lose = true
      · rw [if_pos hl] at hc hnx
        rw [if_pos hl, if_pos hl, if_pos hc, if_pos hc, ← hnx, ek]
        exact ⟨rfl, rfl⟩
      · rw [if_neg hl] at hc hnx
        rw [if_neg hl, if_neg hl, if_pos hc, if_pos hc, ← hnx, ek]
        exact ⟨rfl, rfl⟩
    rw [hdo.1] at d hfw ⊢
    rw [hdo.2] at t'
    rcases hcase with ⟨rfl, hoff, hT⟩ | ⟨rfl, hT⟩
    · have hy : S.lays s l (l.next o (o.blk l)) = l.next o (o.blk l) := by unfold Ch.lays; rw [ek]; exact if_pos rfl
      rw [hy] at t'
      exact .inr (.inl ⟨rfl, rfl, S', s', d, t', cP, hoff, ⟨1 - oo, k + 1, hT, by omega⟩, hg.1, hg.2.trans h.sz, hL.trans h.len, few_le (by omega) hfw, hRc, hfar⟩)
    · refine .inr (.inr ⟨rfl, rfl, S', s', ⟨d, cP, hL.trans h.len, few_le (by omega) hfw, ?_⟩, hRo, hRc⟩)
      rcases hT with hT | hT
      · exact ⟨oo, k, by omega, .inl hT⟩
      · exact ⟨1 - oo, k + 1, by omega, .inr hT⟩
  | false =>
    obtain ⟨e1, e2, e3⟩ := cannot_doing (S := S) (s := s) o (o.blk l) hc
    rw [e1] at d hfw ⊢
    rw [e2] at t'
    exact .inl ⟨rfl, rfl, d, t', h.calm, h.off, ⟨oo, k, hK, by omega⟩, h.good, h.sz, h.len, few_le (by omega) h.few, hRo, h.far⟩
end
/-- a Lose and a Swap both make the losses one more -/
theorem next_losses {l : Lay} (hg : l.good) (o : Op5) (b : Int) (hc : l.can o b = true) : l.losses ≠ (l.next o b).losses := by
  have key : ∀ y, y < l.n → l.lostAt y = false → ∀ l2 : Lay, l2.n = l.n → (∀ c, l2.lostAt c = (decide (c = y) || l.lostAt c)) → l.losses ≠ l2.losses := fun y hy hl l2 hn hla => by
    have hs : ∀ k, l2.lossesTo k = l.lossesTo k + if y < k then 1 else 0 := fun k => by
      induction k with
      | zero => rfl
      | succ k ih =>
        rw [Lay.lossesTo_succ, Lay.lossesTo_succ, ih, hla k]
        by_cases e : k = y
        · subst e
          rw [hl, decide_eq_true rfl, if_neg (show ¬ k < k by omega), if_pos (show k < k + 1 by omega)]
          simp
        · rw [decide_eq_false e, Bool.false_or]
          by_cases c : y < k
          · rw [if_pos c, if_pos (show y < k + 1 by omega)]; omega
          · rw [if_neg c, if_neg (show ¬ y < k + 1 by omega)]; omega
    unfold Lay.losses
    rw [hn, hs, if_pos hy]
    omega
  unfold Lay.next
  rw [if_pos hc]
  unfold Lay.can at hc
  by_cases hl : o.lose = true
  · rw [if_pos hl] at hc ⊢
    obtain ⟨q1, q2⟩ := Lay.isSpare_lt hc
    obtain ⟨x, rfl⟩ : ∃ x : Nat, b = x := ⟨b.toNat, by omega⟩
    rw [Int.toNat_natCast]
    obtain ⟨_, hn, hl0, _⟩ := spare_iff.1 hc
    exact key x hn hl0 _ rfl (fun c => lostAt_set (by rw [hg.ok.o]; have := hg.ok.n2; omega) c)
  · rw [if_neg hl] at hc ⊢
    unfold Lay.canSwap at hc
    rw [Bool.and_eq_true, decide_eq_true_eq] at hc
    obtain ⟨⟨x0, x1⟩, _⟩ := hc
    obtain ⟨x, hx⟩ : ∃ x : Nat, o.l = x := ⟨o.l.toNat, by omega⟩
    rw [hx] at x0 x1 ⊢
    rw [Int.toNat_natCast]
    have hul := Lay.used_length hg.ok
    have hxl : x < l.used.length := by omega
    have hmem : l.used.getD x 0 ∈ l.used := by
      rw [List.getD_eq_getElem?_getD, List.getElem?_eq_getElem hxl]
      exact List.getElem_mem _
    have hy : l.at_.getD x 0 = l.used.getD x 0 := by
      unfold Lay.used
      rw [List.getD_eq_getElem?_getD, List.getD_eq_getElem?_getD, List.getElem?_take_of_lt (by omega)]
    obtain ⟨y2, yn, yl⟩ := hg.inn _ hmem
    rw [← hy] at yn yl
    exact key _ yn yl _ rfl (fun c => lostAt_set (l := l) (by rw [hg.ok.o]; have := hg.ok.n2; omega) c)
end Go.Proofs.YtnemlbnmnijghaaDoor

