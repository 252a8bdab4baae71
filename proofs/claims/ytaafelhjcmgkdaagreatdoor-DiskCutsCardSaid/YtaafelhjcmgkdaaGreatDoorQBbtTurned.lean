/- What the calls do on a chip of which nothing fails, and what is found where bits are turned: the plain facts. -/
import Derived.Test.YtaafelhjcmgkdaaGreatDoorQBbtR
import Derived.Test.YtaafelhjcmgkdaaGreatDoorQNandF
namespace Go.Proofs.YtaafelhjcmgkdaaGreatDoor
open Go.RowKit
section
variable {S : Ch} {s : NM.Pwr} {o k : Nat} {l : Lay}
theorem calm_doing (hc : Calm S s) (hK : Keeps S o k l) (hg : l.good) (hn : l.n = S.bs.length) (hk : k < 1000) (op : Op5) (b : Int) (hcan : l.can op b = true) : ∃ S', S.doing s l op b = (S', s, 0) ∧ Calm S' s ∧ Keeps S' (1 - o) (k + 1) (l.next op b) ∧ S.doLay s l op b = l.next op b ∧ S'.bs.length = S.bs.length := by
  have hgn := (good_next hg op b).1
  have hnx : l.next op b = if op.lose then l.setLost b.toNat else l.swap op.l.toNat b.toNat := by unfold Lay.next; rw [if_pos hcan]
  obtain ⟨S', e, c1, K1, h1, _⟩ := hK.keep hg hn (by omega) hc (l' := l.next op b) hgn.ok
  have hk1 : next64 k = k + 1 := by unfold next64; omega
  rw [hk1] at K1
  refine ⟨S', ?_, c1, K1, ?_, h1⟩
  · unfold Ch.doing Ch.losing Ch.swapping
    unfold Lay.can at hcan
    by_cases hl : op.lose = true
    · rw [if_pos hl] at hcan hnx ⊢
      rw [if_pos hcan, ← hnx, e]
    · rw [if_neg hl] at hcan hnx ⊢
      rw [if_pos hcan, ← hnx, e]
  · have hy : S.lays s l (l.next op b) = l.next op b := by unfold Ch.lays; rw [e]; exact if_pos rfl
    unfold Ch.doLay Ch.lostLay Ch.swapLay
    unfold Lay.can at hcan
    by_cases hl : op.lose = true
    · rw [if_pos hl] at hcan ⊢
      rw [if_pos hl] at hnx
      rw [if_pos hcan, ← hnx, hy]
    · rw [if_neg hl] at hcan ⊢
      rw [if_neg hl] at hnx
      rw [if_pos hcan, ← hnx, hy]
theorem cannot_doing (op : Op5) (b : Int) (hcan : l.can op b = false) : S.doing s l op b = (S, s, 1) ∧ S.doLay s l op b = l ∧ l.next op b = l := by
  have hc' : ¬ l.can op b = true := by rw [hcan]; decide
  refine ⟨?_, ?_, if_neg hc'⟩
  · unfold Ch.doing Ch.losing Ch.swapping
    unfold Lay.can at hc'
    by_cases hl : op.lose = true
    · rw [if_pos hl] at hc' ⊢
      exact if_neg hc'
    · rw [if_neg hl] at hc' ⊢
      exact if_neg hc'
  · unfold Ch.doLay Ch.lostLay Ch.swapLay
    unfold Lay.can at hc'
    by_cases hl : op.lose = true
    · rw [if_pos hl] at hc' ⊢
      exact if_neg hc'
    · rw [if_neg hl] at hc' ⊢
      exact if_neg hc'
/-- of the first i pages of the table's own blocks one bit each is turned -/
structure Turned (S0 S : Ch) (i : Nat) : Prop where
  len : S.bs.length = S0.bs.length
  live : S.live = S0.live
  page : ∀ q, q < 16 → (q < i → ∃ x, x < 2064 ∧ pageOf S.bs (q / 8) (q % 8) = NM.fl (pageOf S0.bs (q / 8) (q % 8)) x) ∧ (i ≤ q → pageOf S.bs (q / 8) (q % 8) = pageOf S0.bs (q / 8) (q % 8))
  pgs : ∀ b, b < 2 → (S.bs.getD b ⟨[], 0, false⟩).pg.length = 8
theorem Turned.zero (hc : Calm S s) : Turned S S 0 := ⟨rfl, rfl, fun _ _ => ⟨fun h => by omega, fun _ => rfl⟩, hc.oks⟩
theorem Turned.more {S0 : Ch} {i : Nat} (h : Turned S0 S i) (hi : 16 ≤ i) : Turned S0 S (i + 1) := ⟨h.len, h.live, fun q hq => ⟨fun _ => (h.page q hq).1 (by omega), fun hh => by omega⟩, h.pgs⟩
theorem Turned.flip {S0 : Ch} {i x : Nat} (h : Turned S0 S i) (hi : i < 16) (hx : x < 2064) (hl : 16 ≤ S.bs.length) : Turned S0 (S.flip ((i / 8 : Nat) : Int) ((i % 8 : Nat) : Int) (x : Int)).1 (i + 1) := by
  have hb : ¬ S.flipBad ((i / 8 : Nat) : Int) ((i % 8 : Nat) : Int) (x : Int) := by unfold Ch.flipBad; omega
  have he : (S.flip ((i / 8 : Nat) : Int) ((i % 8 : Nat) : Int) (x : Int)).1 = { S with bs := putPage S.bs (i / 8) (i % 8) (NM.fl (pageOf S.bs (i / 8) (i % 8)) x) } := by
    unfold Ch.flip
    rw [if_neg hb, Int.toNat_natCast, Int.toNat_natCast, Int.toNat_natCast]
  rw [he]
  have hp : ∀ q, q < 16 → pageOf (putPage S.bs (i / 8) (i % 8) (NM.fl (pageOf S.bs (i / 8) (i % 8)) x)) (q / 8) (q % 8) = if q = i then NM.fl (pageOf S.bs (i / 8) (i % 8)) x else pageOf S.bs (q / 8) (q % 8) := fun q hq => by
    unfold putPage
    show ((List.set S.bs _ _).getD (q / 8) ⟨[], 0, false⟩).pg.getD (q % 8) [] = _
    rw [getD_set2 (by omega)]
    by_cases c : q / 8 = i / 8
    · rw [if_pos c]
      show ((S.bs.getD (i / 8) ⟨[], 0, false⟩).pg.set (i % 8) _).getD (q % 8) [] = _
      rw [List.getD_eq_getElem?_getD, List.getElem?_set]
      by_cases d : i % 8 = q % 8
      · rw [if_pos d, if_pos (by rw [h.pgs _ (by omega)]; omega), if_pos (by omega)]
        rfl
      · rw [if_neg d, if_neg (by omega), ← List.getD_eq_getElem?_getD, ← c]
        rfl
    · rw [if_neg c, if_neg (by omega)]
      rfl
  refine ⟨by show (List.set _ _ _).length = _; rw [List.length_set]; exact h.len, h.live, fun q hq => ?_, fun b hb => ?_⟩
  · show (q < i + 1 → ∃ x', x' < 2064 ∧ pageOf (putPage S.bs (i / 8) (i % 8) (NM.fl (pageOf S.bs (i / 8) (i % 8)) x)) (q / 8) (q % 8) = _) ∧ (i + 1 ≤ q → pageOf (putPage S.bs (i / 8) (i % 8) (NM.fl (pageOf S.bs (i / 8) (i % 8)) x)) (q / 8) (q % 8) = _)
    rw [hp q hq]
    by_cases c : q = i
    · subst c
      rw [if_pos rfl]
      exact ⟨fun _ => ⟨x, hx, by rw [(h.page q hq).2 (Nat.le_refl _)]⟩, fun hh => by omega⟩
    · rw [if_neg c]
      exact ⟨fun hh => (h.page q hq).1 (by omega), fun hh => (h.page q hq).2 (by omega)⟩
  · show ((List.set S.bs _ _).getD b ⟨[], 0, false⟩).pg.length = 8
    rw [getD_set2 (by omega)]
    split
    · show (List.set _ _ _).length = 8
      rw [List.length_set]
      exact h.pgs _ (by omega)
    · exact h.pgs b hb
theorem fl_ff_torn (x : Nat) (n : Nat) : tableOf n (NM.fl NM.ff x) = none := tableOf_torn (FM.flip_last NM.ff_length x (by decide))
theorem Turned.look {S0 : Ch} {i : Nat} (h : Turned S0 S i) (hK : Keeps S0 o k l) (hg : l.good) (hn : l.n = S.bs.length) (hk : k < 1000) : ∃ pg, lookTo S.bs 16 = some ⟨k, l, o, pg⟩ := by
  have ho := hK.lt
  have e1 : o * 8 / 8 = o := by omega
  have e2 : o * 8 % 8 = 0 := by omega
  have hp0 : pageOf S0.bs o 0 = tpage k l := by unfold pageOf; rw [hK.here]; rfl
  have h0 : tableOf S.bs.length (pageOf S.bs (o * 8 / 8) (o * 8 % 8)) = some (k, l) := by
    have hq := h.page (o * 8) (by omega)
    rw [e1, e2] at hq ⊢
    rw [hp0] at hq
    rcases Nat.lt_or_ge (o * 8) i with c | c
    · obtain ⟨x, hx, e⟩ := hq.1 c
      rw [e]
      exact tableOf_turned hg hn (by omega) hx
    · rw [hq.2 c]
      exact tableOf_tpage hg hn (by omega)
  have := lookTo_only (bs := S.bs) (i0 := o * 8) k l h0 (fun q h1 h2 => by
    have hff : pageOf S0.bs (q / 8) (q % 8) = NM.ff := by
      unfold pageOf
      by_cases c : q / 8 = o
      · rw [c, hK.here, page_first (by omega), if_neg (by omega)]
      · rw [show q / 8 = 1 - o by omega, hK.there, ff_pages (by omega)]
    have hq := h.page q h1
    rw [hff] at hq
    rcases Nat.lt_or_ge q i with c | c
    · obtain ⟨x, _, e⟩ := hq.1 c
      rw [e]
      exact fl_ff_torn x _
    · rw [hq.2 c]
      exact tableOf_ff) 16 (Nat.le_refl _)
  rw [this, if_pos (by omega), e1, e2]
  exact ⟨_, rfl⟩
end
end Go.Proofs.YtaafelhjcmgkdaaGreatDoor

