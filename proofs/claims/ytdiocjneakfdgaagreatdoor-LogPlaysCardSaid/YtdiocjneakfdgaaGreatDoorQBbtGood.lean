/- What Format, Lose and Swap keep of a layout: each block has one use at most. Plain facts, no condition. -/
import Derived.Test.YtdiocjneakfdgaaGreatDoorQBbtForm
import Derived.Test.YtdiocjneakfdgaaGreatDoorQBbtB
namespace Go.Proofs.YtdiocjneakfdgaaGreatDoor
open Go.RowKit
theorem nodup_len : ∀ (A B : List Nat), A.Nodup → (∀ x ∈ A, x ∈ B) → A.length ≤ B.length
  | [], _, _, _ => Nat.zero_le _
  | a :: A, B, hn, hs => by
    rw [List.nodup_cons] at hn
    have hb := hs a (List.mem_cons_self ..)
    have h := nodup_len A (B.erase a) hn.2 (fun x hx => (List.mem_erase_of_ne (fun e => hn.1 (by rw [← e]; exact hx))).2 (hs x (List.mem_cons_of_mem _ hx)))
    rw [List.length_erase_of_mem hb] at h
    have := List.length_pos_of_mem hb
    rw [List.length_cons]
    omega
theorem spare_some {l : Lay} {b : Nat} (h : l.spare = some b) : l.isSpare (b : Int) = true := by
  unfold Lay.spare at h
  have := List.find?_some h
  exact this
theorem spare_none {l : Lay} (h : l.spare = none) : ∀ b, 2 ≤ b → b < l.n → l.lostAt b = false → b ∈ l.used := fun b h2 hn hl => by
  unfold Lay.spare at h
  rw [List.find?_eq_none] at h
  have := h b (List.mem_range.2 hn)
  cases hd : decide (b ∈ l.used) with
  | true => exact of_decide_eq_true hd
  | false => exact absurd (isSpare_of h2 hn hl (of_decide_eq_false hd)) this
section
variable {l : Lay}
theorem Lay.good.at40 (h : l.good) : ∀ x ∈ l.at_, x < 40 := fun x hx => by
  have h2 := h.ok.n2
  rw [← List.take_append_drop (l.n - 6) l.at_] at hx
  rcases List.mem_append.1 hx with hx | hx
  · have := (h.inn x hx).2.1
    omega
  · rw [h.rest] at hx
    have := List.eq_of_mem_replicate hx
    omega
theorem Lay.good.losses (h : l.good) : l.losses ≤ 4 := by
  have hu := Lay.used_length h.ok
  have h1 := h.ok.n1
  have hd : (l.used ++ l.lostTo l.n).Nodup := by
    rw [List.nodup_append]
    refine ⟨h.nd, List.Nodup.sublist List.filter_sublist List.nodup_range, fun a ha b hb e => ?_⟩
    subst e
    have q1 := (h.inn a ha).2.2
    rw [(mem_lostTo.1 hb).2] at q1
    cases q1
  have := nodup_len _ (List.range' 2 (l.n - 2)) hd (fun x hx => by
    rw [List.mem_range'_1]
    rcases List.mem_append.1 hx with hx | hx
    · have := h.inn x hx
      omega
    · obtain ⟨q1, q2⟩ := mem_lostTo.1 hx
      rcases Nat.lt_or_ge x 2 with c | c
      · exfalso
        obtain ⟨o0, o1⟩ := h.own
        rcases (show x = 0 ∨ x = 1 by omega) with rfl | rfl
        · rw [o0] at q2; cases q2
        · rw [o1] at q2; cases q2
      · omega)
  rw [List.length_append, List.length_range', hu] at this
  have e : l.losses = (l.lostTo l.n).length := rfl
  omega
theorem Lay.good.lose (h : l.good) {b : Nat} (hb : l.isSpare (b : Int) = true) : (l.setLost b).good := by
  obtain ⟨h2, hn, hl, hu⟩ := spare_iff.1 hb
  have h40 := h.ok.n2
  have hla := fun c => lostAt_set (l := l) (b := b) (by rw [h.ok.o]; omega) c
  refine ⟨Lay.setLost_ok h.ok b, h.nd, fun c hc => ?_, h.rest, ⟨?_, ?_⟩, fun c hc => ?_⟩
  · obtain ⟨q1, q2, q3⟩ := h.inn c hc
    refine ⟨q1, q2, ?_⟩
    rw [hla, q3, Bool.or_false, decide_eq_false]
    intro e
    exact hu (e ▸ hc)
  · rw [hla, h.own.1, decide_eq_false (by omega)]; rfl
  · rw [hla, h.own.2, decide_eq_false (by omega)]; rfl
  · have hc' : l.n ≤ c := hc
    rw [hla, h.out c hc', decide_eq_false (by omega)]; rfl
theorem used_set (x b : Nat) : (l.setAt x b).used = l.used.set x b := by
  show (l.at_.set x b).take (l.n - 6) = (l.at_.take (l.n - 6)).set x b
  rw [List.take_set]
theorem nodup_set : ∀ {A : List Nat} {x b : Nat}, A.Nodup → b ∉ A → (A.set x b).Nodup
  | [], _, _, h, _ => h
  | a :: A, 0, b, h, hb => by
    rw [List.set_cons_zero, List.nodup_cons]
    rw [List.nodup_cons] at h
    exact ⟨fun hm => hb (List.mem_cons_of_mem _ hm), h.2⟩
  | a :: A, x + 1, b, h, hb => by
    rw [List.set_cons_succ, List.nodup_cons]
    rw [List.nodup_cons] at h
    refine ⟨fun hm => ?_, nodup_set h.2 (fun hm => hb (List.mem_cons_of_mem _ hm))⟩
    rcases List.mem_or_eq_of_mem_set hm with q | q
    · exact h.1 q
    · exact hb (q ▸ List.mem_cons_self ..)
theorem mem_set_nodup : ∀ {A : List Nat} {x b c : Nat}, A.Nodup → c ∈ A.set x b → x < A.length → c = b ∨ c ∈ A ∧ c ≠ A.getD x 0
  | [], _, _, _, _, _, h => by simp at h
  | a :: A, 0, b, c, h, hc, _ => by
    rw [List.set_cons_zero] at hc
    rw [List.nodup_cons] at h
    rcases List.mem_cons.1 hc with e | e
    · exact .inl e
    · exact .inr ⟨List.mem_cons_of_mem _ e, fun q => h.1 (by have : c = a := q; exact this ▸ e)⟩
  | a :: A, x + 1, b, c, h, hc, hx => by
    rw [List.set_cons_succ] at hc
    rw [List.nodup_cons] at h
    rw [List.length_cons] at hx
    have hx' : x < A.length := by omega
    have eg : (a :: A).getD (x + 1) 0 = A.getD x 0 := rfl
    rcases List.mem_cons.1 hc with e | e
    · refine .inr ⟨e ▸ List.mem_cons_self .., fun q => h.1 ?_⟩
      rw [eg] at q
      rw [← e, q, List.getD_eq_getElem?_getD, List.getElem?_eq_getElem hx']
      exact List.getElem_mem _
    · rcases mem_set_nodup h.2 e hx' with q | ⟨q1, q2⟩
      · exact .inl q
      · exact .inr ⟨List.mem_cons_of_mem _ q1, fun q => q2 (by rw [← eg]; exact q)⟩
theorem Lay.good.swap (h : l.good) {x b : Nat} (hx : x < l.n - 6) (hb : l.isSpare (b : Int) = true) : (l.swap x b).good := by
  obtain ⟨h2, hn, hl, hu⟩ := spare_iff.1 hb
  have h40 := h.ok.n2
  have hul := Lay.used_length h.ok
  have hy : l.at_.getD x 0 = l.used.getD x 0 := by
    unfold Lay.used
    rw [List.getD_eq_getElem?_getD, List.getD_eq_getElem?_getD, List.getElem?_take_of_lt hx]
  have hym : l.used.getD x 0 ∈ l.used := by
    rw [List.getD_eq_getElem?_getD, List.getElem?_eq_getElem (by omega)]
    exact List.getElem_mem _
  obtain ⟨y2, yn, yl⟩ := h.inn _ hym
  obtain ⟨y, hyy⟩ : ∃ y, y = l.used.getD x 0 := ⟨_, rfl⟩
  rw [← hyy] at hy hym y2 yn yl
  have hla := fun c => lostAt_set (l := l) (b := y) (by rw [h.ok.o]; omega) c
  have hlw : ∀ c, (l.swap x b).lostAt c = (decide (c = y) || l.lostAt c) := fun c => by
    rw [← hla c, ← hy]
    rfl
  have hus : (l.swap x b).used = l.used.set x b := used_set (l := l.setLost (l.at_.getD x 0)) x b
  refine ⟨Lay.swap_ok h.ok x b, by rw [hus]; exact nodup_set h.nd hu, fun c hc => ?_, ?_, ⟨?_, ?_⟩, fun c hc => ?_⟩
  · rw [hus] at hc
    rw [hlw]
    rcases mem_set_nodup h.nd hc (by omega) with rfl | ⟨q1, q2⟩
    · exact ⟨h2, hn, by rw [hl, Bool.or_false, decide_eq_false]; intro e; exact hu (e ▸ hym)⟩
    · obtain ⟨r1, r2, r3⟩ := h.inn c q1
      exact ⟨r1, r2, by rw [r3, Bool.or_false, decide_eq_false]; rw [hyy]; exact q2⟩
  · show (l.at_.set x b).drop (l.n - 6) = _
    rw [List.drop_set_of_lt hx]
    exact h.rest
  · rw [hlw, h.own.1, decide_eq_false (by omega)]; rfl
  · rw [hlw, h.own.2, decide_eq_false (by omega)]; rfl
  · have hc' : l.n ≤ c := hc
    rw [hlw, h.out c hc', decide_eq_false (by omega)]; rfl
end
theorem mark_lost (n : Nat) (f : Nat → Bool) {c : Nat} (hn : n ≤ 40) : (Lay.mark n f n).lostAt c = (decide (c < n) && f c) := by
  show ((List.range 40).map fun i => decide (i < n) && f i).getD c false = _
  rw [List.getD_eq_getElem?_getD, List.getElem?_map]
  rcases Nat.lt_or_ge c 40 with h | h
  · rw [List.getElem?_range h]
    rfl
  · rw [List.getElem?_eq_none (by simpa using h), decide_eq_false (by omega)]
    rfl
/-- the first j logical blocks have blocks of their own -/
structure Filled (n : Nat) (l0 l : Lay) (j : Nat) : Prop where
  sz : l.n = n
  lost : l.lost = l0.lost
  len : l.at_.length = 34
  nd : (l.at_.take j).Nodup
  inn : ∀ b ∈ l.at_.take j, 2 ≤ b ∧ b < n ∧ l0.lostAt b = false
  rest : l.at_.drop j = List.replicate (34 - j) 0
theorem fills_step {n : Nat} {l0 l : Lay} {j : Nat} (h1 : 16 ≤ n) (h2 : n ≤ 40) (h : Filled n l0 l j) (h4 : l0.lossesTo n ≤ 4) (hj : j < n - 6) : Filled n l0 (l.setAt j (l.spare.getD 0)) (j + 1) := by
  have hla : ∀ c, l.lostAt c = l0.lostAt c := fun c => by unfold Lay.lostAt; rw [h.lost]
  have hus : ∀ c, 2 ≤ c → c ∈ l.used → c ∈ l.at_.take j := fun c hc hm => by
    have hm' : c ∈ l.at_ := List.mem_of_mem_take hm
    rw [← List.take_append_drop j l.at_] at hm'
    rcases List.mem_append.1 hm' with q | q
    · exact q
    · rw [h.rest] at q
      have := List.eq_of_mem_replicate q
      omega
  cases e : l.spare with
  | none =>
    exfalso
    have hx := nodup_len (List.range' 2 (n - 2)) (l.at_.take j ++ l0.lostTo n) List.nodup_range' (fun c hc => by
      rw [List.mem_range'_1] at hc
      rw [List.mem_append]
      cases e2 : l0.lostAt c with
      | true => exact .inr (mem_lostTo.2 ⟨by omega, e2⟩)
      | false => exact .inl (hus c hc.1 (spare_none e c hc.1 (by rw [h.sz]; omega) (by rw [hla]; exact e2))))
    rw [List.length_append, List.length_range', List.length_take, h.len] at hx
    have e3 : (l0.lostTo n).length = l0.lossesTo n := rfl
    omega
  | some b =>
    obtain ⟨q1, q2, q3, q4⟩ := spare_iff.1 (spare_some e)
    rw [h.sz] at q2
    rw [hla] at q3
    have hbn : b ∉ l.at_.take j := fun hm => q4 (by
      unfold Lay.used
      rw [h.sz]
      rw [show l.at_.take j = (l.at_.take (n - 6)).take j by rw [List.take_take, Nat.min_eq_left (by omega)]] at hm
      exact List.mem_of_mem_take hm)
    have ht : (l.at_.set j b).take (j + 1) = l.at_.take j ++ [b] := take_set_here l.at_ j b (by rw [h.len]; omega)
    refine ⟨h.sz, h.lost, by show (l.at_.set j b).length = 34; rw [List.length_set]; exact h.len, ?_, fun c hc => ?_, ?_⟩
    · show ((l.at_.set j b).take (j + 1)).Nodup
      rw [ht, List.nodup_append]
      exact ⟨h.nd, by simp, fun x hx y hy q => by
        rw [List.mem_singleton] at hy
        exact hbn (hy ▸ q ▸ hx)⟩
    · have hc' : c ∈ (l.at_.set j b).take (j + 1) := hc
      rw [ht] at hc'
      rcases List.mem_append.1 hc' with q | q
      · exact h.inn c q
      · rw [List.mem_singleton] at q
        subst q
        exact ⟨q1, q2, q3⟩
    · show (l.at_.set j b).drop (j + 1) = _
      rw [List.drop_set_of_lt (by omega), ← List.drop_drop, h.rest, List.drop_replicate]
      congr 1
theorem fresh_good {n : Nat} {f : Nat → Bool} {l : Lay} (h : Lay.fresh n f = some l) (h1 : 16 ≤ n) (h2 : n ≤ 40) : l.good ∧ l.n = n ∧ ∀ c, l.lostAt c = (decide (c < n) && f c) := by
  have hok := fresh_at h h1 h2
  have hm := fun c => mark_lost n f (c := c) h2
  obtain ⟨l0, hl0⟩ : ∃ l0, l0 = Lay.mark n f n := ⟨_, rfl⟩
  unfold Lay.fresh at h
  rw [← hl0] at h hm
  have h0n : l0.n = n := by rw [hl0]; rfl
  split at h
  · cases h
  · rename_i hr
    have hl := Option.some.inj h
    unfold Lay.markRefuse at hr
    simp only [Bool.or_eq_true, decide_eq_true_eq, not_or, Bool.not_eq_true] at hr
    obtain ⟨r0, r1, r4⟩ := hr
    have h4 : l0.lossesTo n ≤ 4 := by
      unfold Lay.losses at r4
      rw [h0n] at r4
      omega
    have hF : ∀ j, j ≤ n - 6 → Filled n l0 (Lay.fills j l0) j := fun j => by
      induction j with
      | zero => exact fun _ => ⟨h0n, rfl, by rw [hl0]; rfl, by show ([] : List Nat).Nodup; exact List.nodup_nil, fun b hb => by have hb' : b ∈ ([] : List Nat) := hb; simp at hb', by rw [hl0]; rfl⟩
      | succ j ih => exact fun hj => fills_step h1 h2 (ih (by omega)) h4 (by omega)
    have hq := hF (n - 6) (Nat.le_refl _)
    rw [hl] at hq
    have hla : ∀ c, l.lostAt c = l0.lostAt c := fun c => by unfold Lay.lostAt; rw [hq.lost]
    have hu : l.used = l.at_.take (n - 6) := by unfold Lay.used; rw [hq.sz]
    refine ⟨⟨hok.1, by rw [hu]; exact hq.nd, fun b hb => ?_, ?_, ⟨by rw [hla]; exact r0, by rw [hla]; exact r1⟩, fun b hb => ?_⟩, hq.sz, fun c => (hla c).trans (hm c)⟩
    · rw [hu] at hb
      obtain ⟨q1, q2, q3⟩ := hq.inn b hb
      exact ⟨q1, by rw [hq.sz]; exact q2, by rw [hla]; exact q3⟩
    · rw [hq.sz, hq.rest]
      congr 1
      omega
    · rw [hq.sz] at hb
      rw [hla, hm, decide_eq_false (by omega)]
      rfl
/-- as many blocks, the same ones bad -/
def SameB (A B : List Bk) : Prop := B.length = A.length ∧ ∀ c, (B.getD c ⟨[], 0, false⟩).bad = (A.getD c ⟨[], 0, false⟩).bad
end Go.Proofs.YtdiocjneakfdgaaGreatDoor

