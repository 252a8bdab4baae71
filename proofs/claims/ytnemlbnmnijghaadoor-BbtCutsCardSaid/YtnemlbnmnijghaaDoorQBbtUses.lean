/- What the document's Format takes, and what the program's does: the same. Plain facts, no condition. -/
import Derived.Test.YtnemlbnmnijghaaDoorQBbtR
namespace Go.Proofs.YtnemlbnmnijghaaDoor
open Go.RowKit
/-- the blocks from 2 on that aren't bad -/
def goods (n : Nat) (f : Nat → Bool) : List Nat := (List.range' 2 (n - 2)).filter fun b => !f b
theorem goods_mem {n : Nat} {f : Nat → Bool} (hn : 2 ≤ n) {b : Nat} : b ∈ goods n f ↔ 2 ≤ b ∧ b < n ∧ f b = false := by
  unfold goods
  rw [List.mem_filter, List.mem_range'_1]
  cases f b <;> simp <;> omega
theorem uses_goods (n : Nat) (f : Nat → Bool) (hn : 16 ≤ n) : ∀ (k i : Nat), 2 ≤ i → i ≤ n → i + k = n + 2 → ∀ us, us = (List.range' 2 (i - 2)).filter (fun b => !f b) → us.length ≤ n - 6 → refUses n f k i us = (goods n f).take (n - 6)
  | 0, i, h1, h2, h3, _, _, _ => by omega
  | k + 1, i, h1, h2, h3, us, hu, hl => by
    rw [refUses]
    by_cases hc : i < n ∧ us.length < n - 6
    · rw [if_pos hc]
      refine uses_goods n f hn k (i + 1) (by omega) (by omega) (by omega) _ ?_ ?_
      · rw [show i + 1 - 2 = (i - 2) + 1 by omega, List.range'_concat, List.filter_append, ← hu, show 2 + 1 * (i - 2) = i by omega]
        cases hf : f i with
        | true => simp [hf]
        | false => simp [hf]
      · split
        · exact hl
        · rw [List.length_append, List.length_singleton]; omega
    · rw [if_neg hc]
      have hsp : goods n f = us ++ (List.range' i (n - i)).filter (fun b => !f b) := by
        unfold goods
        rw [hu, ← List.filter_append]
        congr 1
        have := List.range'_append_1 (s := 2) (m := i - 2) (n := n - i)
        rw [show 2 + (i - 2) = i by omega, show i - 2 + (n - i) = n - 2 by omega] at this
        exact this.symm
      rw [hsp]
      rcases Nat.lt_or_ge us.length (n - 6) with h | h
      · have : i = n := by omega
        subst this
        rw [Nat.sub_self]
        show us = (us ++ []).take (i - 6)
        rw [List.append_nil, List.take_of_length_le (by omega)]
      · rw [List.take_left' (by omega)]
theorem goods_sorted (n : Nat) (f : Nat → Bool) : (goods n f).Pairwise (· < ·) := List.Pairwise.filter _ List.pairwise_lt_range'
theorem filled_all {n : Nat} {l0 : Lay} (h1 : 16 ≤ n) (h2 : n ≤ 40) (h0 : Filled n l0 l0 0) (h4 : l0.lossesTo n ≤ 4) : ∀ j, j ≤ n - 6 → Filled n l0 (Lay.fills j l0) j
  | 0, _ => h0
  | j + 1, hj => fills_step h1 h2 (filled_all h1 h2 h0 h4 j (by omega)) h4 (by omega)
theorem sorted_lt {F : List Nat} (h : F.Pairwise (· < ·)) {i j : Nat} (hi : i < F.length) (hj : j < F.length) (hij : F[i] < F[j]) : i < j := by
  rcases Nat.lt_or_ge i j with c | c
  · exact c
  · rcases Nat.eq_or_lt_of_le c with e | e
    · subst e; omega
    · have := List.pairwise_iff_getElem.1 h j i hj hi e
      omega
/-- the program takes the least spare each time: the blocks that aren't bad, in order -/
theorem fills_goods {n : Nat} {f : Nat → Bool} (h1 : 16 ≤ n) (h2 : n ≤ 40) (h4 : (Lay.mark n f n).lossesTo n ≤ 4) (hF : n - 6 ≤ (goods n f).length) : ∀ j, j ≤ n - 6 → (Lay.fills j (Lay.mark n f n)).at_.take j = (goods n f).take j
  | 0, _ => by simp
  | j + 1, hj => by
    have ih := fills_goods h1 h2 h4 hF j (by omega)
    have hFl := filled_all (l0 := Lay.mark n f n) h1 h2 ⟨rfl, rfl, by simp [Lay.mark], by simp, fun b hb => by simp at hb, by simp [Lay.mark]⟩ h4 j (by omega)
    obtain ⟨l, hl⟩ : ∃ l, l = Lay.fills j (Lay.mark n f n) := ⟨_, rfl⟩
    rw [← hl] at ih hFl
    have hjF : j < (goods n f).length := by omega
    have hla : ∀ c, l.lostAt c = (decide (c < n) && f c) := fun c => by
      have : l.lostAt c = (Lay.mark n f n).lostAt c := by unfold Lay.lostAt; rw [hFl.lost]
      rw [this, mark_lost n f h2]
    have hus : ∀ c, 2 ≤ c → (c ∈ l.used ↔ c ∈ (goods n f).take j) := fun c hc => by
      rw [← ih]
      constructor
      · intro hm
        have hm' : c ∈ l.at_ := List.mem_of_mem_take hm
        rw [← List.take_append_drop j l.at_] at hm'
        rcases List.mem_append.1 hm' with q | q
        · exact q
        · rw [hFl.rest] at q
          have := List.eq_of_mem_replicate q
          omega
      · intro hm
        unfold Lay.used
        rw [hFl.sz]
        rw [show l.at_.take j = (l.at_.take (n - 6)).take j by rw [List.take_take, Nat.min_eq_left (by omega)]] at hm
        exact List.mem_of_mem_take hm
    obtain ⟨x, hx⟩ : ∃ x, x = (goods n f)[j] := ⟨_, rfl⟩
    have hxq : (goods n f)[j]? = some x := by rw [hx]; exact List.getElem?_eq_getElem hjF
    obtain ⟨g2, gn, gf⟩ := (goods_mem (by omega)).1 (List.mem_of_getElem? hxq)
    have hsp : l.spare = some x := by
      have hs : l.isSpare ((x : Nat) : Int) = true := isSpare_of g2 (by rw [hFl.sz]; exact gn) (by rw [hla, gf, Bool.and_false]) (fun hm => by
        have hm2 := (hus _ g2).1 hm
        obtain ⟨i, hi, e⟩ := List.getElem_of_mem hm2
        rw [List.getElem_take] at e
        have hi' : i < j := by rw [List.length_take] at hi; omega
        have := List.pairwise_iff_getElem.1 (goods_sorted n f) i j (by omega) hjF hi'
        omega)
      unfold Lay.spare
      rw [hFl.sz, List.find?_eq_some_iff_append]
      refine ⟨hs, List.range x, List.range' (x + 1) (n - x - 1), ?_, fun b hb => ?_⟩
      · rw [List.range_eq_range', List.range_eq_range']
        obtain ⟨d, hd⟩ : ∃ d, n = x + (1 + d) := ⟨n - x - 1, by omega⟩
        rw [hd, ← List.range'_append_1, ← List.range'_append_1, show x + (1 + d) - x - 1 = d by omega]
        simp
      · rw [List.mem_range] at hb
        cases hq : l.isSpare (b : Int) with
        | false => rfl
        | true =>
          exfalso
          obtain ⟨b2, bn, bl, bu⟩ := spare_iff.1 hq
          rw [hFl.sz] at bn
          rw [hla, decide_eq_true bn, Bool.true_and] at bl
          have hbm := (goods_mem (n := n) (f := f) (by omega)).2 ⟨b2, bn, bl⟩
          obtain ⟨i, hi, e⟩ := List.getElem_of_mem hbm
          have hij := sorted_lt (goods_sorted n f) hi hjF (by omega)
          exact bu ((hus b b2).2 (by rw [← e]; exact List.mem_take_iff_getElem.2 ⟨i, by omega, rfl⟩))
    have e1 : (Lay.fills (j + 1) (Lay.mark n f n)).at_ = l.at_.set j x := by
      rw [hl]
      show ((Lay.fills j (Lay.mark n f n)).setAt j ((Lay.fills j (Lay.mark n f n)).spare.getD 0)).at_ = _
      rw [← hl, hsp]
      rfl
    rw [e1, take_set_here l.at_ j x (by rw [hFl.len]; omega), ih, take_snoc _ hxq]
/-- the document's Format and the program's fresh layout tell the same -/
theorem uses_fresh {n : Nat} {f : Nat → Bool} {l : Lay} (h1 : 16 ≤ n) (h2 : n ≤ 40) (h : Lay.fresh n f = some l) (hF : n - 6 ≤ (goods n f).length) : refUses n f n 2 [] = l.used := by
  rw [uses_goods n f h1 n 2 (by omega) (by omega) (by omega) [] (by simp) (by simp)]
  have h0 := h
  unfold Lay.fresh at h
  split at h
  · cases h
  · rename_i hr
    have hl := Option.some.inj h
    unfold Lay.markRefuse at hr
    simp only [Bool.or_eq_true, decide_eq_true_eq, not_or, Bool.not_eq_true] at hr
    have h4 : (Lay.mark n f n).lossesTo n ≤ 4 := by
      have := hr.2.2
      unfold Lay.losses at this
      have e : (Lay.mark n f n).n = n := rfl
      rw [e] at this
      omega
    have := fills_goods h1 h2 h4 hF (n - 6) (Nat.le_refl _)
    rw [← this]
    unfold Lay.used
    rw [← hl, Lay.fills_n]
    rfl
end Go.Proofs.YtnemlbnmnijghaaDoor

