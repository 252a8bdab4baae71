/- The mathematics of layer 10's order: who is emptied next doesn't hang on the order in which loads are told. No condition. -/
import Derived.Test.YtdmganpblkepfaaWearMath
namespace Go.Proofs.Ytdmganpblkepfaa.WM
/-- what is picked is no later than any -/
theorem pick_min {α : Type} {lt : α → α → Bool} (hn : ∀ a b c, lt a c = true → lt a b = true ∨ lt b c = true) (ha : ∀ a b, lt a b = true → lt b a = false) (l : List α) : ∀ y, pick lt l = some y → ∀ x ∈ l, lt x y = false := by
  have hi : ∀ a, lt a a = false := fun a => by
    cases h : lt a a with
    | false => rfl
    | true => rw [ha a a h] at h; cases h
  refine snoc_ind (P := fun l => ∀ y, pick lt l = some y → ∀ x ∈ l, lt x y = false) l ?_ ?_
  · intro y h; cases h
  · intro l z ih y hy x hx
    rw [pick_snoc] at hy
    rcases hp : pick lt l with _ | p
    · rw [hp] at hy
      simp only [step, Option.some.injEq] at hy
      subst hy
      obtain rfl := pick_none.1 hp
      rcases List.mem_append.1 hx with h | h
      · simp at h
      · rw [List.mem_singleton.1 h]; exact hi _
    · rw [hp] at hy
      simp only [step] at hy
      have hpl := ih p hp
      by_cases hz : lt z p = true
      · rw [if_pos hz] at hy
        simp only [Option.some.injEq] at hy
        subst hy
        rcases List.mem_append.1 hx with h | h
        · cases hxz : lt x z with
          | false => rfl
          | true =>
            rcases hn x p z hxz with h1 | h1
            · rw [hpl x h] at h1; cases h1
            · rw [ha z p hz] at h1; cases h1
        · rw [List.mem_singleton.1 h]; exact hi _
      · rw [if_neg hz] at hy
        simp only [Option.some.injEq] at hy
        subst hy
        rcases List.mem_append.1 hx with h | h
        · exact hpl x h
        · rw [List.mem_singleton.1 h]; simpa using hz
theorem sooner_true (a b : LV) : sooner a b = true ↔ a.counts < b.counts ∨ (a.counts = b.counts ∧ (a.wear < b.wear ∨ (a.wear = b.wear ∧ a.block < b.block))) := by
  simp [sooner]
theorem sooner_asym (a b : LV) (h : sooner a b = true) : sooner b a = false := by
  cases h2 : sooner b a with
  | false => rfl
  | true =>
    rw [sooner_true] at h h2
    omega
theorem sooner_neg (a b c : LV) (h : sooner a c = true) : sooner a b = true ∨ sooner b c = true := by
  rw [sooner_true] at h
  rw [sooner_true, sooner_true]
  omega
/-- all numbers, and all blocks, are unlike -/
def Distinct (L : List LV) : Prop := L.Pairwise fun a b => a.seq ≠ b.seq ∧ a.block ≠ b.block
theorem Distinct.at {L : List LV} (h : Distinct L) {i j : Nat} (hi : i < L.length) (hj : j < L.length) (hne : i ≠ j) : (at_ L i).seq ≠ (at_ L j).seq ∧ (at_ L i).block ≠ (at_ L j).block := by
  have h' := List.pairwise_iff_getElem.1 h
  have e : ∀ k (hk : k < L.length), at_ L k = L[k] := fun k hk => by
    unfold at_
    rw [List.getD_eq_getElem?_getD, List.getElem?_eq_getElem hk]
    rfl
  rw [e i hi, e j hj]
  rcases Nat.lt_or_ge i j with h1 | h1
  · exact h' i j hi hj h1
  · have := h' j i hj hi (by omega)
    exact ⟨fun q => this.1 q.symm, fun q => this.2 q.symm⟩
/-- the load that is emptied next, by what the loads are alone -/
structure Next (L : List LV) (l : LV) : Prop where
  mem : l ∈ L
  old : ∃ m ∈ L, l.seq < m.seq
  first : ∀ x ∈ L, (∃ m ∈ L, x.seq < m.seq) → x ≠ l → sooner l x = true
theorem at_mem {L : List LV} {i : Nat} (h : i < L.length) : at_ L i ∈ L := by
  unfold at_
  rw [List.getD_eq_getElem?_getD, List.getElem?_eq_getElem h]
  exact List.getElem_mem h
theorem mem_at {L : List LV} {x : LV} (h : x ∈ L) : ∃ i, i < L.length ∧ x = at_ L i := by
  obtain ⟨i, hi, rfl⟩ := List.getElem_of_mem h
  refine ⟨i, hi, ?_⟩
  unfold at_
  rw [List.getD_eq_getElem?_getD, List.getElem?_eq_getElem hi]
  rfl
theorem old_iff {L : List LV} (hd : Distinct L) {i : Nat} (hi : i < L.length) : (∃ m ∈ L, (at_ L i).seq < m.seq) ↔ i ≠ newest L := by
  have hmax : ∀ j, j < L.length → (at_ L j).seq ≤ (at_ L (newest L)).seq := fun j hj => lfold_max (fun i => (at_ L i).seq) L.length j hj
  have hnl : newest L < L.length := lfold_lt _ (Nat.le_refl _) (by omega)
  constructor
  · rintro ⟨m, hm, hlt⟩ e
    obtain ⟨j, hj, rfl⟩ := mem_at hm
    have := hmax j hj
    rw [← e] at this
    omega
  · intro hne
    refine ⟨_, at_mem hnl, ?_⟩
    have h1 := hmax i hi
    have h2 := (hd.at hi hnl hne).1
    omega
theorem victim_next {L : List LV} (hd : Distinct L) {i : Nat} (h : victim L = some i) : Next L (at_ L i) := by
  have hi := victim_lt h
  have hmem := pick_mem h
  have hne : i ≠ newest L := by
    have := (List.mem_filter.1 hmem).2
    simpa using this
  refine ⟨at_mem hi, (old_iff hd hi).2 hne, fun x hx hold hxl => ?_⟩
  obtain ⟨j, hj, rfl⟩ := mem_at hx
  have hjn := (old_iff hd hj).1 hold
  have hji : j ≠ i := fun e => hxl (by rw [e])
  have hjo : j ∈ others L L.length := List.mem_filter.2 ⟨List.mem_range.2 hj, by simpa using hjn⟩
  have hmin := pick_min (lt := fun i j => sooner (at_ L i) (at_ L j)) (fun a b c => sooner_neg _ _ _) (fun a b => sooner_asym _ _) _ i h j hjo
  have hb := (hd.at hj hi hji).2
  cases hs : sooner (at_ L i) (at_ L j) with
  | true => rfl
  | false =>
    exfalso
    have n1 : ¬ sooner (at_ L j) (at_ L i) = true := by rw [hmin]; decide
    have n2 : ¬ sooner (at_ L i) (at_ L j) = true := by rw [hs]; decide
    rw [sooner_true] at n1 n2
    omega
theorem Next.unique {L : List LV} {a b : LV} (ha : Next L a) (hb : Next L b) : a = b := by
  apply Classical.byContradiction
  intro hne
  have h1 := ha.first b hb.mem hb.old (fun e => hne e.symm)
  have h2 := hb.first a ha.mem ha.old hne
  rw [sooner_asym _ _ h1] at h2
  cases h2
theorem Next.perm {L M : List LV} {a : LV} (h : Next L a) (hp : L.Perm M) : Next M a :=
  ⟨hp.mem_iff.1 h.mem, by obtain ⟨m, hm, h'⟩ := h.old; exact ⟨m, hp.mem_iff.1 hm, h'⟩, fun x hx ⟨m, hm, h'⟩ hne => h.first x (hp.mem_iff.2 hx) ⟨m, hp.mem_iff.2 hm, h'⟩ hne⟩
theorem Distinct.perm {L M : List LV} (h : Distinct L) (hp : L.Perm M) : Distinct M :=
  (hp.pairwise_iff (fun h => ⟨fun e => h.1 e.symm, fun e => h.2 e.symm⟩)).1 h
theorem victim_isSome (L : List LV) : (victim L).isSome = decide (2 ≤ L.length) := by
  rcases hv : victim L with _ | i
  · have h := pick_none.1 hv
    have : ¬ 2 ≤ L.length := fun h2 => by
      rcases Nat.eq_zero_or_pos (newest L) with h0 | h0
      · have : 1 ∈ others L L.length := List.mem_filter.2 ⟨List.mem_range.2 (by omega), by simp; omega⟩
        rw [h] at this
        simp at this
      · have : 0 ∈ others L L.length := List.mem_filter.2 ⟨List.mem_range.2 (by omega), by simp; omega⟩
        rw [h] at this
        simp at this
    simp [this]
  · have hi := victim_lt hv
    have hne : i ≠ newest L := by
      have := (List.mem_filter.1 (pick_mem hv)).2
      simpa using this
    have hnl : newest L < L.length := lfold_lt _ (Nat.le_refl _) (by omega)
    have : 2 ≤ L.length := by omega
    simp [this]
/-- in whatever order: none for both, or the same load -/
theorem victim_perm {L M : List LV} (hd : Distinct L) (hp : L.Perm M) : (victim L = none ∧ victim M = none) ∨ ∃ i k, victim L = some i ∧ victim M = some k ∧ at_ L i = at_ M k := by
  have hl := hp.length_eq
  have h1 := victim_isSome L
  have h2 := victim_isSome M
  rw [← hl, ← h1] at h2
  rcases hv : victim L with _ | i
  · rw [hv] at h2
    rcases hm : victim M with _ | k
    · exact .inl ⟨rfl, rfl⟩
    · rw [hm] at h2; cases h2
  · rw [hv] at h2
    rcases hm : victim M with _ | k
    · rw [hm] at h2; cases h2
    · exact .inr ⟨i, k, rfl, rfl, ((victim_next hd hv).perm hp).unique (victim_next (hd.perm hp) hm)⟩
end Go.Proofs.Ytdmganpblkepfaa.WM
