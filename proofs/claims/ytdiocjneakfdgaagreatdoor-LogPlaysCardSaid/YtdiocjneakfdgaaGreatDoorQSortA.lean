/- Several texts of the proof, joined: what each has is said at its head. -/
import Derived.Sort.Statements
import Derived.Test.YtdiocjneakfdgaaGreatDoorQWear
import Derived.Test.YtdiocjneakfdgaaGreatDoorQNandB
import Derived.BigRegion
import Derived.Deep.QuietTactic
import Derived.BigQuiet
/- How a stable sort merges two rows that lie side by side: plain facts of lists of numbers. -/
namespace Go.Proofs.YtdiocjneakfdgaaGreatDoor
/-- two places exchanged -/
def sw (L : List Nat) (i j : Nat) : List Nat := (L.set i (L.getD j 0)).set j (L.getD i 0)
theorem sw_length (L : List Nat) (i j : Nat) : (sw L i j).length = L.length := by simp [sw]
theorem sw_get {L : List Nat} {i j : Nat} (hi : i < L.length) (hj : j < L.length) (p : Nat) : (sw L i j).getD p 0 = if p = j then L.getD i 0 else if p = i then L.getD j 0 else L.getD p 0 := by
  unfold sw
  simp only [List.getD_eq_getElem?_getD, List.getElem?_set, List.length_set]
  by_cases c : p = j
  · subst c; simp [hj]
  · rw [if_neg c, if_neg (fun q => c q.symm)]
    by_cases c2 : p = i
    · subst c2; simp [hi]
    · rw [if_neg c2, if_neg (fun q => c2 q.symm)]
theorem set_perm_cons : ∀ (L : List Nat) (i : Nat) (v : Nat), i < L.length → ((L.set i v) ++ [L.getD i 0]).Perm (L ++ [v])
  | [], i, v, h => absurd h (Nat.not_lt_zero _)
  | x :: L, 0, v, _ => by
    show (v :: (L ++ [x])).Perm (x :: (L ++ [v]))
    refine List.Perm.trans (List.Perm.cons v (List.perm_append_comm (l₁ := L) (l₂ := [x]))) ?_
    refine List.Perm.trans (List.Perm.swap x v L) (List.Perm.cons x ?_)
    exact (List.perm_append_comm (l₁ := L) (l₂ := [v])).symm
  | x :: L, i + 1, v, h => by
    show (x :: (L.set i v ++ [L.getD i 0])).Perm (x :: (L ++ [v]))
    exact List.Perm.cons x (set_perm_cons L i v (by simpa using h))
theorem sw_perm {L : List Nat} {i j : Nat} (hi : i < L.length) (hj : j < L.length) : (sw L i j).Perm L := by
  by_cases e : i = j
  · subst e
    have : sw L i i = L := by
      apply List.ext_getElem?
      intro p
      have h := sw_get hi hi p
      by_cases hp : p < L.length
      · rw [List.getElem?_eq_getElem (by rw [sw_length]; exact hp), List.getElem?_eq_getElem hp]
        simp only [List.getD_eq_getElem?_getD, List.getElem?_eq_getElem (show p < (sw L i i).length by rw [sw_length]; exact hp), List.getElem?_eq_getElem hp, List.getElem?_eq_getElem hi, Option.getD_some] at h
        rw [h]
        split
        · rename_i c; subst c; rfl
        · rfl
      · rw [List.getElem?_eq_none (by rw [sw_length]; omega), List.getElem?_eq_none (by omega)]
    rw [this]
  · have h1 := set_perm_cons L i (L.getD j 0) hi
    have hj' : j < (L.set i (L.getD j 0)).length := by rw [List.length_set]; exact hj
    have h2 := set_perm_cons (L.set i (L.getD j 0)) j (L.getD i 0) hj'
    have e2 : (L.set i (L.getD j 0)).getD j 0 = L.getD j 0 := by
      simp only [List.getD_eq_getElem?_getD, List.getElem?_set]
      rw [if_neg e]
    rw [e2] at h2
    have h3 : (sw L i j ++ [L.getD j 0]).Perm (L ++ [L.getD j 0]) := List.Perm.trans h2 h1
    exact (List.perm_append_right_iff _).1 h3
/-- n places exchanged with n others -/
def swr (L : List Nat) (a b : Nat) : Nat → List Nat
  | 0 => L
  | n + 1 => sw (swr L a b n) (a + n) (b + n)
theorem swr_length (L : List Nat) (a b : Nat) : ∀ n, (swr L a b n).length = L.length
  | 0 => rfl
  | n + 1 => by unfold swr; rw [sw_length, swr_length L a b n]
theorem swr_get {L : List Nat} {a b : Nat} : ∀ n, a + n ≤ b → b + n ≤ L.length → ∀ p, (swr L a b n).getD p 0 = if a ≤ p ∧ p < a + n then L.getD (p - a + b) 0 else if b ≤ p ∧ p < b + n then L.getD (p - b + a) 0 else L.getD p 0
  | 0, _, _, p => by rw [if_neg (by omega), if_neg (by omega)]; rfl
  | n + 1, h1, h2, p => by
    unfold swr
    rw [sw_get (by rw [swr_length]; omega) (by rw [swr_length]; omega)]
    have ih := swr_get (L := L) (a := a) (b := b) n (by omega) (by omega)
    by_cases c1 : p = b + n
    · rw [if_pos c1, ih, if_neg (by omega), if_neg (by omega), if_neg (by omega), if_pos (by omega)]
      congr 1; omega
    · rw [if_neg c1]
      by_cases c2 : p = a + n
      · rw [if_pos c2, ih, if_neg (by omega), if_neg (by omega), if_pos (by omega)]
        congr 1; omega
      · rw [if_neg c2, ih]
        by_cases c3 : a ≤ p ∧ p < a + n
        · rw [if_pos c3, if_pos (by omega)]
        · by_cases c4 : b ≤ p ∧ p < b + n
          · rw [if_neg c3, if_pos c4, if_neg (by omega), if_pos (by omega)]
          · rw [if_neg c3, if_neg c4, if_neg (by omega), if_neg (by omega)]
/-- F is L with the i places ahead of m and the j places from m on exchanged -/
def RotI (F : Nat → Nat) (L : List Nat) (m i j : Nat) : Prop := ∀ p, F p = if m - i ≤ p ∧ p < m + j then (if p < m - i + j then L.getD (p + i) 0 else L.getD (p - j) 0) else L.getD p 0
theorem RotI.more {F : Nat → Nat} {L : List Nat} {m i j : Nat} (h : RotI F L m i j) (hi : i ≤ m) (hij : j < i) (hl : m + j ≤ L.length) : RotI F (swr L (m - i) m j) m (i - j) j := fun p => by
  rw [h p]
  have hg := swr_get (L := L) (a := m - i) (b := m) j (by omega) hl
  by_cases c1 : m - i ≤ p ∧ p < m + j
  · rw [if_pos c1]
    by_cases c2 : p < m - i + j
    · rw [if_pos c2, if_neg (by omega), hg, if_pos (by omega)]
      congr 1; omega
    · rw [if_neg c2, if_pos (by omega)]
      by_cases c3 : p < m - (i - j) + j
      · rw [if_pos c3, hg]
        by_cases c4 : p + (i - j) < m
        · rw [if_neg (by omega), if_neg (by omega)]
          omega
        · rw [if_neg (by omega), if_pos (by omega)]
          congr 1; omega
      · rw [if_neg c3, hg]
        by_cases c4 : p - j < m - i + j
        · omega
        · rw [if_neg (by omega), if_neg (by omega)]
  · rw [if_neg c1, if_neg (by omega), hg, if_neg (by omega), if_neg (by omega)]
theorem RotI.less {F : Nat → Nat} {L : List Nat} {m i j : Nat} (h : RotI F L m i j) (hi : i ≤ m) (hij : i < j) (hl : m + j ≤ L.length) : RotI F (swr L (m - i) (m + j - i) i) m i (j - i) := fun p => by
  rw [h p]
  have hg := swr_get (L := L) (a := m - i) (b := m + j - i) i (by omega) (by omega)
  by_cases c1 : m - i ≤ p ∧ p < m + j
  · rw [if_pos c1]
    by_cases c2 : p < m - i + j
    · rw [if_pos c2, if_pos (by omega)]
      by_cases c3 : p < m - i + (j - i)
      · rw [if_pos c3, hg, if_neg (by omega), if_neg (by omega)]
      · rw [if_neg c3, hg]
        rw [if_pos (by omega)]
        congr 1; omega
    · rw [if_neg c2, if_neg (by omega), hg, if_neg (by omega), if_pos (by omega)]
      congr 1; omega
  · rw [if_neg c1, if_neg (by omega), hg, if_neg (by omega), if_neg (by omega)]
theorem RotI.done {F : Nat → Nat} {L : List Nat} {m i : Nat} (h : RotI F L m i i) (hi : i ≤ m) (hl : m + i ≤ L.length) (p : Nat) : (swr L (m - i) m i).getD p 0 = F p := by
  rw [h p, swr_get i (by omega) hl]
  by_cases c1 : m - i ≤ p ∧ p < m
  · rw [if_pos (by omega), if_pos (by omega), if_pos (by omega)]
    congr 1; omega
  · by_cases c2 : m ≤ p ∧ p < m + i
    · rw [if_neg (by omega), if_pos (by omega), if_pos (by omega), if_neg (by omega)]
      congr 1; omega
    · rw [if_neg (by omega), if_neg (by omega), if_neg (by omega)]
/-- in order from a to b -/
def Srt (key : Nat → Nat) (L : List Nat) (a b : Nat) : Prop := ∀ i j, a ≤ i → i < j → j < b → key (L.getD i 0) < key (L.getD j 0)
/-- L' is L with the places from a to b in another order -/
structure Mg (L L' : List Nat) (a b : Nat) : Prop where
  perm : L'.Perm L
  out : ∀ p, p < a ∨ b ≤ p → L'.getD p 0 = L.getD p 0
  inn : ∀ p, a ≤ p → p < b → ∃ q, a ≤ q ∧ q < b ∧ L'.getD p 0 = L.getD q 0
theorem Mg.refl (L : List Nat) (a b : Nat) : Mg L L a b := ⟨List.Perm.refl _, fun _ _ => rfl, fun p h1 h2 => ⟨p, h1, h2, rfl⟩⟩
theorem Mg.trans {L M K : List Nat} {a b : Nat} (h : Mg L M a b) (k : Mg M K a b) : Mg L K a b :=
  ⟨k.perm.trans h.perm, fun p hp => (k.out p hp).trans (h.out p hp), fun p h1 h2 => by
    obtain ⟨q, q1, q2, e⟩ := k.inn p h1 h2
    obtain ⟨r, r1, r2, e2⟩ := h.inn q q1 q2
    exact ⟨r, r1, r2, e.trans e2⟩⟩
theorem Mg.more {L M : List Nat} {a b a' b' : Nat} (h : Mg L M a b) (ha : a' ≤ a) (hb : b ≤ b') : Mg L M a' b' :=
  ⟨h.perm, fun p hp => h.out p (by omega), fun p h1 h2 => by
    by_cases c : a ≤ p ∧ p < b
    · obtain ⟨q, q1, q2, e⟩ := h.inn p c.1 c.2
      exact ⟨q, by omega, by omega, e⟩
    · exact ⟨p, h1, h2, h.out p (by omega)⟩⟩
theorem Mg.length {L M : List Nat} {a b : Nat} (h : Mg L M a b) : M.length = L.length := h.perm.length_eq
theorem Mg.swap {L : List Nat} {i j a b : Nat} (hi : a ≤ i ∧ i < b) (hj : a ≤ j ∧ j < b) (hb : b ≤ L.length) : Mg L (sw L i j) a b :=
  ⟨sw_perm (by omega) (by omega), fun p hp => by rw [sw_get (by omega) (by omega), if_neg (by omega), if_neg (by omega)], fun p h1 h2 => by
    rw [sw_get (by omega) (by omega)]
    by_cases c : p = j
    · rw [if_pos c]; exact ⟨i, hi.1, hi.2, rfl⟩
    · rw [if_neg c]
      by_cases c2 : p = i
      · rw [if_pos c2]; exact ⟨j, hj.1, hj.2, rfl⟩
      · rw [if_neg c2]; exact ⟨p, h1, h2, rfl⟩⟩
theorem Mg.swaps {L : List Nat} {x y a b : Nat} : ∀ n, a ≤ x → x + n ≤ y → y + n ≤ b → b ≤ L.length → Mg L (swr L x y n) a b
  | 0, _, _, _, _ => Mg.refl _ _ _
  | n + 1, h1, h2, h3, h4 => by
    have ih := Mg.swaps (L := L) (x := x) (y := y) (a := a) (b := b) n h1 (by omega) (by omega) h4
    exact ih.trans (Mg.swap ⟨by omega, by omega⟩ ⟨by omega, by omega⟩ (by rw [ih.length]; exact h4))
theorem Srt.out {key : Nat → Nat} {L M : List Nat} {a b x y : Nat} (h : Srt key L x y) (hm : Mg L M a b) (hd : y ≤ a ∨ b ≤ x) : Srt key M x y := fun i j h1 h2 h3 => by
  rw [hm.out i (by omega), hm.out j (by omega)]
  exact h i j h1 h2 h3
/-- all of one row are less than all of the other one -/
def Crs (key : Nat → Nat) (L : List Nat) (a m b : Nat) : Prop := ∀ i j, a ≤ i → i < m → m ≤ j → j < b → key (L.getD i 0) < key (L.getD j 0)
theorem Crs.left {key : Nat → Nat} {L M : List Nat} {a m b : Nat} (h : Crs key L a m b) (hm : Mg L M a m) : Crs key M a m b := fun i j h1 h2 h3 h4 => by
  obtain ⟨q, q1, q2, e⟩ := hm.inn i h1 h2
  rw [e, hm.out j (by omega)]
  exact h q j q1 q2 h3 h4
theorem Crs.right {key : Nat → Nat} {L M : List Nat} {a m b : Nat} (h : Crs key L a m b) (hm : Mg L M m b) : Crs key M a m b := fun i j h1 h2 h3 h4 => by
  obtain ⟨q, q1, q2, e⟩ := hm.inn j h3 h4
  rw [e, hm.out i (by omega)]
  exact h i q h1 h2 q1 q2
theorem Srt.join {key : Nat → Nat} {L : List Nat} {a m b : Nat} (h1 : Srt key L a m) (h2 : Srt key L m b) (h3 : Crs key L a m b) : Srt key L a b := fun i j p1 p2 p3 => by
  by_cases c : j < m
  · exact h1 i j p1 p2 c
  · by_cases c2 : i < m
    · exact h3 i j p1 c2 (by omega) p3
    · exact h2 i j (by omega) p2 p3
/-- no two keys are alike -/
def NK (key : Nat → Nat) (L : List Nat) : Prop := ∀ i j, i < L.length → j < L.length → i ≠ j → key (L.getD i 0) ≠ key (L.getD j 0)
theorem nk_of_nodup {key : Nat → Nat} {L : List Nat} (h : (L.map key).Nodup) : NK key L := fun i j hi hj hij e => by
  have hp := List.pairwise_iff_getElem.1 h
  simp only [List.getD_eq_getElem?_getD, List.getElem?_eq_getElem hi, List.getElem?_eq_getElem hj, Option.getD_some] at e
  rcases Nat.lt_or_gt_of_ne hij with c | c
  · exact hp i j (by simpa using hi) (by simpa using hj) c (by simpa using e)
  · exact hp j i (by simpa using hj) (by simpa using hi) c (by simpa using e.symm)
theorem nodup_perm {key : Nat → Nat} {L M : List Nat} (h : (L.map key).Nodup) (hp : M.Perm L) : (M.map key).Nodup := (hp.map key).nodup_iff.2 h
/-- the one on the left goes behind those that are less -/
def InsL (L M : List Nat) (a k : Nat) : Prop := ∀ p, M.getD p 0 = if a ≤ p ∧ p < k then L.getD (p + 1) 0 else if p = k then L.getD a 0 else L.getD p 0
theorem InsL.start (L : List Nat) (a : Nat) : InsL L L a a := fun p => by
  rw [if_neg (by omega)]
  split
  · rename_i c; rw [c]
  · rfl
theorem InsL.step {L M : List Nat} {a k : Nat} (h : InsL L M a k) (hak : a ≤ k) (hk : k + 1 < M.length) : InsL L (sw M k (k + 1)) a (k + 1) := fun p => by
  rw [sw_get (by omega) hk]
  by_cases c1 : p = k + 1
  · rw [if_pos c1, h k, if_neg (by omega), if_pos rfl, if_neg (by omega), if_pos c1]
  · rw [if_neg c1]
    by_cases c2 : p = k
    · rw [if_pos c2, h (k + 1), if_neg (by omega), if_neg (by omega), if_pos (by omega), c2]
    · rw [if_neg c2, h p, if_neg c2, if_neg c1]
      by_cases c3 : a ≤ p ∧ p < k
      · rw [if_pos c3, if_pos (by omega)]
      · rw [if_neg c3, if_neg (by omega)]
theorem InsL.done {key : Nat → Nat} {L M : List Nat} {a b i : Nat} (h : InsL L M a (i - 1)) (hi : a + 1 ≤ i) (hb : i ≤ b) (hs : Srt key L (a + 1) b) (h1 : ∀ c, a + 1 ≤ c → c < i → key (L.getD c 0) < key (L.getD a 0)) (h2 : ∀ c, i ≤ c → c < b → key (L.getD a 0) < key (L.getD c 0)) : Srt key M a b := fun x y p1 p2 p3 => by
  rw [h x, h y]
  by_cases c1 : x < i - 1
  · rw [if_pos (by omega)]
    by_cases c2 : y < i - 1
    · rw [if_pos (by omega)]
      exact hs _ _ (by omega) (by omega) (by omega)
    · rw [if_neg (by omega)]
      by_cases c3 : y = i - 1
      · rw [if_pos c3]; exact h1 _ (by omega) (by omega)
      · rw [if_neg c3]; exact hs _ _ (by omega) (by omega) (by omega)
  · by_cases c2 : x = i - 1
    · rw [if_neg (by omega), if_pos c2, if_neg (by omega), if_neg (by omega)]; exact h2 _ (by omega) (by omega)
    · rw [if_neg (by omega), if_neg c2, if_neg (by omega), if_neg (by omega)]; exact hs _ _ (by omega) (by omega) (by omega)
/-- the one on the right goes ahead of those that are greater -/
def InsR (L M : List Nat) (m k : Nat) : Prop := ∀ p, M.getD p 0 = if k < p ∧ p ≤ m then L.getD (p - 1) 0 else if p = k then L.getD m 0 else L.getD p 0
theorem InsR.start (L : List Nat) (m : Nat) : InsR L L m m := fun p => by
  rw [if_neg (by omega)]
  split
  · rename_i c; rw [c]
  · rfl
theorem InsR.step {L M : List Nat} {m k : Nat} (h : InsR L M m (k + 1)) (hkm : k + 1 ≤ m) (hm : m < M.length) : InsR L (sw M (k + 1) k) m k := fun p => by
  rw [sw_get (by omega) (by omega)]
  by_cases c1 : p = k
  · rw [if_pos c1, h (k + 1), if_neg (by omega), if_pos rfl, if_neg (by omega), if_pos c1]
  · rw [if_neg c1]
    by_cases c2 : p = k + 1
    · rw [if_pos c2, h k, if_neg (by omega), if_neg (by omega), if_pos (by omega), c2]
      rfl
    · rw [if_neg c2, h p, if_neg c2, if_neg c1]
      by_cases c3 : k + 1 < p ∧ p ≤ m
      · rw [if_pos c3, if_pos (by omega)]
      · rw [if_neg c3, if_neg (by omega)]
theorem InsR.done {key : Nat → Nat} {L M : List Nat} {a m i : Nat} (h : InsR L M m i) (hi : a ≤ i) (him : i ≤ m) (hs : Srt key L a m) (h1 : ∀ c, a ≤ c → c < i → key (L.getD c 0) < key (L.getD m 0)) (h2 : ∀ c, i ≤ c → c < m → key (L.getD m 0) < key (L.getD c 0)) : Srt key M a (m + 1) := fun x y p1 p2 p3 => by
  rw [h x, h y]
  by_cases c1 : x < i
  · rw [if_neg (by omega), if_neg (by omega)]
    by_cases c2 : i < y
    · rw [if_pos (by omega)]
      exact hs _ _ (by omega) (by omega) (by omega)
    · rw [if_neg (by omega)]
      by_cases c3 : y = i
      · rw [if_pos c3]; exact h1 _ (by omega) (by omega)
      · rw [if_neg c3]; exact hs _ _ (by omega) (by omega) (by omega)
  · by_cases c2 : x = i
    · rw [if_neg (by omega), if_pos c2, if_pos (by omega)]
      exact h2 _ (by omega) (by omega)
    · rw [if_pos (by omega), if_pos (by omega)]
      exact hs _ _ (by omega) (by omega) (by omega)
/-- where a merge parts its rows -/
structure Part (key : Nat → Nat) (L : List Nat) (a m b mid lo hi s : Nat) : Prop where
  m1 : a < m
  m2 : m < b
  md : mid = (a + b) / 2
  lh : (mid < m ∧ lo = mid + m - b ∧ hi = mid) ∨ (m ≤ mid ∧ lo = a ∧ hi = m)
  s1 : lo ≤ s
  s2 : s ≤ hi
  lt : ∀ c, lo ≤ c → c < s → key (L.getD c 0) < key (L.getD (mid + m - 1 - c) 0)
  gt : ∀ c, s ≤ c → c < hi → key (L.getD (mid + m - 1 - c) 0) < key (L.getD c 0)
theorem Part.done {key : Nat → Nat} {L M : List Nat} {a m b mid lo hi s : Nat} (h : Part key L a m b mid lo hi s) (h1 : Srt key L a m) (h2 : Srt key L m b) (hR : ∀ F, RotI F L m (m - s) (mid + m - s - m) → ∀ p, M.getD p 0 = F p) :
    Crs key M a mid b ∧ Srt key M a s ∧ Srt key M s mid ∧ Srt key M mid (mid + m - s) ∧ Srt key M (mid + m - s) b := by
  obtain ⟨m1, m2, md, lh, s1, s2, lt, gt⟩ := h
  have hM : ∀ p, M.getD p 0 = if s ≤ p ∧ p < mid + m - s then (if p < mid then L.getD (p + (m - s)) 0 else L.getD (p - (mid - s)) 0) else L.getD p 0 := fun p => by
    refine hR (fun p => if s ≤ p ∧ p < mid + m - s then (if p < mid then L.getD (p + (m - s)) 0 else L.getD (p - (mid - s)) 0) else L.getD p 0) (fun q => ?_) p
    have e1 : m - (m - s) = s := by omega
    have e2 : m + (mid + m - s - m) = mid + m - s := by omega
    have e3 : mid + m - s - m = mid - s := by omega
    rw [e1, e2, e3, show s + (mid - s) = mid by omega]
  have A1 : ∀ p, p < s → M.getD p 0 = L.getD p 0 := fun p hp => by rw [hM p, if_neg (by omega)]
  have A2 : ∀ p, s ≤ p → p < mid → M.getD p 0 = L.getD (p + (m - s)) 0 := fun p q1 q2 => by rw [hM p, if_pos (by omega), if_pos q2]
  have A3 : ∀ p, mid ≤ p → p < mid + m - s → M.getD p 0 = L.getD (p - (mid - s)) 0 := fun p q1 q2 => by rw [hM p, if_pos (by omega), if_neg (by omega)]
  have A4 : ∀ p, mid + m - s ≤ p → M.getD p 0 = L.getD p 0 := fun p hp => by rw [hM p, if_neg (by omega)]
  refine ⟨fun i j p1 p2 p3 p4 => ?_, fun i j p1 p2 p3 => ?_, fun i j p1 p2 p3 => ?_, fun i j p1 p2 p3 => ?_, fun i j p1 p2 p3 => ?_⟩
  · by_cases c1 : i < s
    · rw [A1 i c1]
      by_cases c2 : j < mid + m - s
      · rw [A3 j p3 c2]
        exact h1 _ _ p1 (by omega) (by omega)
      · rw [A4 j (by omega)]
        have q := lt (s - 1) (by omega) (by omega)
        have q1 : key (L.getD i 0) ≤ key (L.getD (s - 1) 0) := by
          by_cases e : i = s - 1
          · rw [e]; exact Nat.le_refl _
          · exact Nat.le_of_lt (h1 _ _ p1 (by omega) (by omega))
        have q2 : key (L.getD (mid + m - 1 - (s - 1)) 0) ≤ key (L.getD j 0) := by
          by_cases e : j = mid + m - 1 - (s - 1)
          · rw [← e]; exact Nat.le_refl _
          · exact Nat.le_of_lt (h2 _ _ (by omega) (by omega) p4)
        omega
    · rw [A2 i (by omega) p2]
      by_cases c2 : j < mid + m - s
      · rw [A3 j p3 c2]
        have q := gt s (by omega) (by omega)
        have q1 : key (L.getD (i + (m - s)) 0) ≤ key (L.getD (mid + m - 1 - s) 0) := by
          by_cases e : i + (m - s) = mid + m - 1 - s
          · rw [e]; exact Nat.le_refl _
          · exact Nat.le_of_lt (h2 _ _ (by omega) (by omega) (by omega))
        have q2 : key (L.getD s 0) ≤ key (L.getD (j - (mid - s)) 0) := by
          by_cases e : j - (mid - s) = s
          · rw [e]; exact Nat.le_refl _
          · exact Nat.le_of_lt (h1 _ _ (by omega) (by omega) (by omega))
        omega
      · rw [A4 j (by omega)]
        exact h2 _ _ (by omega) (by omega) p4
  · rw [A1 i (by omega), A1 j p3]; exact h1 _ _ p1 p2 (by omega)
  · rw [A2 i p1 (by omega), A2 j (by omega) p3]; exact h2 _ _ (by omega) (by omega) (by omega)
  · rw [A3 i p1 (by omega), A3 j (by omega) p3]; exact h1 _ _ (by omega) (by omega) (by omega)
  · rw [A4 i p1, A4 j (by omega)]; exact h2 _ _ (by omega) p2 p3
/-- a step of the search where it is parted -/
theorem Part.up {key : Nat → Nat} {L : List Nat} {a m b mid lo hi s c : Nat} (m1 : a < m) (m2 : m < b) (md : mid = (a + b) / 2) (lh : (mid < m ∧ lo = mid + m - b ∧ hi = mid) ∨ (m ≤ mid ∧ lo = a ∧ hi = m)) (h1 : Srt key L a m) (h2 : Srt key L m b) (_hs : lo ≤ s) (_hc : s ≤ c) (hch : c < hi) (hk : key (L.getD c 0) < key (L.getD (mid + m - 1 - c) 0)) :
    ∀ x, lo ≤ x → x < c + 1 → key (L.getD x 0) < key (L.getD (mid + m - 1 - x) 0) := fun x q1 q2 => by
  by_cases e : x = c
  · rw [e]; exact hk
  · have r1 := h1 x c (by omega) (by omega) (by omega)
    have r2 := h2 (mid + m - 1 - c) (mid + m - 1 - x) (by omega) (by omega) (by omega)
    omega
theorem Part.down {key : Nat → Nat} {L : List Nat} {a m b mid lo hi c : Nat} (m1 : a < m) (m2 : m < b) (md : mid = (a + b) / 2) (lh : (mid < m ∧ lo = mid + m - b ∧ hi = mid) ∨ (m ≤ mid ∧ lo = a ∧ hi = m)) (h1 : Srt key L a m) (h2 : Srt key L m b) (hc : lo ≤ c) (_hch : c < hi) (hk : key (L.getD (mid + m - 1 - c) 0) < key (L.getD c 0)) :
    ∀ x, c ≤ x → x < hi → key (L.getD (mid + m - 1 - x) 0) < key (L.getD x 0) := fun x q1 q2 => by
  by_cases e : x = c
  · rw [e]; exact hk
  · have r1 := h1 c x (by omega) (by omega) (by omega)
    have r2 := h2 (mid + m - 1 - x) (mid + m - 1 - c) (by omega) (by omega) (by omega)
    omega
end Go.Proofs.YtdiocjneakfdgaaGreatDoor

/- A row of numbers that a sort turns. No condition. -/
namespace Go.Proofs.YtdiocjneakfdgaaGreatDoor
open Go.RowKit
def nv (xs : List Nat) : List Value := xs.map fun z : Nat => Value.int .i64 (z : Int)
theorem nv_length (xs : List Nat) : (nv xs).length = xs.length := by simp [nv]
theorem nv_get {L : List Nat} {x : Nat} (h : x < L.length) : (nv L)[x]? = some (.int .i64 ((L.getD x 0 : Nat) : Int)) := by
  unfold nv
  rw [List.getElem?_map, List.getD_eq_getElem?_getD, List.getElem?_eq_getElem h]
  rfl
/-- in block g lies a row of numbers, and what is spare behind it -/
def IR (w : World) (g : Nat) (L : List Nat) (ex : List Value) : Prop := Blk w g 3 (nv L ++ ex)
section
variable {w w' : World} {g : Nat} {L : List Nat} {ex : List Value}
theorem IR.cell (h : IR w g L ex) {x : Nat} (hx : x < L.length) : w.cell? ⟨g, x, none⟩ = some (.int .i64 ((L.getD x 0 : Nat) : Int)) := by
  rw [Blk.cell h, List.getElem?_append_left (by rw [nv_length]; exact hx), nv_get hx]
theorem IR.free (h : IR w g L ex) (x : Nat) : w.frozen? ⟨g, x, none⟩ = false := Blk.free h x
theorem IR.set (h : IR w g L ex) {x : Nat} (hx : x < L.length) (v : Nat) : IR (w.setCell ⟨g, x, none⟩ (.int .i64 (v : Int))) g (L.set x v) ex := by
  have := Blk.set h x (.int .i64 (v : Int))
  rw [List.set_append_left _ _ (by rw [nv_length]; exact hx)] at this
  unfold IR nv
  rw [List.map_set]
  exact this
theorem IR.sw (h : IR w g L ex) {i j : Nat} (hi : i < L.length) (hj : j < L.length) :
    IR ((w.setCell ⟨g, i, none⟩ (.int .i64 ((L.getD j 0 : Nat) : Int))).setCell ⟨g, j, none⟩ (.int .i64 ((L.getD i 0 : Nat) : Int))) g (sw L i j) ex :=
  (h.set hi _).set (by rw [List.length_set]; exact hj) _
theorem grown_setg (w : World) (g k : Nat) (v : Value) : w.grownBy (w.setCell ⟨g, k, none⟩ v) (some g) :=
  ⟨rfl, rfl, rfl, by simp, fun j _ hj => heap_setCell_other w ⟨g, k, none⟩ j v (fun e => hj (by rw [e]))⟩
theorem Chg.setg (h : Chg w w' (fun j => j = g)) (k : Nat) (v : Value) : Chg w (w'.setCell ⟨g, k, none⟩ v) (fun j => j = g) := h.trans (Chg.of_grown (grown_setg w' g k v) (fun k e => by cases e; rfl))
theorem Chg.drewg (h : Chg w w' (fun j => j = g)) : Chg w w'.drew (fun j => j = g) := ⟨h.os, h.tape, h.output, h.size, h.block⟩
theorem Chg.drewN' : ∀ (n : Nat) (v : World), Chg w v (fun j => j = g) → Chg w (v.drewN n) (fun j => j = g)
  | 0, _, h => h
  | n + 1, v, h => by first | exact Chg.drewN' n _ h.drewg | exact (Chg.drewN' n v h).drewg
theorem Chg.drewN (h : Chg w w' (fun j => j = g)) (n : Nat) : Chg w (w'.drewN n) (fun j => j = g) := Chg.drewN' n w' h
/-- the order that a function tells: less than 0, if the first one has the lesser key -/
def KCmp (q : Nat) (key : Nat → Nat) (n g : Nat) (w : World) : Prop := ∀ W, Chg w W (fun j => j = g) → ∀ x y, x < n → y < n → Calls Tryz.prog 47 #[.int .i64 (x : Int), .int .i64 (y : Int), .pointer (some ⟨q, 0, none⟩)] W fun e W' => e = .returned (.int .i64 (cmp3 (key x : Int) (key y : Int))) ∧ ∃ m, W' = W.drewN m
theorem KCmp.chg {q n : Nat} {key : Nat → Nat} (h : KCmp q key n g w) (hc : Chg w w' (fun j => j = g)) : KCmp q key n g w' := fun W hW => h W (hc.trans hW)
theorem KCmp.quiet {q n : Nat} {key : Nat → Nat} (h : KCmp q key n g w) {x y : Nat} (hx : x < n) (hy : y < n) (k : Nat) : Calls Tryz.prog 47 #[.int .i64 (x : Int), .int .i64 (y : Int), .pointer (some ⟨q, 0, none⟩)] (w.drewN k) fun e W' => e = .returned (.int .i64 (cmp3 (key x : Int) (key y : Int))) ∧ ∃ m, W' = w.drewN m :=
  Calls.quiet_of (h _ ((Chg.refl w _).drewN k) x y hx hy)
theorem cmpn_lt (x y : Nat) : cmp3 (x : Int) (y : Int) < 0 ↔ x < y := by
  unfold cmp3
  split
  · omega
  · split <;> omega
/-- each number of the row has a key -/
def LtN (L : List Nat) (n : Nat) : Prop := ∀ x ∈ L, x < n
theorem LtN.at {n : Nat} (h : LtN L n) {i : Nat} (hi : i < L.length) : L.getD i 0 < n := by
  rw [List.getD_eq_getElem?_getD, List.getElem?_eq_getElem hi]
  exact h _ (List.getElem_mem hi)
theorem LtN.perm {n : Nat} {M : List Nat} (h : LtN L n) (hp : M.Perm L) : LtN M n := fun x hx => h x (hp.mem_iff.1 hx)
end
end Go.Proofs.YtdiocjneakfdgaaGreatDoor

/- A sort's exchange of two rows. Condition: both lie in the row, apart. -/
namespace Go.Proofs.YtdiocjneakfdgaaGreatDoor
open Go.RowKit
set_option maxRecDepth 100000 in
set_option maxHeartbeats 8000000 in
theorem swapRange_any (g c a b n : Nat) (L : List Nat) (ex : List Value) (fv : Value) (w : World) (h : IR w g L ex) (h1 : a + n ≤ b) (h2 : b + n ≤ L.length) (hl : L.length ≤ 1000) :
    Calls Tryz.prog 136 #[.slice (some ⟨g, 0, none⟩) L.length c, .int .i64 (a : Int), .int .i64 (b : Int), .int .i64 (n : Int), fv] w fun e w' => e = .returned (.tuple #[]) ∧ IR w' g (swr L a b n) ex ∧ Chg w w' (fun j => j = g) := by
  have HI := Lib.hid h
  clear h
  go_enter Tryz.func136, Tryz.ntmps136
  go_wp2
  go_loopw [10] (fun i wr => ∃ k : Nat, k ≤ n ∧ i = .int .i64 k ∧ Hid (IR wr g (swr L a b k) ex) ∧ Hid (Chg w wr (fun j => j = g))) (fun i _ => n - (intOf i).toNat)
  case atStart => exact ⟨0, Nat.zero_le _, rfl, HI, Lib.hid (Chg.refl _ _)⟩
  case round =>
    rename_i wr
    obtain ⟨k, hk, rfl, hI, hC⟩ := hrel
    by_cases hlt : k < n
    · have hlen := swr_length L a b k
      have cx := Lib.hid (hI.out.cell (x := a + k) (by omega))
      have cy := Lib.hid (hI.out.cell (x := b + k) (by omega))
      have fx := Lib.hid (hI.out.free (a + k))
      have fy := Lib.hid (hI.out.free (b + k))
      have HN := Lib.hid (hI.out.sw (i := a + k) (j := b + k) (by omega) (by omega))
      have HC2 := Lib.hid ((hC.out.setg (a + k) (.int .i64 (((swr L a b k).getD (b + k) 0 : Nat) : Int))).setg (b + k) (.int .i64 (((swr L a b k).getD (a + k) 0 : Nat) : Int)))
      obtain ⟨x, hx⟩ : ∃ x, a + k = x := ⟨_, rfl⟩
      obtain ⟨y, hy⟩ : ∃ y, b + k = y := ⟨_, rfl⟩
      have ex1 : (a : Int) + (k : Int) = (x : Int) := by omega
      have ey1 : (b : Int) + (k : Int) = (y : Int) := by omega
      have HS := Lib.hid (show swr L a b (k + 1) = sw (swr L a b k) x y by rw [← hx, ← hy]; rfl)
      simp only [hx, hy] at cx cy fx fy HN HC2
      have hxl : x < L.length := by omega
      have hyl : y < L.length := by omega
      have hne : x ≠ y := by omega
      obtain ⟨vx, hvx⟩ : ∃ vx, (swr L a b k).getD x 0 = vx := ⟨_, rfl⟩
      obtain ⟨vy, hvy⟩ : ∃ vy, (swr L a b k).getD y 0 = vy := ⟨_, rfl⟩
      simp only [hvx, hvy] at cx cy HN HC2
      clear hvx hvy
      have cx' := cx.out
      have cy' := cy.out
      have fx' := fx.out
      have fy' := fy.out
      go_wp2
      go_region
      all_goals go_wp2
      go_roundw
      case rel => exact ⟨k + 1, by omega, by go_num, Lib.hid (by rw [HS.out]; exact HN.out), Lib.hid HC2.out.drewg⟩
      case measure => simp [intOf]; omega
    · obtain rfl : k = n := by omega
      go_wp2
      go_end0
      exact ⟨rfl, hI.out, hC.out⟩
end Go.Proofs.YtdiocjneakfdgaaGreatDoor

/- A sort of a short row. Condition: no two keys are alike. -/
namespace Go.Proofs.YtdiocjneakfdgaaGreatDoor
open Go.RowKit
theorem NK.perm {key : Nat → Nat} {L M : List Nat} (h : NK key L) (hp : M.Perm L) : NK key M := by
  have hn : (L.map key).Nodup := by
    unfold List.Nodup
    rw [List.pairwise_iff_getElem]
    intro i j hi hj hij e
    have hi' : i < L.length := by simpa using hi
    have hj' : j < L.length := by simpa using hj
    refine h i j hi' hj' (by omega) ?_
    rw [List.getD_eq_getElem?_getD, List.getD_eq_getElem?_getD, List.getElem?_eq_getElem hi', List.getElem?_eq_getElem hj']
    simpa using e
  exact nk_of_nodup (nodup_perm hn hp)
theorem NK.lt {key : Nat → Nat} {L : List Nat} (h : NK key L) {i j : Nat} (hi : i < L.length) (hj : j < L.length) (hij : i ≠ j) (hk : ¬ key (L.getD i 0) < key (L.getD j 0)) : key (L.getD j 0) < key (L.getD i 0) := by
  have := h i j hi hj hij
  omega
set_option maxRecDepth 100000 in
set_option maxHeartbeats 8000000 in
theorem insertion_any (g c a b N q n0 : Nat) (key : Nat → Nat) (L : List Nat) (ex : List Value) (w : World) (h : IR w g L ex) (hab : a ≤ b) (hbN : b ≤ N) (hN : L.length = N) (hl : N ≤ 1000) (hk : NK key L) (hlt : LtN L n0) (KC : KCmp q key n0 g w) :
    Calls Tryz.prog 97 #[.slice (some ⟨g, 0, none⟩) N c, .int .i64 (a : Int), .int .i64 (b : Int), .func (.func 47) #[] #[.pointer (some ⟨q, 0, none⟩)]] w fun e w' => e = .returned (.tuple #[]) ∧ ∃ M, IR w' g M ex ∧ Chg w w' (fun j => j = g) ∧ Mg L M a b ∧ Srt key M a b := by
  have HI := Lib.hid h
  have HL := Lib.hid hN
  have HK := Lib.hid hk
  have HT := Lib.hid hlt
  have HC := Lib.hid KC
  clear h hN hk hlt KC
  go_enter Tryz.func97, Tryz.ntmps97
  go_wp2
  go_loopw [8, 9] (fun vi _ wr => ∃ i : Nat, vi = .int .i64 (i : Int) ∧ a + 1 ≤ i ∧ (i ≤ b ∨ i = a + 1) ∧ Hid (∃ M, IR wr g M ex ∧ Chg w wr (fun j => j = g) ∧ Mg L M a b ∧ Srt key M a (min i b))) (fun vi _ _ => b + 1 - (intOf vi).toNat)
  case atStart => exact ⟨a + 1, by congr 1, Nat.le_refl _, Or.inr rfl, Lib.hid ⟨L, HI.out, Chg.refl _ _, Mg.refl _ _ _, fun i j p1 p2 p3 => by omega⟩⟩
  case round =>
    obtain ⟨W0, hW0⟩ : ∃ W0, W0 = wr := ⟨_, rfl⟩
    subst hW0
    obtain ⟨i, rfl, hai, hib, HM⟩ := hrel
    obtain ⟨M, hM, hC, hG, hS⟩ := HM.out
    have HM2 := Lib.hid hM
    have HC2 := Lib.hid hC
    have HG := Lib.hid hG
    have HS := Lib.hid hS
    clear HM hM hC hG hS
    by_cases hlt : i < b
    · have HS2 := Lib.hid (show Srt key M a i from by have := HS.out; rwa [Nat.min_eq_left (by omega)] at this)
      have HML := Lib.hid (show M.length = N by rw [HG.out.length]; exact HL.out)
      have HKM := Lib.hid (HK.out.perm HG.out.perm)
      have HTM := Lib.hid (HT.out.perm HG.out.perm)
      go_wp2
      go_loopw [9] (fun vj wr => ∃ j : Nat, vj = .int .i64 (j : Int) ∧ a ≤ j ∧ j ≤ i ∧ Hid (∃ K, IR wr g K ex ∧ Chg w wr (fun j => j = g) ∧ Mg M K a (i + 1) ∧ InsR M K i j ∧ ∀ c, j ≤ c → c < i → key (M.getD i 0) < key (M.getD c 0))) (fun vj _ => (intOf vj).toNat)
      case atStart => exact ⟨i, rfl, by omega, Nat.le_refl _, Lib.hid ⟨M, HM2.out, HC2.out, Mg.refl _ _ _, InsR.start M i, fun c p1 p2 => by omega⟩⟩
      case round =>
        obtain ⟨j, rfl, haj, hji, HM⟩ := hrel
        obtain ⟨K, hM, hC, hG, hR, hL⟩ := HM.out
        have XI := Lib.hid hM
        have XC := Lib.hid hC
        have XG := Lib.hid hG
        have XR := Lib.hid hR
        have XL := Lib.hid hL
        have XLen := Lib.hid (show K.length = N by rw [hG.length]; exact HML.out)
        clear HM hM hC hG hR hL
        by_cases hja : a < j
        · have ej : K.getD j 0 = M.getD i 0 := by rw [XR.out j, if_neg (by omega), if_pos rfl]
          have ej1 : K.getD (j - 1) 0 = M.getD (j - 1) 0 := by rw [XR.out (j - 1), if_neg (by omega), if_neg (by omega)]
          have cx := XI.out.cell (x := j) (by rw [XLen.out]; omega)
          have cy := XI.out.cell (x := j - 1) (by rw [XLen.out]; omega)
          have fx := XI.out.free j
          have fy := XI.out.free (j - 1)
          have HN := Lib.hid (XI.out.sw (i := j) (j := j - 1) (by rw [XLen.out]; omega) (by rw [XLen.out]; omega))
          have HCC := Lib.hid (fun k => ((XC.out.drewN k).setg j (.int .i64 ((K.getD (j - 1) 0 : Nat) : Int))).setg (j - 1) (.int .i64 ((K.getD j 0 : Nat) : Int)))
          have KQ := fun k => ((HC.out.chg XC.out).quiet (HTM.out.at (i := i) (by rw [HML.out]; omega)) (HTM.out.at (i := j - 1) (by rw [HML.out]; omega)) k)
          rw [ej, ej1] at HN HCC
          rw [ej] at cx
          rw [ej1] at cy
          obtain ⟨y, hy⟩ : ∃ y, j - 1 = y := ⟨_, rfl⟩
          simp only [hy] at cy fy HN HCC KQ
          have HY := Lib.hid hy
          have e1 : (j : Int) - 1 = (y : Int) := by omega
          have hyj : y < j := by omega
          obtain ⟨vx, hvx⟩ : ∃ vx, M.getD i 0 = vx := ⟨_, rfl⟩
          obtain ⟨vy, hvy⟩ : ∃ vy, M.getD y 0 = vy := ⟨_, rfl⟩
          simp only [hvx, hvy] at cx cy HN HCC KQ
          have HVX := Lib.hid hvx
          have HVY := Lib.hid hvy
          clear hy hvx hvy ej ej1
          obtain ⟨cc, hcc⟩ : ∃ cc, cmp3 (key vx : Int) (key vy : Int) = cc := ⟨_, rfl⟩
          rw [hcc] at KQ
          have HCMP := Lib.hid (cmpn_lt (key vx) (key vy))
          rw [hcc] at HCMP
          clear hcc
          by_cases hneg : cc < 0
          · have hkl := HCMP.out.1 hneg
            have HKL := Lib.hid hkl
            clear hkl
            go_wp2
            go_quiet ((go_at_call 47; exact KQ _))
            go_wp2
            go_region
            all_goals go_wp2
            go_roundw
            case rel =>
              refine ⟨y, rfl, by omega, by omega, Lib.hid ⟨_, HN.out, (HCC.out _), ?_, ?_, fun c p1 p2 => ?_⟩⟩
              · exact XG.out.trans (Mg.swap ⟨by omega, by omega⟩ ⟨by omega, by omega⟩ (by rw [XLen.out]; omega))
              · have hjy : j = y + 1 := by omega
                subst hjy
                exact XR.out.step (by omega) (by rw [XLen.out]; omega)
              · by_cases e : c = y
                · rw [e, HVX.out, HVY.out]; exact HKL.out
                · exact XL.out c (by omega) p2
            case measure => simp [intOf]; omega
          · have HKL := Lib.hid (fun q => hneg (HCMP.out.2 q))
            go_wp2
            go_quiet ((go_at_call 47; exact KQ _))
            go_wp2
            go_roundw
            case rel =>
              refine ⟨i + 1, rfl, by omega, by omega, Lib.hid ⟨K, XI.out, XC.out.drewN _, HG.out.trans (XG.out.more (Nat.le_refl _) (by omega)), ?_⟩⟩
              rw [Nat.min_eq_left (by omega)]
              refine XR.out.done haj hji HS2.out (fun c p1 p2 => ?_) XL.out
              have hy1 : key (M.getD y 0) < key (M.getD i 0) := HKM.out.lt (by rw [HML.out]; omega) (by rw [HML.out]; omega) (by omega) (by rw [HVX.out, HVY.out]; exact HKL.out)
              by_cases e : c = y
              · rw [e]; exact hy1
              · exact Nat.lt_trans (HS2.out c y p1 (by omega) (by omega)) hy1
            case measure => simp [intOf]; omega
        · obtain rfl : j = a := by omega
          go_wp2
          go_quiet (fail)
          go_wp2
          go_roundw
          case rel =>
            refine ⟨i + 1, rfl, by omega, by omega, Lib.hid ⟨K, XI.out, XC.out.drewN _, HG.out.trans (XG.out.more (Nat.le_refl _) (by omega)), ?_⟩⟩
            rw [Nat.min_eq_left (by omega)]
            exact XR.out.done (Nat.le_refl _) hji HS2.out (fun c p1 p2 => by omega) XL.out
          case measure => simp [intOf]; omega
    · go_wp2
      go_end0
      refine ⟨rfl, M, HM2.out, HC2.out, HG.out, ?_⟩
      have := HS.out
      rwa [Nat.min_eq_right (by omega)] at this
end Go.Proofs.YtdiocjneakfdgaaGreatDoor

/- A sort's exchange of two rows that lie side by side. Condition: neither is empty. -/
namespace Go.Proofs.YtdiocjneakfdgaaGreatDoor
open Go.RowKit
set_option maxRecDepth 100000 in
set_option maxHeartbeats 8000000 in
theorem rotate_any (g c a m b N : Nat) (L : List Nat) (ex : List Value) (fv : Value) (w : World) (h : IR w g L ex) (ham : a < m) (hmb : m < b) (hbl : b ≤ N) (hN : L.length = N) (hl : N ≤ 1000) :
    Calls Tryz.prog 122 #[.slice (some ⟨g, 0, none⟩) N c, .int .i64 (a : Int), .int .i64 (m : Int), .int .i64 (b : Int), fv] w fun e w' => e = .returned (.tuple #[]) ∧ ∃ M, IR w' g M ex ∧ Chg w w' (fun j => j = g) ∧ Mg L M a b ∧ ∀ F, RotI F L m (m - a) (b - m) → ∀ p, M.getD p 0 = F p := by
  have HI := Lib.hid h
  have HL := Lib.hid hN
  clear h hN
  go_enter Tryz.func122, Tryz.ntmps122
  go_wp2
  go_loopw [10, 11] (fun vi vj wr => ∃ i j : Nat, vi = .int .i64 (i : Int) ∧ vj = .int .i64 (j : Int) ∧ 0 < i ∧ 0 < j ∧ a + i ≤ m ∧ m + j ≤ b ∧ Hid (∃ M, IR wr g M ex ∧ Chg w wr (fun j => j = g) ∧ Mg L M a b ∧ ∀ F, RotI F L m (m - a) (b - m) → RotI F M m i j)) (fun vi vj _ => (intOf vi).toNat + (intOf vj).toNat)
  case atStart => exact ⟨m - a, b - m, by congr 1; omega, by congr 1; omega, by omega, by omega, by omega, by omega, Lib.hid ⟨L, HI.out, Chg.refl _ _, Mg.refl _ _ _, fun F h => h⟩⟩
  case round =>
    rename_i wr
    obtain ⟨i, j, rfl, rfl, hi0, hj0, hai, hjb, HM⟩ := hrel
    obtain ⟨M, hM, hC, hG, hR⟩ := HM.out
    have hML : M.length = N := by rw [hG.length]; exact HL.out
    have HM2 := Lib.hid hM
    have HC := Lib.hid hC
    have HG := Lib.hid hG
    have HR := Lib.hid hR
    have HML := Lib.hid hML
    clear HM hM hC hG hR hML
    by_cases hij : i = j
    · subst hij
      have K := Lib.hid (swapRange_any g c (m - i) m i M ex fv wr HM2.out (by omega) (by rw [HML.out]; omega) (by rw [HML.out]; omega))
      rw [HML.out] at K
      obtain ⟨x, hx⟩ : ∃ x, x = m - i := ⟨_, rfl⟩
      have HX := Lib.hid hx
      have e1 : (m : Int) - (i : Int) = (x : Int) := by omega
      rw [← hx] at K
      clear hx
      go_wp2_with (go_at_call 136; ((with_reducible refine K.out.mono ?_); rintro e w2 ⟨rfl, q1, q2⟩))
      go_end0
      refine ⟨rfl, _, q1, HC.out.trans q2, ?_, fun F hF p => ?_⟩
      · rw [HX.out]
        exact HG.out.trans (Mg.swaps i (by omega) (by omega) (by omega) (by rw [HML.out]; omega))
      · rw [HX.out]
        exact (HR.out F hF).done (by omega) (by rw [HML.out]; omega) p
    · have d0 : ((i : Int) != (j : Int)) = true := by simp; omega
      by_cases hlt : j < i
      · have K := Lib.hid (swapRange_any g c (m - i) m j M ex fv wr HM2.out (by omega) (by rw [HML.out]; omega) (by rw [HML.out]; omega))
        rw [HML.out] at K
        obtain ⟨x, hx⟩ : ∃ x, x = m - i := ⟨_, rfl⟩
        have HX := Lib.hid hx
        have e1 : (m : Int) - (i : Int) = (x : Int) := by omega
        rw [← hx] at K
        clear hx
        go_wp2_with (go_at_call 136; ((with_reducible refine K.out.mono ?_); rintro e w2 ⟨rfl, q1, q2⟩; have Q1 := Lib.hid q1; have Q2 := Lib.hid q2; clear q1 q2 K))
        go_roundw
        case rel =>
          refine ⟨i - j, j, by congr 1; omega, rfl, by omega, hj0, by omega, hjb, Lib.hid ⟨_, Q1.out, HC.out.trans Q2.out, ?_, fun F hF => ?_⟩⟩
          · rw [HX.out]
            exact HG.out.trans (Mg.swaps j (by omega) (by omega) (by omega) (by rw [HML.out]; omega))
          · rw [HX.out]
            exact (HR.out F hF).more (by omega) hlt (by rw [HML.out]; omega)
        case measure => simp [intOf]; omega
      · have K := Lib.hid (swapRange_any g c (m - i) (m + j - i) i M ex fv wr HM2.out (by omega) (by rw [HML.out]; omega) (by rw [HML.out]; omega))
        rw [HML.out] at K
        obtain ⟨x, hx⟩ : ∃ x, x = m - i := ⟨_, rfl⟩
        obtain ⟨y, hy⟩ : ∃ y, y = m + j - i := ⟨_, rfl⟩
        have HX := Lib.hid hx
        have HY := Lib.hid hy
        have e1 : (m : Int) - (i : Int) = (x : Int) := by omega
        have e2 : (m : Int) + (j : Int) - (i : Int) = (y : Int) := by omega
        rw [← hx, ← hy] at K
        clear hx hy
        go_wp2_with (go_at_call 136; ((with_reducible refine K.out.mono ?_); rintro e w2 ⟨rfl, q1, q2⟩; have Q1 := Lib.hid q1; have Q2 := Lib.hid q2; clear q1 q2 K))
        go_roundw
        case rel =>
          refine ⟨i, j - i, rfl, by congr 1; omega, hi0, by omega, hai, by omega, Lib.hid ⟨_, Q1.out, HC.out.trans Q2.out, ?_, fun F hF => ?_⟩⟩
          · rw [HX.out, HY.out]
            exact HG.out.trans (Mg.swaps i (by omega) (by omega) (by omega) (by rw [HML.out]; omega))
          · rw [HX.out, HY.out]
            exact (HR.out F hF).less (by omega) (by omega) (by rw [HML.out]; omega)
        case measure => simp [intOf]; omega
end Go.Proofs.YtdiocjneakfdgaaGreatDoor

