/- A table's page tells the table: the plain facts. Condition: each block has one use at most. -/
import Derived.Test.YtdiocjneakfdgaaGreatDoorQBbtE
import Derived.Test.YtdiocjneakfdgaaGreatDoorQFrame
namespace Go.Proofs.YtdiocjneakfdgaaGreatDoor
open Go.RowKit
/-- each block has one use at most -/
structure Lay.good (l : Lay) : Prop where
  ok : l.ok
  nd : l.used.Nodup
  inn : ∀ b ∈ l.used, 2 ≤ b ∧ b < l.n ∧ l.lostAt b = false
  rest : l.at_.drop (l.n - 6) = List.replicate (40 - l.n) 0
  own : l.lostAt 0 = false ∧ l.lostAt 1 = false
  out : ∀ b, l.n ≤ b → l.lostAt b = false
theorem flat_one (L : List Nat) : L.flatMap (numB 1) = L.map UInt8.ofNat := by
  induction L with
  | nil => rfl
  | cons x L ih =>
    rw [List.flatMap_cons, ih]
    rfl
theorem isSpare_of {l : Lay} {b : Nat} (h1 : 2 ≤ b) (h2 : b < l.n) (h3 : l.lostAt b = false) (h4 : b ∉ l.used) : l.isSpare (b : Int) = true := by
  unfold Lay.isSpare
  rw [Int.toNat_natCast, h3, decide_eq_true (show (2 : Int) ≤ (b : Int) by omega), decide_eq_true (show (b : Int) < (l.n : Int) by omega), decide_eq_false h4]
  rfl
theorem spare_iff {l : Lay} {b : Nat} : l.isSpare (b : Int) = true ↔ 2 ≤ b ∧ b < l.n ∧ l.lostAt b = false ∧ b ∉ l.used := by
  constructor
  · intro h
    unfold Lay.isSpare at h
    simp only [Bool.and_eq_true, decide_eq_true_eq, Int.toNat_natCast, Bool.not_eq_true', decide_eq_false_iff_not] at h
    exact ⟨by omega, by omega, h.2.2.1, h.2.2.2⟩
  · exact fun ⟨h1, h2, h3, h4⟩ => isSpare_of h1 h2 h3 h4
theorem byte_nat {b : Nat} (h : b < 256) : (UInt8.ofNat b).toNat = b := by
  rw [UInt8.toNat_ofNat']
  exact Nat.mod_eq_of_lt h
theorem take_set_here (L : List Nat) (j b : Nat) (h : j < L.length) : (L.set j b).take (j + 1) = L.take j ++ [b] := by
  rw [take_snoc (L.set j b) (k := j) (x := b) (by rw [List.getElem?_set_self h]), List.take_set_of_le (Nat.le_refl _)]
theorem takeAt_all : ∀ (L : List Nat) (j : Nat) (l : Lay) (rest : List UInt8), l.ok → j + L.length = l.n - 6 → (∀ b ∈ L, 2 ≤ b ∧ b < l.n ∧ l.lostAt b = false ∧ b ∉ l.at_) → L.Nodup →
    Lay.takeAt L.length j l (L.map UInt8.ofNat ++ rest) = some ({ l with at_ := l.at_.take j ++ L ++ l.at_.drop (j + L.length) }, rest)
  | [], j, l, rest, _, _, _, _ => by
    show some (l, rest) = _
    rw [List.append_nil, List.length_nil, Nat.add_zero, List.take_append_drop]
  | b :: L, j, l, rest, hok, hj, hb, hn => by
    obtain ⟨h1, h2, h3, h4⟩ := hb b (List.mem_cons_self ..)
    have h40 := hok.n2
    have h34 := hok.a
    rw [List.length_cons] at hj
    have hs : l.isSpare (b : Int) = true := isSpare_of h1 h2 h3 (fun h => h4 (List.mem_of_mem_take h))
    show Lay.takeAt (L.length + 1) j l (UInt8.ofNat b :: (L.map UInt8.ofNat ++ rest)) = _
    rw [Lay.takeAt, List.headD_cons, List.tail_cons, byte_nat (by omega), if_pos hs]
    rw [List.nodup_cons] at hn
    rw [takeAt_all L (j + 1) (l.setAt j b) rest (Lay.setAt_ok hok j b) (by show j + 1 + L.length = l.n - 6; omega) (fun c hc => by
      obtain ⟨q1, q2, q3, q4⟩ := hb c (List.mem_cons_of_mem _ hc)
      refine ⟨q1, q2, q3, fun hm => ?_⟩
      rcases List.mem_or_eq_of_mem_set hm with h | h
      · exact q4 h
      · exact hn.1 (h ▸ hc)) hn.2]
    have e1 : (l.setAt j b).at_.take (j + 1) = l.at_.take j ++ [b] := take_set_here l.at_ j b (by omega)
    have e2 : (l.setAt j b).at_.drop (j + 1 + L.length) = l.at_.drop (j + (b :: L).length) := by
      show (l.at_.set j b).drop _ = _
      rw [List.drop_set_of_lt (by omega), List.length_cons, show j + 1 + L.length = j + (L.length + 1) by omega]
    rw [e1, e2]
    show some (({ n := l.n, at_ := _, lost := l.lost } : Lay), rest) = _
    simp
theorem lostAt_set {l : Lay} {b : Nat} (hb : b < l.lost.length) (c : Nat) : (l.setLost b).lostAt c = (decide (c = b) || l.lostAt c) := by
  unfold Lay.lostAt Lay.setLost
  simp only
  rw [List.getD_eq_getElem?_getD, List.getElem?_set, List.getD_eq_getElem?_getD]
  by_cases e : b = c
  · subst e; simp [hb]
  · rw [if_neg e, decide_eq_false (fun h => e h.symm), Bool.false_or]
theorem takeLost_all : ∀ (L : List Nat) (l : Lay), l.ok → (∀ b ∈ L, 2 ≤ b ∧ b < l.n ∧ l.lostAt b = false ∧ b ∉ l.used) → L.Nodup →
    Lay.takeLost l (L.map UInt8.ofNat) = some (L.foldl Lay.setLost l)
  | [], _, _, _, _ => rfl
  | b :: L, l, hok, hb, hn => by
    obtain ⟨h1, h2, h3, h4⟩ := hb b (List.mem_cons_self ..)
    have h40 := hok.n2
    rw [List.nodup_cons] at hn
    rw [List.map_cons, Lay.takeLost, byte_nat (by omega), if_pos (isSpare_of h1 h2 h3 h4), List.foldl_cons]
    exact takeLost_all L _ (Lay.setLost_ok hok b) (fun c hc => by
      obtain ⟨q1, q2, q3, q4⟩ := hb c (List.mem_cons_of_mem _ hc)
      refine ⟨q1, q2, ?_, q4⟩
      rw [lostAt_set (by rw [hok.o]; omega), q3, Bool.or_false, decide_eq_false]
      intro e
      exact hn.1 (e ▸ hc)) hn.2
theorem foldl_lost : ∀ (L : List Nat) (l : Lay), l.lost.length = 40 → (∀ b ∈ L, b < 40) → (L.foldl Lay.setLost l).n = l.n ∧ (L.foldl Lay.setLost l).at_ = l.at_ ∧ (L.foldl Lay.setLost l).lost.length = 40 ∧ ∀ c, (L.foldl Lay.setLost l).lostAt c = (decide (c ∈ L) || l.lostAt c)
  | [], l, h, _ => ⟨rfl, rfl, h, fun c => by simp⟩
  | b :: L, l, h, hb => by
    obtain ⟨e1, e2, e3, e4⟩ := foldl_lost L (l.setLost b) (by simp [Lay.setLost, h]) (fun c hc => hb c (List.mem_cons_of_mem _ hc))
    refine ⟨e1, e2, e3, fun c => ?_⟩
    rw [List.foldl_cons, e4 c, lostAt_set (by rw [h]; exact hb b (List.mem_cons_self ..))]
    by_cases q : c = b <;> by_cases r : c ∈ L <;> simp [q, r]
theorem lost_ext {A B : List Bool} (h1 : A.length = 40) (h2 : B.length = 40) (h : ∀ c, A.getD c false = B.getD c false) : A = B :=
  List.ext_getElem (h1.trans h2.symm) fun i ha hb => by
    have := h i
    rw [List.getD_eq_getElem?_getD, List.getElem?_eq_getElem ha, List.getD_eq_getElem?_getD, List.getElem?_eq_getElem hb] at this
    exact this
theorem lay_ext {a b : Lay} (h1 : a.n = b.n) (h2 : a.at_ = b.at_) (h3 : a.lost = b.lost) : a = b := by
  cases a; cases b; cases h1; cases h2; cases h3; rfl
theorem mem_lostTo {l : Lay} {k c : Nat} : c ∈ l.lostTo k ↔ c < k ∧ l.lostAt c = true := by
  unfold Lay.lostTo
  rw [List.mem_filter, List.mem_range]
theorem parse_bytes {l : Lay} (h : l.good) : Lay.parse l.n l.bytes = some l := by
  have hn2 := h.ok.n2
  have hb : l.bytes = UInt8.ofNat l.n :: (l.used.map UInt8.ofNat ++ (l.lostTo l.n).map UInt8.ofNat) := by
    unfold Lay.bytes
    rw [flat_one]
    simp [Lay.list]
  rw [hb]
  unfold Lay.parse
  rw [List.headD_cons, List.tail_cons, byte_nat (by omega), if_pos rfl]
  have hu := Lay.used_length h.ok
  have h1 := takeAt_all l.used 0 (Lay.of l.n) ((l.lostTo l.n).map UInt8.ofNat) (Lay.of_ok h.ok.n1 h.ok.n2) (by rw [hu, Nat.zero_add]; rfl) (fun b hb => by
    obtain ⟨q1, q2, q3⟩ := h.inn b hb
    refine ⟨q1, q2, ?_, fun hm => ?_⟩
    · show (List.replicate 40 false).getD b false = false
      rw [List.getD_eq_getElem?_getD, List.getElem?_replicate]
      split <;> rfl
    · have := List.eq_of_mem_replicate (n := 34) hm
      omega) h.nd
  rw [hu] at h1
  rw [h1, Option.bind_some]
  have hat : (Lay.of l.n).at_.take 0 ++ l.used ++ (Lay.of l.n).at_.drop (0 + (l.n - 6)) = l.at_ := by
    rw [List.take_zero, List.nil_append, Nat.zero_add]
    show l.used ++ (List.replicate 34 0).drop (l.n - 6) = l.at_
    rw [List.drop_replicate, show 34 - (l.n - 6) = 40 - l.n by have := h.ok.n1; omega, ← h.rest]
    exact List.take_append_drop _ _
  rw [hat]
  have hof : (Lay.of l.n).lost = List.replicate 40 false := rfl
  have hlf : ∀ c, (⟨l.n, l.at_, (Lay.of l.n).lost⟩ : Lay).lostAt c = false := fun c => by
    show (List.replicate 40 false).getD c false = false
    rw [List.getD_eq_getElem?_getD, List.getElem?_replicate]
    split <;> rfl
  have hnd : (l.lostTo l.n).Nodup := List.Nodup.sublist (List.filter_sublist) List.nodup_range
  show Lay.takeLost (⟨l.n, l.at_, (Lay.of l.n).lost⟩ : Lay) _ = some l
  rw [takeLost_all (l.lostTo l.n) ⟨l.n, l.at_, (Lay.of l.n).lost⟩ ⟨h.ok.n1, h.ok.n2, h.ok.a, by rw [hof]; simp⟩ (fun b hb => by
    obtain ⟨q1, q2⟩ := mem_lostTo.1 hb
    refine ⟨?_, q1, hlf b, fun hm => ?_⟩
    · rcases Nat.lt_or_ge b 2 with c | c
      · exfalso
        obtain ⟨o0, o1⟩ := h.own
        rcases (show b = 0 ∨ b = 1 by omega) with rfl | rfl
        · rw [o0] at q2; exact Bool.noConfusion q2
        · rw [o1] at q2; exact Bool.noConfusion q2
      · exact c
    · have := (h.inn b hm).2.2
      rw [this] at q2
      exact Bool.noConfusion q2) hnd]
  obtain ⟨f1, f2, f3, f4⟩ := foldl_lost (l.lostTo l.n) ⟨l.n, l.at_, (Lay.of l.n).lost⟩ (by rw [hof]; simp) (fun b hb => by have := (mem_lostTo.1 hb).1; omega)
  refine congrArg some (lay_ext f1 f2 (lost_ext f3 h.ok.o fun c => ?_))
  have := f4 c
  rw [hlf c, Bool.or_false] at this
  show Lay.lostAt _ c = l.lostAt c
  rw [this]
  by_cases q : c < l.n
  · cases e : l.lostAt c with
    | true => exact decide_eq_true (mem_lostTo.2 ⟨q, e⟩)
    | false => exact decide_eq_false (fun hm => by rw [(mem_lostTo.1 hm).2] at e; exact Bool.noConfusion e)
  · rw [h.out c (by omega)]
    exact decide_eq_false (fun hm => q (mem_lostTo.1 hm).1)
theorem tableOf_of {n k m : Nat} {L : List UInt8} {l : Lay} (hl : l.good) (hn : l.n = n) (hk : k < 18446744073709551616) (h : FM.readM L = (1, numB 8 k ++ l.bytes, m, 0)) : tableOf n L = some (k, l) := by
  subst hn
  have e := le_numB 8 k
  unfold tableOf
  rw [h, if_pos ⟨rfl, rfl⟩]
  simp only
  rw [List.drop_left' (numB_length 8 k), List.take_left' (numB_length 8 k), parse_bytes hl, e, Nat.mod_eq_of_lt (by exact hk)]
  rfl
theorem tableOf_tpage {n k : Nat} {l : Lay} (hl : l.good) (hn : l.n = n) (hk : k < 18446744073709551616) : tableOf n (tpage k l) = some (k, l) :=
  tableOf_of hl hn hk (FM.turn_none (by have := tbody_length (n := k) hl.ok; omega) (by decide) (by decide))
theorem tableOf_torn {n : Nat} {Q : List UInt8} (h : Q.getD 257 0 = 255 ∨ ∃ k : Fin 8, Q.getD 257 0 = 255 ^^^ UInt8.ofNat (2 ^ k.val)) : tableOf n Q = none := by
  unfold tableOf
  rcases FM.torn_read h with e | ⟨e, _⟩
  · rw [e]; rfl
  · rw [e]; rfl
theorem tableOf_ff {n : Nat} : tableOf n NM.ff = none := tableOf_torn (.inl (by decide))
end Go.Proofs.YtdiocjneakfdgaaGreatDoor

