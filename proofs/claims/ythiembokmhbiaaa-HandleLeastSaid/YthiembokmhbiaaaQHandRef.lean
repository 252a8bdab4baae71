/- Layer 22: the contracts of the document's handles, over the same six slots. No condition. -/
import Derived.Test.YthiembokmhbiaaaQHandOpen
namespace Go.Proofs.Ythiembokmhbiaaa
open Go.RowKit
def rcells (U : List Bool) (N : List Int) : List Value := U.map Value.bool ++ N.map (Value.int .i64)
theorem rcells_bool {U : List Bool} {N : List Int} {j : Nat} {b : Bool} (h : U[j]? = some b) : (rcells U N)[j]? = some (.bool b) := by
  unfold rcells
  rw [List.getElem?_append_left (by rw [List.length_map]; exact (List.getElem?_eq_some_iff.1 h).1), List.getElem?_map, h]
  rfl
theorem rcells_int {U : List Bool} {N : List Int} {j : Nat} {n : Int} (hU : U.length = 7) (h : N[j]? = some n) : (rcells U N)[7 + j]? = some (.int .i64 n) := by
  unfold rcells
  rw [List.getElem?_append_right (by rw [List.length_map]; omega), List.length_map, hU, show 7 + j - 7 = j by omega, List.getElem?_map, h]
  rfl
theorem rcells_setb (U : List Bool) (N : List Int) {j : Nat} (b : Bool) (h : j < U.length) : (rcells U N).set j (.bool b) = rcells (U.set j b) N := by
  unfold rcells
  rw [List.set_append_left _ _ (by rw [List.length_map]; exact h), List.map_set]
theorem rcells_seti (U : List Bool) (N : List Int) (hU : U.length = 7) (j : Nat) (n : Int) : (rcells U N).set (7 + j) (.int .i64 n) = rcells U (N.set j n) := by
  unfold rcells
  rw [List.set_append_right _ _ (by rw [List.length_map]; omega), List.length_map, hU, show 7 + j - 7 = j by omega, List.map_set]
theorem rcells_length (U : List Bool) (N : List Int) : (rcells U N).length = U.length + N.length := by simp [rcells]
theorem boolOne (w : World) : (sizeOf 4).run Try.prog w = .ok 1 w := by kernel_rfl
theorem intOne (w : World) : (sizeOf 3).run Try.prog w = .ok 1 w := by kernel_rfl
/-- what the document's table is, as the slots tell -/
structure Like (U : List Bool) (N : List Int) (S : List (Bool × Int)) : Prop where
  u : U.length = 7
  n : N.length = 7
  six : S.length = 6
  b : ∀ k s, S[k]? = some s → U[k + 1]? = some s.1
  i : ∀ k s, S[k]? = some s → s.1 = true → N[k + 1]? = some s.2
/-- in block g lies the document's table of the slots S -/
def RT (w : World) (g : Nat) (S : List (Bool × Int)) : Prop := ∃ U N, Blk w g 30 (rcells U N) ∧ Like U N S
theorem RT.lt {w : World} {g : Nat} {S : List (Bool × Int)} (h : RT w g S) : g < w.heap.size := by
  obtain ⟨_, _, h, _⟩ := h
  exact h.lt
theorem RT.below {w w' : World} {g B : Nat} {S : List (Bool × Int)} (h : RT w g S) (hb : Below B w w') (hg : g < B) : RT w' g S := by
  obtain ⟨_, _, h, h2⟩ := h
  exact ⟨_, _, h.below hb hg, h2⟩
theorem RT.after {w w' : World} {g : Nat} {S : List (Bool × Int)} (h : RT w g S) (hb : Below w.heap.size w w') : RT w' g S := h.below hb h.lt
theorem RT.grown {w w' : World} {g : Nat} {S : List (Bool × Int)} {row : Option Nat} (h : RT w g S) (hg : w.grownBy w' row) (hk : some g ≠ row) : RT w' g S := by
  obtain ⟨_, _, h, h2⟩ := h
  exact ⟨_, _, h.grown hg hk, h2⟩
theorem Like.shut {U : List Bool} {N : List Int} {S : List (Bool × Int)} (h : Like U N S) (k : Nat) : Like (U.set (k + 1) false) N (S.set k (false, 0)) := by
  refine ⟨by rw [List.length_set]; exact h.u, h.n, by rw [List.length_set]; exact h.six, fun i s hs => ?_, fun i s hs ht => ?_⟩
  · rw [List.getElem?_set] at hs ⊢
    by_cases e : k = i
    · subst e
      rw [if_pos rfl] at hs
      split at hs
      · cases hs
        rw [if_pos rfl, if_pos (by have := h.u; have := h.six; omega)]
      · cases hs
    · rw [if_neg e] at hs
      rw [if_neg (by omega)]
      exact h.b i s hs
  · rw [List.getElem?_set] at hs
    by_cases e : k = i
    · subst e
      rw [if_pos rfl] at hs
      split at hs
      · cases hs
        cases ht
      · cases hs
    · rw [if_neg e] at hs
      exact h.i i s hs ht
theorem Like.lay {U : List Bool} {N : List Int} {S : List (Bool × Int)} (h : Like U N S) (k : Nat) (n : Int) : Like (U.set (k + 1) true) (N.set (k + 1) n) (S.set k (true, n)) := by
  refine ⟨by rw [List.length_set]; exact h.u, by rw [List.length_set]; exact h.n, by rw [List.length_set]; exact h.six, fun i s hs => ?_, fun i s hs ht => ?_⟩
  · rw [List.getElem?_set] at hs ⊢
    by_cases e : k = i
    · subst e
      rw [if_pos rfl] at hs
      split at hs
      · cases hs
        rw [if_pos rfl, if_pos (by have := h.u; have := h.six; omega)]
      · cases hs
    · rw [if_neg e] at hs
      rw [if_neg (by omega)]
      exact h.b i s hs
  · rw [List.getElem?_set] at hs ⊢
    by_cases e : k = i
    · subst e
      rw [if_pos rfl] at hs
      split at hs
      · cases hs
        rw [if_pos rfl, if_pos (by have := h.n; have := h.six; omega)]
      · cases hs
    · rw [if_neg e] at hs
      rw [if_neg (by omega)]
      exact h.i i s hs ht
theorem Like.start : Like (List.replicate 7 false) (List.replicate 7 0) (List.replicate 6 (false, 0)) := by
  have key : ∀ k s, (List.replicate 6 ((false, 0) : Bool × Int))[k]? = some s → k < 6 ∧ s = (false, 0) := by
    intro k s hs
    rw [List.getElem?_replicate] at hs
    split at hs
    · cases hs
      exact ⟨by assumption, rfl⟩
    · cases hs
  refine ⟨rfl, rfl, rfl, fun k s hs => ?_, fun k s hs ht => ?_⟩
  · obtain ⟨hk, rfl⟩ := key k s hs
    rw [List.getElem?_replicate, if_pos (by omega)]
  · obtain ⟨hk, rfl⟩ := key k s hs
    cases ht
set_option maxHeartbeats 4000000 in
theorem rget_any (g : Nat) (S : List (Bool × Int)) (h : Int) (w : World) (H : RT w g S) :
    Calls Try.prog 13 #[.pointer (some ⟨g, 0, none⟩), .int .i64 h] w fun e w' => e = .returned (.tuple (if (slotOf S h).1 then #[.int .i64 (slotOf S h).2, .int .i64 0] else #[.int .i64 0, .int .i64 66])) ∧ w = w' := by
  obtain ⟨U, N, HB, HL⟩ := H
  by_cases h1 : h < 1
  · rw [slotOf_out (.inl h1)]
    go_enter Try.func13, Try.ntmps13
    go_wp2_with fail
    go_ret2
    exact ⟨rfl, rfl⟩
  by_cases h2 : 6 < h
  · rw [slotOf_out (.inr h2)]
    go_enter Try.func13, Try.ntmps13
    go_wp2_with fail
    go_ret2
    exact ⟨rfl, rfl⟩
  obtain ⟨k, rfl, hk⟩ : ∃ k : Nat, h = ((k + 1 : Nat) : Int) ∧ k < 6 := ⟨(h - 1).toNat, by omega, by omega⟩
  obtain ⟨⟨b, n⟩, hs⟩ : ∃ s, S[k]? = some s := ⟨_, List.getElem?_eq_getElem (by have := HL.six; omega)⟩
  rw [show ((k + 1 : Nat) : Int) = (k : Int) + 1 by omega, slotOf_in hk, List.getD_eq_getElem?_getD, hs, Option.getD_some, show (k : Int) + 1 = ((k + 1 : Nat) : Int) by omega]
  have c0 := (HB.cell _).trans (rcells_bool (HL.b k _ hs))
  have c1 := fun ht : b = true => (HB.cell _).trans (rcells_int HL.u (HL.i k _ hs ht))
  have HJ : Hid (k < 6) := Lib.hid hk
  obtain ⟨j, hj⟩ : ∃ j, j = k + 1 := ⟨_, rfl⟩
  rw [← hj] at c0 c1 ⊢
  have d1 : ¬ (j : Int) < 1 := by omega
  have d2 : ¬ 6 < (j : Int) := by omega
  have d3 : (j : Int) < 7 := by omega
  clear HB HL h1 h2 hs hj hk
  cases b with
  | false =>
    clear c1
    go_enter Try.func13, Try.ntmps13
    go_wp2_with fail
    go_ret2
    exact ⟨rfl, rfl⟩
  | true =>
    replace c1 := c1 rfl
    go_enter Try.func13, Try.ntmps13
    go_wp2_with fail
    go_ret2
    exact ⟨rfl, rfl⟩
set_option maxHeartbeats 4000000 in
theorem rclose_any (g : Nat) (S : List (Bool × Int)) (h : Int) (w : World) (H : RT w g S) :
    Calls Try.prog 9 #[.pointer (some ⟨g, 0, none⟩), .int .i64 h] w fun e w' => e = .returned (.int .i64 (if (slotOf S h).1 then 0 else 66)) ∧ RT w' g (if (slotOf S h).1 then S.set (h - 1).toNat (false, 0) else S) ∧ w.grownBy w' (some g) := by
  have HH := Lib.hid H
  obtain ⟨U, N, HB, HL⟩ := H
  by_cases h1 : h < 1
  · rw [slotOf_out (.inl h1)]
    clear HB HL
    go_enter Try.func9, Try.ntmps9
    go_wp2_with fail
    go_ret
    exact ⟨rfl, HH.out, World.grownBy.refl _ _⟩
  by_cases h2 : 6 < h
  · rw [slotOf_out (.inr h2)]
    clear HB HL
    go_enter Try.func9, Try.ntmps9
    go_wp2_with fail
    go_ret
    exact ⟨rfl, HH.out, World.grownBy.refl _ _⟩
  obtain ⟨k, rfl, hk⟩ : ∃ k : Nat, h = ((k + 1 : Nat) : Int) ∧ k < 6 := ⟨(h - 1).toNat, by omega, by omega⟩
  obtain ⟨⟨b, n⟩, hs⟩ : ∃ s, S[k]? = some s := ⟨_, List.getElem?_eq_getElem (by have := HL.six; omega)⟩
  rw [show ((((k + 1 : Nat) : Int)) - 1).toNat = k by omega, show ((k + 1 : Nat) : Int) = (k : Int) + 1 by omega, slotOf_in hk, List.getD_eq_getElem?_getD, hs, Option.getD_some, show (k : Int) + 1 = ((k + 1 : Nat) : Int) by omega]
  have c0 := (HB.cell _).trans (rcells_bool (HL.b k _ hs))
  have HLL := Lib.hid (HL.shut k)
  have hse := Lib.hid (rcells_setb U N (j := k + 1) false (by have := HL.u; omega))
  have hll : k + 1 < (rcells U N).length := by rw [rcells_length]; have := HL.u; omega
  obtain ⟨j, hj⟩ : ∃ j, j = k + 1 := ⟨_, rfl⟩
  rw [← hj] at c0 hse hll HLL ⊢
  have d1 : ¬ (j : Int) < 1 := by omega
  have d2 : ¬ 6 < (j : Int) := by omega
  have d3 : (j : Int) < 7 := by omega
  clear HL h1 h2 hs hj hk
  cases b with
  | false =>
    clear HB hse hll
    go_enter Try.func9, Try.ntmps9
    go_wp2_with fail
    go_ret
    exact ⟨rfl, HH.out, World.grownBy.refl _ _⟩
  | true =>
    go_enter Try.func9, Try.ntmps9
    go_wp2_with ((with_reducible refine wpl_blk_bool false boolOne (.tmp 24) (.const (.bool false)) rfl rfl HB j hll rfl rfl _ hse.out ?_); intro w2 B2 g2 e2)
    go_ret
    exact ⟨rfl, ⟨_, _, B2, HLL.out⟩, g2⟩
set_option maxHeartbeats 4000000 in
theorem ropen_any (g : Nat) (S : List (Bool × Int)) (n : Int) (w : World) (H : RT w g S) :
    Calls Try.prog 11 #[.pointer (some ⟨g, 0, none⟩), .int .i64 n] w fun e w' => e = .returned (.tuple (openA (fstS S))) ∧ RT w' g (S.set (fstS S) (true, n)) ∧ w.grownBy w' (some g) := by
  obtain ⟨U, N, HB, HL⟩ := H
  have HBB := Lib.hid HB
  have HLL := Lib.hid HL
  clear HB HL
  go_enter Try.func11, Try.ntmps11
  go_wp2_with fail
  go_loopw [6] (fun i wr => ∃ j : Nat, 1 ≤ j ∧ j ≤ fstS S + 1 ∧ j ≤ 7 ∧ i = .int .i64 j ∧ Hid (wr = w)) (fun i _ => 7 - (intOf i).toNat)
  case atStart => exact ⟨1, by omega, by omega, by omega, rfl, Lib.hid rfl⟩
  case round =>
    obtain ⟨j, hj1, hj, hj7, rfl, hw⟩ := hrel
    by_cases hlt : j < 7
    · obtain ⟨k, hk⟩ : ∃ k, k + 1 = j := ⟨j - 1, by omega⟩
      obtain ⟨⟨b, m⟩, hs⟩ : ∃ s, S[k]? = some s := ⟨_, List.getElem?_eq_getElem (by have := HLL.out.six; omega)⟩
      have c0 := (HBB.out.cell _).trans (rcells_bool (HLL.out.b k _ hs))
      rw [hk, ← hw.out] at c0
      cases b with
      | true =>
        have hnext := Lib.hid (fst_open (by omega : k ≤ fstS S) hs rfl)
        have HK := Lib.hid hk
        clear hs hk
        go_wp2_with fail
        exact ⟨⟨j + 1, by omega, by have := hnext.out; have := HK.out; omega, by omega, by go_num, hw⟩, by simp [intOf]; omega⟩
      | false =>
        have hfst := Lib.hid (fst_shut (by omega : k ≤ fstS S) hs rfl)
        have HSB := Lib.hid (rcells_setb U N (j := j) true (by have := HLL.out.u; omega))
        have HSI := Lib.hid (rcells_seti (U.set j true) N (by rw [List.length_set]; exact HLL.out.u) j n)
        have HL2 : Hid (Like (U.set j true) (N.set j n) (S.set k (true, n))) := Lib.hid (by have := HLL.out.lay k n; rw [hk] at this; exact this)
        have hl1 : j < (rcells U N).length := by rw [rcells_length]; have := HLL.out.u; omega
        have hl2 : 7 + j < (rcells (U.set j true) N).length := by rw [rcells_length, List.length_set]; have := HLL.out.u; have := HLL.out.n; omega
        have HK := Lib.hid hk
        have HX : Hid (Blk wr g 30 (rcells U N)) := Lib.hid (by rw [hw.out]; exact HBB.out)
        clear hs hk
        go_wp2_with (first | ((with_reducible refine wpl_blk_bool true boolOne (.tmp 22) (.const (.bool true)) rfl rfl HX.out j hl1 rfl rfl _ HSB.out ?_); intro w2 B2 g2 e2) | ((with_reducible refine wpl_blk_int .i64 n intOne (.tmp 28) (.tmp 25) rfl rfl B2 (7 + j) hl2 rfl rfl _ HSI.out ?_); intro w3 B3 g3 e3))
        go_ret2
        have hf := hfst.out
        have hkk := HK.out
        subst hkk
        obtain rfl := hw.out
        rw [hf]
        exact ⟨by unfold openA; rw [if_pos (by omega)]; simp, ⟨_, _, B3, HL2.out⟩, g2.trans g3⟩
    · obtain rfl : j = 7 := by omega
      go_wp2_with fail
      go_ret2
      have hf : fstS S = 6 := by have := fst_le S; have := HLL.out.six; omega
      obtain rfl := hw.out
      rw [hf, List.set_eq_of_length_le (by have := HLL.out.six; omega)]
      exact ⟨rfl, ⟨_, _, HBB.out, HLL.out⟩, World.grownBy.refl _ _⟩
set_option maxHeartbeats 4000000 in
theorem ruses_any (g : Nat) (S : List (Bool × Int)) (n : Int) (w : World) (H : RT w g S) :
    Calls Try.prog 15 #[.pointer (some ⟨g, 0, none⟩), .int .i64 n] w fun e w' => e = .returned (.bool (usesS S n)) ∧ w = w' := by
  obtain ⟨U, N, HB, HL⟩ := H
  have HBB := Lib.hid HB
  have HLL := Lib.hid HL
  clear HB HL
  go_enter Try.func15, Try.ntmps15
  go_wp2_with fail
  go_loopw [5] (fun i wr => ∃ j : Nat, 1 ≤ j ∧ j ≤ 7 ∧ i = .int .i64 j ∧ Hid (w = wr) ∧ Hid (∀ i s, i + 1 < j → S[i]? = some s → ¬ (s.1 = true ∧ s.2 = n))) (fun i _ => 7 - (intOf i).toNat)
  case atStart => exact ⟨1, by omega, by omega, rfl, Lib.hid rfl, Lib.hid (fun i s hi => by omega)⟩
  case round =>
    obtain ⟨j, hj1, hj7, rfl, hw, hn⟩ := hrel
    by_cases hlt : j < 7
    · obtain ⟨k, hk⟩ : ∃ k, k + 1 = j := ⟨j - 1, by omega⟩
      obtain ⟨⟨b, m⟩, hs⟩ : ∃ s, S[k]? = some s := ⟨_, List.getElem?_eq_getElem (by have := HLL.out.six; omega)⟩
      have c0 := (HBB.out.cell _).trans (rcells_bool (HLL.out.b k _ hs))
      have c1 := fun ht : b = true => (HBB.out.cell _).trans (rcells_int HLL.out.u (HLL.out.i k _ hs ht))
      rw [hk, hw.out] at c0 c1
      have HSJ := Lib.hid hs
      have HNX : Hid (¬ (b = true ∧ m = n) → ∀ i s, i + 1 < j + 1 → S[i]? = some s → ¬ (s.1 = true ∧ s.2 = n)) := Lib.hid (fun hne i s hi hs2 => by
        rcases Nat.lt_or_ge (i + 1) j with h | h
        · exact hn.out i s h hs2
        · have e : i = k := by omega
          rw [e, HSJ.out] at hs2
          cases hs2
          exact hne)
      clear hs hk
      cases b with
      | true =>
        replace c1 := c1 rfl
        by_cases hmn : m = n
        · subst hmn
          have hu := Lib.hid (uses_of HSJ.out)
          go_wp2_with fail
          go_ret
          exact ⟨by rw [hu.out]; rfl, hw.out⟩
        · go_wp2_with fail
          exact ⟨⟨j + 1, by omega, by omega, by go_num, hw, Lib.hid (HNX.out (fun h => hmn h.2))⟩, by simp [intOf]; omega⟩
      | false =>
        clear c1
        go_wp2_with fail
        exact ⟨⟨j + 1, by omega, by omega, by go_num, hw, Lib.hid (HNX.out (fun h => by cases h.1))⟩, by simp [intOf]; omega⟩
    · obtain rfl : j = 7 := by omega
      go_wp2_with fail
      go_ret
      exact ⟨by rw [uses_not (fun i s hi => hn.out i s (by omega)) HLL.out.six]; rfl, hw.out⟩
end Go.Proofs.Ythiembokmhbiaaa

