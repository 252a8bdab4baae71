/- Layer 22: the contracts of Open and Uses. No condition. -/
import Derived.Test.YthiembokmhbiaaaQHand
namespace Go.Proofs.Ythiembokmhbiaaa
open Go.RowKit
/-- the first slot that isn't open -/
def fstS (S : List (Bool × Int)) : Nat := S.findIdx fun s => !s.1
theorem fst_le (S : List (Bool × Int)) : fstS S ≤ S.length := List.findIdx_le_length
theorem fst_open {S : List (Bool × Int)} {j : Nat} {s : Bool × Int} (hj : j ≤ fstS S) (hs : S[j]? = some s) (h : s.1 = true) : j + 1 ≤ fstS S := by
  rcases Nat.lt_or_ge j (fstS S) with h' | h'
  · exact h'
  · exfalso
    have e : fstS S = j := Nat.le_antisymm h' hj
    obtain ⟨hl, he⟩ := List.getElem?_eq_some_iff.1 hs
    have hlt : fstS S < S.length := by omega
    have hp := List.findIdx_getElem (p := fun s : Bool × Int => !s.1) (xs := S) (w := hlt)
    have e2 : S[List.findIdx (fun s => !s.1) S]'hlt = s := by
      rw [← he]
      exact getElem_congr rfl e hlt
    rw [e2, h] at hp
    cases hp
theorem fst_shut {S : List (Bool × Int)} {j : Nat} {s : Bool × Int} (hj : j ≤ fstS S) (hs : S[j]? = some s) (h : s.1 = false) : fstS S = j := by
  rcases Nat.lt_or_ge j (fstS S) with h' | h'
  · exfalso
    obtain ⟨hl, he⟩ := List.getElem?_eq_some_iff.1 hs
    have := List.not_of_lt_findIdx (p := fun s : Bool × Int => !s.1) (xs := S) h'
    rw [show S[j] = s from he, h] at this
    cases this
  · exact Nat.le_antisymm h' hj
theorem index_slot {S : List (Bool × Int)} (h6 : S.length = 6) {k : Nat} (hk : k < 6) {b : Bool} {n : Int} (hs : S[k]? = some (b, n)) (w : World) :
    (Instr.index 49 (.agg (hcells S).toArray) (.int .i64 (k : Int))).run Try.prog w = .ok (.agg #[.bool b, .int .i64 n]) w := by
  have h3 : ((0 : Int) ≤ (k : Int) ∧ (k : Int) < ((6 : Nat) : Int)) := by omega
  simp only [Instr.index, asIntOf, Sem.run_bind, Sem.run_pure, Result.andThen_ok, run_underlying Try.underlying49]
  rw [if_pos h3]
  have e1 : (hcells S).toArray.extract (k * 2) (k * 2 + 2) = #[Value.bool b, .int .i64 n] := by
    apply Array.toList_inj.1
    rw [Array.toList_extract]
    simp only [List.extract]
    rw [show k * 2 + 2 - k * 2 = 2 by omega]
    exact hcells_at h6 hs
  simp only [part, Sem.run_bind, aggSl, sizeSl, Result.andThen_ok, Int.toNat_natCast, if_true, Sem.run_pure, e1]
theorem grown_of_below {w w' : World} {row : Option Nat} (h : Below w.heap.size w w') : w.grownBy w' row := ⟨h.os, h.tape, h.output, h.size, fun k hk _ => h.block k hk⟩
/-- what Open answers -/
def openA (k : Nat) : Array Value := if k < 6 then #[.int .i64 (k + 1), .int .i64 0] else #[.int .i64 0, .int .i64 67]
set_option maxHeartbeats 4000000 in
theorem open_any (g : Nat) (S : List (Bool × Int)) (n : Int) (w : World) (H : HT w g S) :
    Calls Try.prog 10 #[.pointer (some ⟨g, 0, none⟩), .int .i64 n] w fun e w' => e = .returned (.tuple (openA (fstS S))) ∧ HT w' g (S.set (fstS S) (true, n)) ∧ w.grownBy w' (some g) := by
  have h6 := H.six
  have HB := H.blk
  have HH := Lib.hid H
  have hlen : (hcells S).length = 12 := by rw [hcells_length, h6]
  have hv : ((hcells S).drop 0).take 12 = hcells S := by rw [List.drop_zero, List.take_of_length_le (by omega)]
  clear H
  go_enter Try.func10, Try.ntmps10
  go_wp2_with (with_reducible refine wpl_seg_load aggTb sizeTb (.tmp 10) rfl rfl HB 0 (hcells S) hv hlen rfl ?_)
  clear HB hv
  have H6 := Lib.hid h6
  have HL := Lib.hid hlen
  clear h6 hlen
  go_loopw [12] (fun i wr => ∃ j : Nat, j ≤ fstS S ∧ j ≤ 6 ∧ i = .int .i64 j ∧ Hid (Below w.heap.size w wr)) (fun i _ => 6 - (intOf i).toNat)
  case atStart => exact ⟨0, by omega, by omega, rfl, Lib.hid (Below.refl _ _)⟩
  case round =>
    obtain ⟨j, hj, hj6, rfl, hb⟩ := hrel
    by_cases hlt : j < 6
    · obtain ⟨⟨b, m⟩, hs⟩ : ∃ s, S[j]? = some s := ⟨_, List.getElem?_eq_getElem (by have := H6.out; omega)⟩
      have hix := fun w => index_slot H6.out hlt hs w
      have hzero := HH.out.zero _ (List.mem_of_getElem? hs)
      cases b with
      | true =>
        have hnext := Lib.hid (fst_open hj hs rfl)
        clear hs hzero
        go_wp2_with fail
        exact ⟨⟨j + 1, hnext.out, by omega, by go_num, Lib.hid (hb.out.alloc hb.out.size _)⟩, by simp [intOf]; omega⟩
      | false =>
        obtain rfl : m = 0 := hzero rfl
        have hfst := Lib.hid (fst_shut hj hs rfl)
        have HS := Lib.hid (show segSet (hcells S) (j * 2) [.bool true, .int .i64 n] = hcells (S.set j (true, n)) from hcells_set H6.out hlt (true, n))
        have H1 := Lib.hid (show ∀ v ∈ [Value.bool true, .int .i64 n], v.oneCell' = true from slotV_one (true, n))
        have hl : j * 2 + 2 ≤ (hcells S).length := by have := HL.out; omega
        have HX := Lib.hid (fun o => (HH.out.after hb.out).blk.alloc o)
        clear hs hzero
        go_wp2_with ((with_reducible refine wpl_seg_store sizeSl (.tmp 25) (.tmp 22) rfl rfl (HX.out _) (j * 2) [.bool true, .int .i64 n] rfl hl H1.out rfl rfl _ HS.out ?_); intro w2 B2 g2 e2)
        go_ret2
        have hf := hfst.out
        have g3 : w.grownBy w2 (some g) := ((grown_of_below hb.out).trans (grown_of_below ((Below.refl wr.heap.size wr).alloc (Nat.le_refl _) _))).trans g2
        rw [hf]
        exact ⟨by unfold openA; rw [if_pos hlt]; rfl, HH.out.set (true, n) (fun h => by cases h) B2, g3⟩
    · obtain rfl : j = 6 := by omega
      go_wp2_with fail
      go_ret2
      have hf : fstS S = 6 := by have := fst_le S; have := H6.out; omega
      rw [hf, List.set_eq_of_length_le (by have := H6.out; omega)]
      exact ⟨rfl, HH.out.after hb.out, grown_of_below hb.out⟩
/-- has an inode a handle? -/
def usesS (S : List (Bool × Int)) (n : Int) : Bool := S.any fun s => s.1 && s.2 == n
theorem uses_of {S : List (Bool × Int)} {n : Int} {j : Nat} (hs : S[j]? = some (true, n)) : usesS S n = true := by
  unfold usesS
  rw [List.any_eq_true]
  exact ⟨_, List.mem_of_getElem? hs, by simp⟩
theorem uses_not {S : List (Bool × Int)} {n : Int} (h : ∀ i s, i < 6 → S[i]? = some s → ¬ (s.1 = true ∧ s.2 = n)) (h6 : S.length = 6) : usesS S n = false := by
  unfold usesS
  rw [List.any_eq_false]
  intro s hs
  obtain ⟨i, hi⟩ := List.getElem?_of_mem hs
  have := h i s (by have := (List.getElem?_eq_some_iff.1 hi).1; omega) hi
  simpa using this
set_option maxHeartbeats 4000000 in
theorem uses_any (g : Nat) (S : List (Bool × Int)) (n : Int) (w : World) (H : HT w g S) :
    Calls Try.prog 14 #[.pointer (some ⟨g, 0, none⟩), .int .i64 n] w fun e w' => e = .returned (.bool (usesS S n)) ∧ Below w.heap.size w w' := by
  have h6 := H.six
  have HB := H.blk
  have HH := Lib.hid H
  have hlen : (hcells S).length = 12 := by rw [hcells_length, h6]
  have hv : ((hcells S).drop 0).take 12 = hcells S := by rw [List.drop_zero, List.take_of_length_le (by omega)]
  clear H
  go_enter Try.func14, Try.ntmps14
  go_wp2_with (with_reducible refine wpl_seg_load aggTb sizeTb (.tmp 9) rfl rfl HB 0 (hcells S) hv hlen rfl ?_)
  clear HB hv
  have H6 := Lib.hid h6
  clear h6 hlen
  go_loopw [11] (fun i wr => ∃ j : Nat, j ≤ 6 ∧ i = .int .i64 j ∧ Hid (Below w.heap.size w wr) ∧ Hid (∀ i s, i < j → S[i]? = some s → ¬ (s.1 = true ∧ s.2 = n))) (fun i _ => 6 - (intOf i).toNat)
  case atStart => exact ⟨0, by omega, rfl, Lib.hid (Below.refl _ _), Lib.hid (fun i s hi => by omega)⟩
  case round =>
    obtain ⟨j, hj6, rfl, hb, hn⟩ := hrel
    by_cases hlt : j < 6
    · obtain ⟨⟨b, m⟩, hs⟩ : ∃ s, S[j]? = some s := ⟨_, List.getElem?_eq_getElem (by have := H6.out; omega)⟩
      have hix := fun w => index_slot H6.out hlt hs w
      have HSJ := Lib.hid hs
      clear hs
      have HNX : Hid (¬ (b = true ∧ m = n) → ∀ i s, i < j + 1 → S[i]? = some s → ¬ (s.1 = true ∧ s.2 = n)) := Lib.hid (fun hne i s hi hs => by
        rcases Nat.lt_or_ge i j with h | h
        · exact hn.out i s h hs
        · obtain rfl : i = j := by omega
          rw [HSJ.out] at hs
          cases hs
          exact hne)
      cases b with
      | true =>
        by_cases hmn : m = n
        · subst hmn
          have hu := Lib.hid (uses_of HSJ.out)
          go_wp2_with fail
          go_ret
          exact ⟨by rw [hu.out]; rfl, hb.out.alloc hb.out.size _⟩
        · go_wp2_with fail
          exact ⟨⟨j + 1, by omega, by go_num, Lib.hid (hb.out.alloc hb.out.size _), Lib.hid (HNX.out (fun h => hmn h.2))⟩, by simp [intOf]; omega⟩
      | false =>
        go_wp2_with fail
        exact ⟨⟨j + 1, by omega, by go_num, Lib.hid (hb.out.alloc hb.out.size _), Lib.hid (HNX.out (fun h => by cases h.1))⟩, by simp [intOf]; omega⟩
    · obtain rfl : j = 6 := by omega
      go_wp2_with fail
      go_ret
      exact ⟨by rw [uses_not hn.out H6.out]; rfl, hb.out⟩
end Go.Proofs.Ythiembokmhbiaaa

