/- A log that is made anew over a used disk: plain facts, and its calls. Condition: the used log was in order; few calls so far. -/
import Derived.Test.YtjagonoicaelmaaGreatDoorQLogG
import Derived.Test.YtjagonoicaelmaaGreatDoorQLogF
namespace Go.Proofs.YtjagonoicaelmaaGreatDoor
open Go.RowKit
def emp (M : Nat) : List LB := List.replicate M (LB.fresh 2)
def emp1 (M : Nat) : List LB := (emp M).set 0 ⟨2, false, true, 1, 3, [(40, [])]⟩
theorem emp_get {M y : Nat} (h : y < M) : (emp M)[y]? = some (LB.fresh 2) := by unfold emp; rw [List.getElem?_replicate, if_pos h]
theorem emp_seg (M y : Nat) : segAt (emp M) y = false := by
  unfold segAt emp
  rw [List.getElem?_replicate]
  split <;> rfl
theorem emp_wear {M y : Nat} (h : y < M) : wearAt (emp M) y = 2 := by rw [wearAt_get (emp_get h)]; rfl
theorem emp_free (M : Nat) : ∀ k, freeTo (emp M) k = k
  | 0 => rfl
  | k + 1 => by
    unfold freeTo
    rw [emp_free M k, emp_seg, if_neg (by decide)]
theorem emp_least {M : Nat} : ∀ k, k ≤ M → leastTo (emp M) k = if k = 0 then none else some 0
  | 0, _ => rfl
  | k + 1, h => by
    rw [leastTo_succ, emp_seg, if_neg (by decide), emp_least k (by omega), if_neg (show ¬ (k + 1 = 0) by omega)]
    by_cases e : k = 0
    · subst e
      rfl
    · rw [if_neg e]
      simp only
      rw [emp_wear (by omega), emp_wear (by omega), if_neg (by omega)]
theorem emp1_at {M : Nat} (h : 0 < M) : (emp1 M)[0]? = some ⟨2, false, true, 1, 3, [(40, [])]⟩ := by
  unfold emp1
  rw [List.getElem?_set_self (by unfold emp; rw [List.length_replicate]; exact h)]
theorem emp1_length (M : Nat) : (emp1 M).length = M := by unfold emp1 emp; rw [List.length_set, List.length_replicate]
theorem own_blk4 {w : World} {b n c : Nat} {e : TypeId} {A : Option Addr} {xs : List Value} (h : w.ownsRow b e 4 (.slice A n c) n xs) (hn : 0 < n) : ∃ g E, A = some ⟨g, 0, none⟩ ∧ b ≤ g ∧ g < w.heap.size ∧ Blk w g e (xs ++ E) ∧ n ≤ c ∧ c ≤ maxLen := by
  rcases h.2 with ⟨_, h0⟩ | ⟨g, cap, cur, hv, hg, hh, hc, hm, hs, ht⟩
  · omega
  · obtain ⟨rfl, _, rfl⟩ := Value.slice.inj hv
    have hlt : g < w.heap.size := by
      rcases Nat.lt_or_ge g w.heap.size with q | q
      · exact q
      · rw [Array.getElem?_eq_none q] at hh; cases hh
    refine ⟨g, cur.toList.drop (n * 4), rfl, hg, hlt, ?_, hc, hm⟩
    rw [← ht, List.take_append_drop]
    exact hh
section
variable {w : World} {g h d t : Nat} {a : At} {X : DS} {N C : Nat} {f : Nat → LRec} {n : Nat} {Bs : List LB} {num : Nat} {os : List Nat}
/-- the log is made anew -/
theorem renew_any (l : LogS w g h d t a X N C (fillB (N - 6) f n) (fillO n) (fillN n)) (hC : C ≤ 3400) :
    Calls Tryz.prog 22 #[.pointer (some ⟨d, 0, none⟩)] w fun e w' => ∃ g2 h2 X', e = .returned (.tuple #[.pointer (some ⟨g2, 0, none⟩), .int .i64 0]) ∧ LogS w' g2 h2 d t a X' N (C + 400) (emp (N - 6)) [] 0 ∧ w.heap.size ≤ g2 ∧ w.heap.size ≤ h2 ∧ Chg w w' (a.disk t d) := by
  have htv : ∀ y, y < N - 6 → tv X y = 1 := fun y hy => by
    have hb := fillB_get (M := N - 6) f n hy
    have h1 := opened_wear (l.o.ok _ (get_mem hb)) (l.has y _ hb)
    rw [(opened_is _).2.1] at h1
    have h2 := fill_wear (M := N - 6) f n hy
    rw [wearAt_get hb] at h2
    unfold tv
    rw [h1, h2]
    rfl
  refine (new_any8 l.lg.dk (fun y hy => by rw [htv y hy]; decide) hC).mono ?_
  rintro e w' ⟨g2, h2, X', rfl, l2, q1, q2, c2⟩
  have e1 : newB X (N - 6) (N - 6) = emp (N - 6) := by
    rw [newB_full]
    unfold emp
    apply List.ext_getElem?
    intro y
    rw [List.getElem?_map, List.getElem?_replicate]
    by_cases hy : y < N - 6
    · rw [List.getElem?_range hy, if_pos hy]
      show some (LB.fresh (tv X y + 1)) = _
      rw [htv y hy]
    · rw [if_neg hy, List.getElem?_eq_none (by rw [List.length_range]; omega)]
      rfl
  rw [e1] at l2
  exact ⟨g2, h2, X', rfl, l2, q1, q2, c2⟩
/-- its first record -/
theorem emp_append (l : LogS w g h d t a X N C (emp (N - 6)) [] 0) (hC : C ≤ 3900) :
    Calls Tryz.prog 21 #[.pointer (some ⟨g, 0, none⟩), .int .u8 40, .slice none 0 0] w fun e w' => e = .returned (.tuple #[.agg #[.int .i64 0, .int .i64 2], .int .i64 0]) ∧ ∃ X', LogS w' g h d t a X' N (C + 10) (emp1 (N - 6)) [0] 1 ∧ Chg w w' (a.log t d g h) := by
  have hN := l.lg.n
  have hle := emp_least (M := N - 6) (N - 6) (Nat.le_refl _)
  rw [if_neg (by omega)] at hle
  have hr : recOk ((40 : UInt8), ([] : List (List UInt8)).flatten) := rec_one (by decide) (by decide) (by decide) (by decide) (by decide) (by simp)
  refine (append_new l (fun w' hl ho p => put_none hl ho rfl p) hle (emp_get (by omega)) (by decide) hC 40 (.slice none 0 0) [] w.heap.size (Nat.le_refl _) (Parts.nil 0) hr).mono ?_
  rintro e w' ⟨rfl, X', l', c'⟩
  rw [List.set_set] at l'
  exact ⟨rfl, X', l', c'⟩
theorem emp_segs (l : LogS w g h d t a X N C (emp (N - 6)) [] 0) :
    Calls Tryz.prog 13 #[.pointer (some ⟨g, 0, none⟩)] w fun e w' => ∃ A c, e = .returned (.slice A 0 c) ∧ Below w.heap.size w w' := by
  refine (segments_any l.lg l.o.ord (by simp)).mono ?_
  rintro e w' ⟨A, c, rs, rfl, _, _, b⟩
  exact ⟨A, c, rfl, b⟩
theorem emp_room (l : LogS w g h d t a X N C (emp (N - 6)) [] 0) :
    Calls Tryz.prog 23 #[.pointer (some ⟨g, 0, none⟩)] w fun e w' => e = .returned (.int .i64 0) ∧ Below w.heap.size w w' := room_any8 l.lg l.o
theorem emp_freeC (l : LogS w g h d t a X N C (emp (N - 6)) [] 0) :
    Calls Tryz.prog 18 #[.pointer (some ⟨g, 0, none⟩)] w fun e w' => e = .returned (.int .i64 ((N - 6 : Nat) : Int)) ∧ Below w.heap.size w w' := by
  have := free_any l.lg
  rwa [emp_free] at this
/-- one segment, block 0's, with its wear -/
theorem seg_one (l : Lg w g h d t a X N C Bs num) (o : IsOrder Bs [0]) {b : LB} (hb : Bs[0]? = some b) (hw : b.wear = 2) :
    Calls Tryz.prog 13 #[.pointer (some ⟨g, 0, none⟩)] w fun e w' => ∃ q c E r, e = .returned (.slice (some ⟨q, 0, none⟩) 1 c) ∧ Blk w' q 51 (.int .i64 0 :: .int .u64 (b.num : Int) :: .int .u64 2 :: r :: E) ∧ Below w.heap.size w w' := by
  refine (segments_any l o (by simp)).mono ?_
  rintro e w' ⟨A, c, rs, rfl, ho, hp, bb⟩
  obtain ⟨q, E, rfl, _, _, hB, _, _⟩ := own_blk4 ho (by simp)
  cases rs with
  | nil => exact absurd hp.length (by simp)
  | cons r rs =>
    have hl := hp.length
    obtain rfl : rs = [] := by simpa using hl
    refine ⟨q, c, E, r, rfl, ?_, bb⟩
    have e1 : segRows Bs [0] [r] ++ E = .int .i64 0 :: .int .u64 (b.num : Int) :: .int .u64 2 :: r :: E := by
      show [Value.int .i64 ((0 : Nat) : Int), .int .u64 (numAt Bs 0 : Int), .int .u64 (wearAt Bs 0 : Int), r] ++ [] ++ E = _
      rw [numAt_get hb, wearAt_get hb, hw]
      rfl
    rw [e1] at hB
    exact hB
end
end Go.Proofs.YtjagonoicaelmaaGreatDoor

