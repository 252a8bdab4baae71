/- Several texts of the proof, joined: what each has is said at its head. -/
import Derived.Test.YtjagonoicaelmaaGreatDoorQBbtGood
import Derived.Test.YtjagonoicaelmaaGreatDoorQBbtA
import Derived.Test.YtjagonoicaelmaaGreatDoorQBbtS
/- The document's table (bbt's reference): what stands where; the contracts of the calls that only look. Condition: it is there. -/
namespace Go.Proofs.YtjagonoicaelmaaGreatDoor
open Go.RowKit
def bl (zs : List Bool) : List Value := zs.map Value.bool
section
variable {w w' : World} {lo hi m : Nat} {us : List Nat} {ls : List Bool}
end
theorem lost_take {l : Lay} (h : l.ok) : (l.lost.take l.n).length = l.n := by
  rw [List.length_take, h.o]
  have := h.n2
  omega
theorem lost_at {l : Lay} (h : l.ok) {b : Nat} (hb : b < l.n) (E : List Value) : (bl (l.lost.take l.n) ++ E)[b]? = some (.bool (l.lostAt b)) := by
  have hl := lost_take h
  have h2 := h.n2
  have ho := h.o
  rw [List.getElem?_append_left (by rw [bl, List.length_map, hl]; exact hb), bl, List.getElem?_map, List.getElem?_take_of_lt hb, Lay.lostAt, List.getD_eq_getElem?_getD, List.getElem?_eq_getElem (by omega)]
  rfl
theorem used_at {us : List Nat} {j : Nat} (hj : j < us.length) (E : List Value) : (iv us ++ E)[j]? = some (.int .i64 ((us.getD j 0 : Nat) : Int)) := by
  rw [List.getElem?_append_left (by simpa [iv] using hj), iv, List.getElem?_map, List.getD_eq_getElem?_getD, List.getElem?_eq_getElem hj]
  rfl
section
variable {w : World} {lo hi m : Nat} {l : Lay}
/-- the least spare, or -1 -/
def Lay.first (l : Lay) : Int := (l.spare.map Int.ofNat).getD (-1)
end
end Go.Proofs.YtjagonoicaelmaaGreatDoor

/- The contracts of the document's Lose and Swap. Condition: the table is there. -/
namespace Go.Proofs.YtjagonoicaelmaaGreatDoor
open Go.RowKit
theorem bl_set (zs : List Bool) (E : List Value) {j : Nat} (hj : j < zs.length) (b : Bool) : (bl zs ++ E).set j (.bool b) = bl (zs.set j b) ++ E := by
  rw [List.set_append_left _ _ (by simpa [bl] using hj)]
  simp [bl, List.map_set]
theorem iv_set (zs : List Nat) (E : List Value) {j : Nat} (hj : j < zs.length) (x : Nat) : (iv zs ++ E).set j (.int .i64 (x : Int)) = iv (zs.set j x) ++ E := by
  rw [List.set_append_left _ _ (by simpa [iv] using hj)]
  simp [iv, List.map_set]
theorem take_set_le (zs : List Bool) (n j : Nat) (b : Bool) : (zs.set j b).take n = (zs.take n).set j b := List.take_set
section
variable {w : World} {lo hi m : Nat} {l : Lay}
/-- the document's Swap is done -/
theorem refSwap_tail {x y b : Nat} (hy : y = l.at_.getD x 0) : (l.swap x b).used = l.used.set x b ∧ (l.swap x b).lost.take (l.swap x b).n = (l.lost.take l.n).set y true ∧ (l.swap x b).used.length = l.used.length ∧ ((l.swap x b).lost.take (l.swap x b).n).length = (l.lost.take l.n).length := by
  have h1 : (l.swap x b).used = l.used.set x b := used_set (l := l.setLost (l.at_.getD x 0)) x b
  have h2 : (l.swap x b).lost.take (l.swap x b).n = (l.lost.take l.n).set y true := by
    rw [hy]
    exact take_set_le _ _ _ _
  exact ⟨h1, h2, by rw [h1, List.length_set], by rw [h2, List.length_set]⟩
end
end Go.Proofs.YtjagonoicaelmaaGreatDoor

/- The contract of the document's Copy. Condition: the table is there. -/
namespace Go.Proofs.YtjagonoicaelmaaGreatDoor
open Go.RowKit
theorem intTy : OneCell Tryz.prog 23 3 (.int .i64 0) 8 := OneCell.mk' Tryz.underlying23 (by kernel_rfl) (by decide)
theorem ownsRow_low {w : World} {b b' : Nat} {e : TypeId} {v : Value} {n : Nat} {xs : List Value} (h : w.ownsRow b e 1 v n xs) (hb : b' ≤ b) : w.ownsRow b' e 1 v n xs := by
  obtain ⟨h1, h2⟩ := h
  refine ⟨h1, ?_⟩
  rcases h2 with h2 | ⟨g, cap, cur, hv, hg, r⟩
  · exact .inl h2
  · exact .inr ⟨g, cap, cur, hv, Nat.le_trans hb hg, r⟩
theorem own_blk {w : World} {b n c : Nat} {e : TypeId} {A : Option Addr} {xs : List Value} (h : w.ownsRow b e 1 (.slice A n c) n xs) (hn : 0 < n) : ∃ g E, A = some ⟨g, 0, none⟩ ∧ b ≤ g ∧ g < w.heap.size ∧ Blk w g e (xs ++ E) ∧ n ≤ c ∧ c ≤ maxLen := by
  rcases h.2 with ⟨_, h0⟩ | ⟨g, cap, cur, hv, hg, hh, hc, hm, hs, ht⟩
  · omega
  · obtain ⟨rfl, _, rfl⟩ := Value.slice.inj hv
    have hlt : g < w.heap.size := by
      rcases Nat.lt_or_ge g w.heap.size with q | q
      · exact q
      · rw [Array.getElem?_eq_none q] at hh; cases hh
    refine ⟨g, cur.toList.drop (n * 1), rfl, hg, hlt, ?_, hc, hm⟩
    rw [← ht, List.take_append_drop]
    exact hh
/-- two lists of the call's own, made or not yet made -/
structure Pair2 (b : Nat) (w : World) (vU vV : Value) (xs ys : List Value) : Prop where
  U : w.ownsRow b 3 1 vU xs.length xs
  V : w.ownsRow b 4 1 vV ys.length ys
  ne : ∀ k, vU.ownBlock = some k → vV.ownBlock ≠ some k
theorem Pair2.start (b : Nat) (w : World) : Pair2 b w (.slice none 0 0) (.slice none 0 0) [] [] := ⟨World.ownsRow_nil w b _ 1, World.ownsRow_nil w b _ 1, fun k h => by cases h⟩
theorem Pair2.drew {b : Nat} {w : World} {vU vV : Value} {xs ys : List Value} (h : Pair2 b w vU vV xs ys) : Pair2 b w.drew vU vV xs ys := ⟨h.U, h.V, h.ne⟩
theorem Pair2.alloc {b : Nat} {w : World} {vU vV : Value} {xs ys : List Value} (h : Pair2 b w vU vV xs ys) (o : Obj) : Pair2 b (w.alloc o) vU vV xs ys := ⟨h.U.alloc o, h.V.alloc o, h.ne⟩
theorem Pair2.mkU {b : Nat} {w : World} {vV : Value} {ys : List Value} (h : Pair2 b w (.slice none 0 0) vV [] ys) (hb : b ≤ w.heap.size) : Pair2 b (w.alloc (.cells #[] 3)) (.slice (some ⟨w.heap.size, 0, none⟩) 0 0) vV [] ys :=
  ⟨ownsRow_low (World.ownsRow_made (size := 1) w #[] 0 (Nat.le_refl _) (by simp [maxLen]) (by simp)) hb, h.V.alloc _, fun k e q => by cases e; exact Nat.lt_irrefl _ (h.V.lt _ q).2⟩
theorem Pair2.mkV {b : Nat} {w : World} {vU : Value} {xs : List Value} (h : Pair2 b w vU (.slice none 0 0) xs []) (hb : b ≤ w.heap.size) : Pair2 b (w.alloc (.cells #[] 4)) vU (.slice (some ⟨w.heap.size, 0, none⟩) 0 0) xs [] :=
  ⟨h.U.alloc _, ownsRow_low (World.ownsRow_made (size := 1) w #[] 0 (Nat.le_refl _) (by simp [maxLen]) (by simp)) hb, fun k q e => by cases e; exact Nat.lt_irrefl _ (h.U.lt _ q).2⟩
theorem kept_ne {w w' : World} {b : Nat} {e : TypeId} {v v2 : Value} {n : Nat} {xs : List Value} (h : w.ownsRow b e 1 v n xs) (hg : w.grownBy w' v2.ownBlock) (hne : ∀ k, v.ownBlock = some k → v2.ownBlock ≠ some k) : w'.ownsRow b e 1 v n xs := by
  refine World.ownsRow.kept h hg ?_
  cases q : v.ownBlock with
  | none => exact .inl rfl
  | some k => exact .inr (fun e => hne k q e.symm)
section
variable {w : World} {b : Nat} {ops : Array Oper} {o : Oper} {a : Act} {K : Act → World → Prop} {Q : Exit → Act → World → Prop} {E : Prop} {vU vV : Value} {xs ys : List Value}
theorem row_blk {g : Nat} {t : TypeId} {zs Z : List Value} (h : Blk w g t (zs ++ Z)) : Row w w.heap.size (some ⟨g, 0, none⟩) zs := fun j u hu => by
  refine ⟨_, rfl, h.lt, ?_⟩
  rw [add_off, Nat.zero_add, h.cell j, List.getElem?_append_left (get_lt hu)]
  exact hu
theorem step_appU (hgd : Region.wanted o (yielded ops a.tmps) = true) (s x : Operand) (ho : o.op = .call { callee := .builtin .append, args := #[s, x], argTypes := #[23, 23] })
    (h : Pair2 b w vU vV [] ys) (hs : a.eval s = vU) {u cu : Nat} {Z : List Value} (hu : Blk w u 3 (xs ++ Z)) (hx : a.eval x = .slice (some ⟨u, 0, none⟩) xs.length cu) (h1 : ∀ u ∈ xs, u.oneCell' = true) (hl : xs.length ≤ 1000) (hb : b ≤ w.heap.size)
    (hk : ∀ A' c' w', Pair2 b w' (.slice A' xs.length c') vV xs ys → Below b w w' → K (a.put o.dst (.slice A' xs.length c')) w') : if Region.wanted o (yielded ops a.tmps) = true then Oper.wp Tryz.prog o a w K Q else E := by
  rw [if_pos hgd]
  obtain ⟨v', w', hrun, h2, h3, h4⟩ := run_append_row intTy o.type 0 (xs := []) h.U w.heap.size (some ⟨u, 0, none⟩) cu xs xs.length rfl (row_blk hu) h1 (by simp only [maxLen]; omega) (by omega) hb
  rw [Nat.zero_add, List.nil_append] at h2
  obtain ⟨A', c', rfl, _, _⟩ := ownsRow_shape h2
  unfold Oper.wp execOp
  simp only [ho, resolve, invoke, builtin, Sem.run_bind, Sem.run_pure, Result.andThen_ok, List.map_toArray, List.map_cons, List.map_nil, hs, hx, hrun]
  refine hk A' c' w' ⟨h2, kept_ne h.V h3 (fun k q e => h.ne k e q), fun k q e => ?_⟩ ⟨h3.os, h3.tape, h3.output, h3.size, fun k hk => h3.block k (by omega) (fun e => by have := (h.U.lt k e.symm).1; omega)⟩
  rcases h4 with h4 | h4
  · exact h.ne k (h4.symm.trans q) e
  · have : k = w.heap.size := Option.some.inj (q.symm.trans h4)
    have := (h.V.lt k e).2
    omega
end
section
variable {w : World} {lo hi m : Nat} {us : List Nat} {ls : List Bool}
end
end Go.Proofs.YtjagonoicaelmaaGreatDoor

/- The contract of the laws' step: the document's table behind a call. Condition: the table is there, and its layout good. -/
namespace Go.Proofs.YtjagonoicaelmaaGreatDoor
open Go.RowKit
/-- the block that a call speaks of -/
def Op5.blk (o : Op5) (l : Lay) : Int := if o.least then max l.first 0 else o.b
/-- may the call be done? -/
def Lay.can (l : Lay) (o : Op5) (b : Int) : Bool := if o.lose then l.isSpare b else l.canSwap o.l b
/-- the layout behind the call, if it may be done -/
def Lay.next (l : Lay) (o : Op5) (b : Int) : Lay := if l.can o b then (if o.lose then l.setLost b.toNat else l.swap o.l.toNat b.toNat) else l
theorem good_next {l : Lay} (h : l.good) (o : Op5) (b : Int) : (l.next o b).good ∧ (l.next o b).n = l.n := by
  unfold Lay.next Lay.can
  by_cases hl : o.lose = true
  · rw [if_pos hl, if_pos hl]
    by_cases hc : l.isSpare b = true
    · rw [if_pos hc]
      obtain ⟨q1, q2⟩ := Lay.isSpare_lt hc
      obtain ⟨m, rfl⟩ : ∃ m : Nat, b = m := ⟨b.toNat, by omega⟩
      rw [Int.toNat_natCast]
      exact ⟨h.lose hc, rfl⟩
    · rw [if_neg hc]
      exact ⟨h, rfl⟩
  · rw [if_neg hl, if_neg hl]
    by_cases hc : l.canSwap o.l b = true
    · rw [if_pos hc]
      unfold Lay.canSwap at hc
      rw [Bool.and_eq_true, decide_eq_true_eq] at hc
      obtain ⟨⟨x0, x1⟩, hb⟩ := hc
      obtain ⟨q1, q2⟩ := Lay.isSpare_lt hb
      obtain ⟨m, rfl⟩ : ∃ m : Nat, b = m := ⟨b.toNat, by omega⟩
      rw [Int.toNat_natCast]
      exact ⟨h.swap (by omega) hb, rfl⟩
    · rw [if_neg hc]
      exact ⟨h, rfl⟩
section
variable {w : World} {lo hi m : Nat} {l : Lay}
end
end Go.Proofs.YtjagonoicaelmaaGreatDoor

/- The contract of the laws' same: a table tells what the document's tells. Condition: both are there, and their layout is one, or other blocks are lost. -/
namespace Go.Proofs.YtjagonoicaelmaaGreatDoor
open Go.RowKit
section
variable {w : World} {t lo hi m : Nat} {a : At} {l l2 : Lay}
end
end Go.Proofs.YtjagonoicaelmaaGreatDoor

