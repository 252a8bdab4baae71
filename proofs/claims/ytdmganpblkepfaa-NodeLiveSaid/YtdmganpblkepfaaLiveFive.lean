/- The invariant of the region of NodeLive that calls With and Without: what is known when some of its operations have come up. No condition. (written by gen_live5.py) -/
import Derived.Test.YtdmganpblkepfaaAnyInv
import Derived.Test.YtdmganpblkepfaaLiveKeys
namespace Go.Proofs.Ytdmganpblkepfaa
open Go.RowKit
def bt (l : Array Bool) (i : Nat) : Prop := l.getD i true = true
theorem bt_set {l : Array Bool} {i j : Nat} (hi : i < l.size) : bt (l.setIfInBounds i true) j ↔ i = j ∨ bt l j := by
  unfold bt
  rw [Array.getD_eq_getD_getElem?, Array.getD_eq_getD_getElem?]
  by_cases h : i = j
  · subst h
    simp [hi]
  · rw [Array.getElem?_setIfInBounds_ne h]
    simp [h]
def upd (s : Nat → Value) (i : Nat) (v : Value) : Nat → Value := fun j => if j = i then v else s j
theorem upd_at (s : Nat → Value) (i : Nat) (v : Value) : upd s i v i = v := if_pos rfl
theorem upd_ne (s : Nat → Value) {i j : Nat} (v : Value) (h : j ≠ i) : upd s i v j = s j := if_neg h
/-- a list of the region's own, of no element yet -/
def NoInts (w : World) (B : Nat) (v : Value) : Prop := w.ownsRow B 3 1 v 0 [] ∧ ∃ g, v = .slice (some ⟨g, 0, none⟩) 0 0 ∧ B ≤ g ∧ g < w.heap.size
/-- a list of the integers zs -/
def IsInts (w : World) (v : Value) (zs : List Int) : Prop := ∃ A c, v = .slice A zs.length c ∧ Row w w.heap.size A (zs.map (Value.int .i64))
/-- a variable of the region's own -/
def Var32 (w : World) (B : Nat) (v : Value) (M : List UInt8) : Prop := ∃ p, v = .pointer (some ⟨p, 0, none⟩) ∧ B ≤ p ∧ LArr w p M
structure L5 (w0 : World) (g0 : Nat) (L X Y : List UInt8) (xs ys : List Int) (l : Array Bool) (s : Nat → Value) (w : World) : Prop where
  sz : l.size = 14
  t0 : bt l 0
  t2 : bt l 2
  t5 : bt l 5
  t7 : bt l 7
  a0 : LArr w g0 L
  bb : g0 < w0.heap.size
  hb : Below w0.heap.size w0 w
  i1 : bt l 1 → ¬ bt l 3 → NoInts w w0.heap.size (s 31)
  i6 : bt l 6 → ¬ bt l 8 → NoInts w w0.heap.size (s 36)
  ne : bt l 1 → bt l 6 → ¬ bt l 3 → ¬ bt l 8 → s 31 ≠ s 36
  i3 : bt l 3 → ¬ bt l 4 → IsInts w (s 33) xs
  i8 : bt l 8 → ¬ bt l 9 → IsInts w (s 38) ys
  i4 : bt l 4 → s 34 = .agg (cl X)
  i9 : bt l 9 → s 39 = .agg (cl Y)
  i10 : bt l 10 → ¬ bt l 12 → Var32 w w0.heap.size (s 7) lzeros
  i11 : bt l 11 → ¬ bt l 13 → Var32 w w0.heap.size (s 8) lzeros
  i12 : bt l 12 → Var32 w w0.heap.size (s 7) X
  i13 : bt l 13 → Var32 w w0.heap.size (s 8) Y
  pq : bt l 10 → bt l 11 → s 7 ≠ s 8
  d43 : bt l 4 → bt l 3
  d84 : bt l 8 → bt l 4
  d98 : bt l 9 → bt l 8
  d129 : bt l 12 → bt l 9
  d1312 : bt l 13 → bt l 12
  d1210 : bt l 12 → bt l 10
  d1311 : bt l 13 → bt l 11
section
variable {w0 w w' : World} {g0 B : Nat} {L X Y M : List UInt8} {xs ys zs : List Int} {l : Array Bool} {s : Nat → Value} {v : Value}
theorem NoInts.after (h : NoInts w B v) (hb : Below w.heap.size w w') : NoInts w' B v := by
  obtain ⟨h1, g, rfl, h2, h3⟩ := h
  exact ⟨World.ownsRow.kept h1 (only_of_below hb none) (.inr (by simp [Value.ownBlock])), g, rfl, h2, Nat.lt_of_lt_of_le h3 hb.size⟩
theorem IsInts.after (h : IsInts w v zs) (hb : Below w.heap.size w w') : IsInts w' v zs := by
  obtain ⟨A, c, rfl, h1⟩ := h
  exact ⟨A, c, rfl, fun j u hu => by obtain ⟨a, ha, hl, hc⟩ := h1 j u hu; exact ⟨a, ha, Nat.lt_of_lt_of_le hl hb.size, (hb.cell (p := a.add j) (by rw [add_block]; exact hl)).trans hc⟩⟩
theorem Var32.after (h : Var32 w B v M) (hb : Below w.heap.size w w') : Var32 w' B v M := by
  obtain ⟨p, rfl, h1, h2⟩ := h
  exact ⟨p, rfl, h1, h2.after hb⟩
/-- .. where nothing that was there changes -/
theorem L5.after (h : L5 w0 g0 L X Y xs ys l s w) (hb : Below w.heap.size w w') : L5 w0 g0 L X Y xs ys l s w' :=
  ⟨h.sz, h.t0, h.t2, h.t5, h.t7, h.a0.after hb, h.bb, h.hb.trans (hb.mono h.hb.size), fun a b => (h.i1 a b).after hb, fun a b => (h.i6 a b).after hb, h.ne, fun a b => (h.i3 a b).after hb, fun a b => (h.i8 a b).after hb, h.i4, h.i9,
    fun a b => (h.i10 a b).after hb, fun a b => (h.i11 a b).after hb, fun a => (h.i12 a).after hb, fun a => (h.i13 a).after hb, h.pq, h.d43, h.d84, h.d98, h.d129, h.d1312, h.d1210, h.d1311⟩
theorem L5.op1 (h : L5 w0 g0 L X Y xs ys l s w) (hv : NoInts w w0.heap.size v) (hne : bt l 6 → ¬ bt l 8 → v ≠ s 36) : L5 w0 g0 L X Y xs ys (l.setIfInBounds 1 true) (upd s 31 v) w := by
  have hi : 1 < l.size := by rw [h.sz]; decide
  exact ⟨by rw [Array.size_setIfInBounds]; exact h.sz,
    (bt_set hi).2 (.inr h.t0),
    (bt_set hi).2 (.inr h.t2),
    (bt_set hi).2 (.inr h.t5),
    (bt_set hi).2 (.inr h.t7),
    h.a0,
    h.bb,
    h.hb,
    fun _ _ => by rw [upd_at s 31 _]; exact hv,
    fun q0 q1 => by simpa only [upd_ne s _ (show (36 : Nat) ≠ 31 by decide)] using h.i6 (((bt_set hi).1 q0).resolve_left (by decide)) (fun q => q1 ((bt_set hi).2 (.inr q))),
    fun _ q1 _ q3 => by rw [upd_at s 31 _, upd_ne s _ (show (36 : Nat) ≠ 31 by decide)]; exact hne (((bt_set hi).1 q1).resolve_left (by decide)) (fun q => q3 ((bt_set hi).2 (.inr q))),
    fun q0 q1 => by simpa only [upd_ne s _ (show (33 : Nat) ≠ 31 by decide)] using h.i3 (((bt_set hi).1 q0).resolve_left (by decide)) (fun q => q1 ((bt_set hi).2 (.inr q))),
    fun q0 q1 => by simpa only [upd_ne s _ (show (38 : Nat) ≠ 31 by decide)] using h.i8 (((bt_set hi).1 q0).resolve_left (by decide)) (fun q => q1 ((bt_set hi).2 (.inr q))),
    fun q0 => by simpa only [upd_ne s _ (show (34 : Nat) ≠ 31 by decide)] using h.i4 (((bt_set hi).1 q0).resolve_left (by decide)),
    fun q0 => by simpa only [upd_ne s _ (show (39 : Nat) ≠ 31 by decide)] using h.i9 (((bt_set hi).1 q0).resolve_left (by decide)),
    fun q0 q1 => by simpa only [upd_ne s _ (show (7 : Nat) ≠ 31 by decide)] using h.i10 (((bt_set hi).1 q0).resolve_left (by decide)) (fun q => q1 ((bt_set hi).2 (.inr q))),
    fun q0 q1 => by simpa only [upd_ne s _ (show (8 : Nat) ≠ 31 by decide)] using h.i11 (((bt_set hi).1 q0).resolve_left (by decide)) (fun q => q1 ((bt_set hi).2 (.inr q))),
    fun q0 => by simpa only [upd_ne s _ (show (7 : Nat) ≠ 31 by decide)] using h.i12 (((bt_set hi).1 q0).resolve_left (by decide)),
    fun q0 => by simpa only [upd_ne s _ (show (8 : Nat) ≠ 31 by decide)] using h.i13 (((bt_set hi).1 q0).resolve_left (by decide)),
    fun q0 q1 => by simpa only [upd_ne s _ (show (7 : Nat) ≠ 31 by decide), upd_ne s _ (show (8 : Nat) ≠ 31 by decide)] using h.pq (((bt_set hi).1 q0).resolve_left (by decide)) (((bt_set hi).1 q1).resolve_left (by decide)),
    fun q => (bt_set hi).2 (.inr (h.d43 (((bt_set hi).1 q).resolve_left (by decide)))),
    fun q => (bt_set hi).2 (.inr (h.d84 (((bt_set hi).1 q).resolve_left (by decide)))),
    fun q => (bt_set hi).2 (.inr (h.d98 (((bt_set hi).1 q).resolve_left (by decide)))),
    fun q => (bt_set hi).2 (.inr (h.d129 (((bt_set hi).1 q).resolve_left (by decide)))),
    fun q => (bt_set hi).2 (.inr (h.d1312 (((bt_set hi).1 q).resolve_left (by decide)))),
    fun q => (bt_set hi).2 (.inr (h.d1210 (((bt_set hi).1 q).resolve_left (by decide)))),
    fun q => (bt_set hi).2 (.inr (h.d1311 (((bt_set hi).1 q).resolve_left (by decide))))⟩
theorem L5.op6 (h : L5 w0 g0 L X Y xs ys l s w) (hv : NoInts w w0.heap.size v) (hne : bt l 1 → ¬ bt l 3 → s 31 ≠ v) : L5 w0 g0 L X Y xs ys (l.setIfInBounds 6 true) (upd s 36 v) w := by
  have hi : 6 < l.size := by rw [h.sz]; decide
  exact ⟨by rw [Array.size_setIfInBounds]; exact h.sz,
    (bt_set hi).2 (.inr h.t0),
    (bt_set hi).2 (.inr h.t2),
    (bt_set hi).2 (.inr h.t5),
    (bt_set hi).2 (.inr h.t7),
    h.a0,
    h.bb,
    h.hb,
    fun q0 q1 => by simpa only [upd_ne s _ (show (31 : Nat) ≠ 36 by decide)] using h.i1 (((bt_set hi).1 q0).resolve_left (by decide)) (fun q => q1 ((bt_set hi).2 (.inr q))),
    fun _ _ => by rw [upd_at s 36 _]; exact hv,
    fun q0 _ q2 _ => by rw [upd_at s 36 _, upd_ne s _ (show (31 : Nat) ≠ 36 by decide)]; exact hne (((bt_set hi).1 q0).resolve_left (by decide)) (fun q => q2 ((bt_set hi).2 (.inr q))),
    fun q0 q1 => by simpa only [upd_ne s _ (show (33 : Nat) ≠ 36 by decide)] using h.i3 (((bt_set hi).1 q0).resolve_left (by decide)) (fun q => q1 ((bt_set hi).2 (.inr q))),
    fun q0 q1 => by simpa only [upd_ne s _ (show (38 : Nat) ≠ 36 by decide)] using h.i8 (((bt_set hi).1 q0).resolve_left (by decide)) (fun q => q1 ((bt_set hi).2 (.inr q))),
    fun q0 => by simpa only [upd_ne s _ (show (34 : Nat) ≠ 36 by decide)] using h.i4 (((bt_set hi).1 q0).resolve_left (by decide)),
    fun q0 => by simpa only [upd_ne s _ (show (39 : Nat) ≠ 36 by decide)] using h.i9 (((bt_set hi).1 q0).resolve_left (by decide)),
    fun q0 q1 => by simpa only [upd_ne s _ (show (7 : Nat) ≠ 36 by decide)] using h.i10 (((bt_set hi).1 q0).resolve_left (by decide)) (fun q => q1 ((bt_set hi).2 (.inr q))),
    fun q0 q1 => by simpa only [upd_ne s _ (show (8 : Nat) ≠ 36 by decide)] using h.i11 (((bt_set hi).1 q0).resolve_left (by decide)) (fun q => q1 ((bt_set hi).2 (.inr q))),
    fun q0 => by simpa only [upd_ne s _ (show (7 : Nat) ≠ 36 by decide)] using h.i12 (((bt_set hi).1 q0).resolve_left (by decide)),
    fun q0 => by simpa only [upd_ne s _ (show (8 : Nat) ≠ 36 by decide)] using h.i13 (((bt_set hi).1 q0).resolve_left (by decide)),
    fun q0 q1 => by simpa only [upd_ne s _ (show (7 : Nat) ≠ 36 by decide), upd_ne s _ (show (8 : Nat) ≠ 36 by decide)] using h.pq (((bt_set hi).1 q0).resolve_left (by decide)) (((bt_set hi).1 q1).resolve_left (by decide)),
    fun q => (bt_set hi).2 (.inr (h.d43 (((bt_set hi).1 q).resolve_left (by decide)))),
    fun q => (bt_set hi).2 (.inr (h.d84 (((bt_set hi).1 q).resolve_left (by decide)))),
    fun q => (bt_set hi).2 (.inr (h.d98 (((bt_set hi).1 q).resolve_left (by decide)))),
    fun q => (bt_set hi).2 (.inr (h.d129 (((bt_set hi).1 q).resolve_left (by decide)))),
    fun q => (bt_set hi).2 (.inr (h.d1312 (((bt_set hi).1 q).resolve_left (by decide)))),
    fun q => (bt_set hi).2 (.inr (h.d1210 (((bt_set hi).1 q).resolve_left (by decide)))),
    fun q => (bt_set hi).2 (.inr (h.d1311 (((bt_set hi).1 q).resolve_left (by decide))))⟩
theorem L5.op10 (h : L5 w0 g0 L X Y xs ys l s w) (n12 : ¬ bt l 12) (hv : Var32 w w0.heap.size v lzeros) (hne : bt l 11 → v ≠ s 8) : L5 w0 g0 L X Y xs ys (l.setIfInBounds 10 true) (upd s 7 v) w := by
  have hi : 10 < l.size := by rw [h.sz]; decide
  exact ⟨by rw [Array.size_setIfInBounds]; exact h.sz,
    (bt_set hi).2 (.inr h.t0),
    (bt_set hi).2 (.inr h.t2),
    (bt_set hi).2 (.inr h.t5),
    (bt_set hi).2 (.inr h.t7),
    h.a0,
    h.bb,
    h.hb,
    fun q0 q1 => by simpa only [upd_ne s _ (show (31 : Nat) ≠ 7 by decide)] using h.i1 (((bt_set hi).1 q0).resolve_left (by decide)) (fun q => q1 ((bt_set hi).2 (.inr q))),
    fun q0 q1 => by simpa only [upd_ne s _ (show (36 : Nat) ≠ 7 by decide)] using h.i6 (((bt_set hi).1 q0).resolve_left (by decide)) (fun q => q1 ((bt_set hi).2 (.inr q))),
    fun q0 q1 q2 q3 => by simpa only [upd_ne s _ (show (31 : Nat) ≠ 7 by decide), upd_ne s _ (show (36 : Nat) ≠ 7 by decide)] using h.ne (((bt_set hi).1 q0).resolve_left (by decide)) (((bt_set hi).1 q1).resolve_left (by decide)) (fun q => q2 ((bt_set hi).2 (.inr q))) (fun q => q3 ((bt_set hi).2 (.inr q))),
    fun q0 q1 => by simpa only [upd_ne s _ (show (33 : Nat) ≠ 7 by decide)] using h.i3 (((bt_set hi).1 q0).resolve_left (by decide)) (fun q => q1 ((bt_set hi).2 (.inr q))),
    fun q0 q1 => by simpa only [upd_ne s _ (show (38 : Nat) ≠ 7 by decide)] using h.i8 (((bt_set hi).1 q0).resolve_left (by decide)) (fun q => q1 ((bt_set hi).2 (.inr q))),
    fun q0 => by simpa only [upd_ne s _ (show (34 : Nat) ≠ 7 by decide)] using h.i4 (((bt_set hi).1 q0).resolve_left (by decide)),
    fun q0 => by simpa only [upd_ne s _ (show (39 : Nat) ≠ 7 by decide)] using h.i9 (((bt_set hi).1 q0).resolve_left (by decide)),
    fun _ _ => by rw [upd_at s 7 _]; exact hv,
    fun q0 q1 => by simpa only [upd_ne s _ (show (8 : Nat) ≠ 7 by decide)] using h.i11 (((bt_set hi).1 q0).resolve_left (by decide)) (fun q => q1 ((bt_set hi).2 (.inr q))),
    fun q => absurd (((bt_set hi).1 q).resolve_left (by decide)) n12,
    fun q0 => by simpa only [upd_ne s _ (show (8 : Nat) ≠ 7 by decide)] using h.i13 (((bt_set hi).1 q0).resolve_left (by decide)),
    fun _ q1 => by rw [upd_at s 7 _, upd_ne s _ (show (8 : Nat) ≠ 7 by decide)]; exact hne (((bt_set hi).1 q1).resolve_left (by decide)),
    fun q => (bt_set hi).2 (.inr (h.d43 (((bt_set hi).1 q).resolve_left (by decide)))),
    fun q => (bt_set hi).2 (.inr (h.d84 (((bt_set hi).1 q).resolve_left (by decide)))),
    fun q => (bt_set hi).2 (.inr (h.d98 (((bt_set hi).1 q).resolve_left (by decide)))),
    fun q => (bt_set hi).2 (.inr (h.d129 (((bt_set hi).1 q).resolve_left (by decide)))),
    fun q => (bt_set hi).2 (.inr (h.d1312 (((bt_set hi).1 q).resolve_left (by decide)))),
    fun _ => (bt_set hi).2 (.inl rfl),
    fun q => (bt_set hi).2 (.inr (h.d1311 (((bt_set hi).1 q).resolve_left (by decide))))⟩
theorem L5.op11 (h : L5 w0 g0 L X Y xs ys l s w) (n13 : ¬ bt l 13) (hv : Var32 w w0.heap.size v lzeros) (hne : bt l 10 → s 7 ≠ v) : L5 w0 g0 L X Y xs ys (l.setIfInBounds 11 true) (upd s 8 v) w := by
  have hi : 11 < l.size := by rw [h.sz]; decide
  exact ⟨by rw [Array.size_setIfInBounds]; exact h.sz,
    (bt_set hi).2 (.inr h.t0),
    (bt_set hi).2 (.inr h.t2),
    (bt_set hi).2 (.inr h.t5),
    (bt_set hi).2 (.inr h.t7),
    h.a0,
    h.bb,
    h.hb,
    fun q0 q1 => by simpa only [upd_ne s _ (show (31 : Nat) ≠ 8 by decide)] using h.i1 (((bt_set hi).1 q0).resolve_left (by decide)) (fun q => q1 ((bt_set hi).2 (.inr q))),
    fun q0 q1 => by simpa only [upd_ne s _ (show (36 : Nat) ≠ 8 by decide)] using h.i6 (((bt_set hi).1 q0).resolve_left (by decide)) (fun q => q1 ((bt_set hi).2 (.inr q))),
    fun q0 q1 q2 q3 => by simpa only [upd_ne s _ (show (31 : Nat) ≠ 8 by decide), upd_ne s _ (show (36 : Nat) ≠ 8 by decide)] using h.ne (((bt_set hi).1 q0).resolve_left (by decide)) (((bt_set hi).1 q1).resolve_left (by decide)) (fun q => q2 ((bt_set hi).2 (.inr q))) (fun q => q3 ((bt_set hi).2 (.inr q))),
    fun q0 q1 => by simpa only [upd_ne s _ (show (33 : Nat) ≠ 8 by decide)] using h.i3 (((bt_set hi).1 q0).resolve_left (by decide)) (fun q => q1 ((bt_set hi).2 (.inr q))),
    fun q0 q1 => by simpa only [upd_ne s _ (show (38 : Nat) ≠ 8 by decide)] using h.i8 (((bt_set hi).1 q0).resolve_left (by decide)) (fun q => q1 ((bt_set hi).2 (.inr q))),
    fun q0 => by simpa only [upd_ne s _ (show (34 : Nat) ≠ 8 by decide)] using h.i4 (((bt_set hi).1 q0).resolve_left (by decide)),
    fun q0 => by simpa only [upd_ne s _ (show (39 : Nat) ≠ 8 by decide)] using h.i9 (((bt_set hi).1 q0).resolve_left (by decide)),
    fun q0 q1 => by simpa only [upd_ne s _ (show (7 : Nat) ≠ 8 by decide)] using h.i10 (((bt_set hi).1 q0).resolve_left (by decide)) (fun q => q1 ((bt_set hi).2 (.inr q))),
    fun _ _ => by rw [upd_at s 8 _]; exact hv,
    fun q0 => by simpa only [upd_ne s _ (show (7 : Nat) ≠ 8 by decide)] using h.i12 (((bt_set hi).1 q0).resolve_left (by decide)),
    fun q => absurd (((bt_set hi).1 q).resolve_left (by decide)) n13,
    fun q0 _ => by rw [upd_at s 8 _, upd_ne s _ (show (7 : Nat) ≠ 8 by decide)]; exact hne (((bt_set hi).1 q0).resolve_left (by decide)),
    fun q => (bt_set hi).2 (.inr (h.d43 (((bt_set hi).1 q).resolve_left (by decide)))),
    fun q => (bt_set hi).2 (.inr (h.d84 (((bt_set hi).1 q).resolve_left (by decide)))),
    fun q => (bt_set hi).2 (.inr (h.d98 (((bt_set hi).1 q).resolve_left (by decide)))),
    fun q => (bt_set hi).2 (.inr (h.d129 (((bt_set hi).1 q).resolve_left (by decide)))),
    fun q => (bt_set hi).2 (.inr (h.d1312 (((bt_set hi).1 q).resolve_left (by decide)))),
    fun q => (bt_set hi).2 (.inr (h.d1210 (((bt_set hi).1 q).resolve_left (by decide)))),
    fun _ => (bt_set hi).2 (.inl rfl)⟩
theorem L5.op4 (h : L5 w0 g0 L X Y xs ys l s w) (hd43 : bt l 3) : L5 w0 g0 L X Y xs ys (l.setIfInBounds 4 true) (upd s 34 (.agg (cl X))) w := by
  have hi : 4 < l.size := by rw [h.sz]; decide
  exact ⟨by rw [Array.size_setIfInBounds]; exact h.sz,
    (bt_set hi).2 (.inr h.t0),
    (bt_set hi).2 (.inr h.t2),
    (bt_set hi).2 (.inr h.t5),
    (bt_set hi).2 (.inr h.t7),
    h.a0,
    h.bb,
    h.hb,
    fun q0 q1 => by simpa only [upd_ne s _ (show (31 : Nat) ≠ 34 by decide)] using h.i1 (((bt_set hi).1 q0).resolve_left (by decide)) (fun q => q1 ((bt_set hi).2 (.inr q))),
    fun q0 q1 => by simpa only [upd_ne s _ (show (36 : Nat) ≠ 34 by decide)] using h.i6 (((bt_set hi).1 q0).resolve_left (by decide)) (fun q => q1 ((bt_set hi).2 (.inr q))),
    fun q0 q1 q2 q3 => by simpa only [upd_ne s _ (show (31 : Nat) ≠ 34 by decide), upd_ne s _ (show (36 : Nat) ≠ 34 by decide)] using h.ne (((bt_set hi).1 q0).resolve_left (by decide)) (((bt_set hi).1 q1).resolve_left (by decide)) (fun q => q2 ((bt_set hi).2 (.inr q))) (fun q => q3 ((bt_set hi).2 (.inr q))),
    fun q0 q1 => absurd ((bt_set hi).2 (.inl rfl)) q1,
    fun q0 q1 => by simpa only [upd_ne s _ (show (38 : Nat) ≠ 34 by decide)] using h.i8 (((bt_set hi).1 q0).resolve_left (by decide)) (fun q => q1 ((bt_set hi).2 (.inr q))),
    fun _ => upd_at s 34 _,
    fun q0 => by simpa only [upd_ne s _ (show (39 : Nat) ≠ 34 by decide)] using h.i9 (((bt_set hi).1 q0).resolve_left (by decide)),
    fun q0 q1 => by simpa only [upd_ne s _ (show (7 : Nat) ≠ 34 by decide)] using h.i10 (((bt_set hi).1 q0).resolve_left (by decide)) (fun q => q1 ((bt_set hi).2 (.inr q))),
    fun q0 q1 => by simpa only [upd_ne s _ (show (8 : Nat) ≠ 34 by decide)] using h.i11 (((bt_set hi).1 q0).resolve_left (by decide)) (fun q => q1 ((bt_set hi).2 (.inr q))),
    fun q0 => by simpa only [upd_ne s _ (show (7 : Nat) ≠ 34 by decide)] using h.i12 (((bt_set hi).1 q0).resolve_left (by decide)),
    fun q0 => by simpa only [upd_ne s _ (show (8 : Nat) ≠ 34 by decide)] using h.i13 (((bt_set hi).1 q0).resolve_left (by decide)),
    fun q0 q1 => by simpa only [upd_ne s _ (show (7 : Nat) ≠ 34 by decide), upd_ne s _ (show (8 : Nat) ≠ 34 by decide)] using h.pq (((bt_set hi).1 q0).resolve_left (by decide)) (((bt_set hi).1 q1).resolve_left (by decide)),
    fun _ => (bt_set hi).2 (.inr hd43),
    fun _ => (bt_set hi).2 (.inl rfl),
    fun q => (bt_set hi).2 (.inr (h.d98 (((bt_set hi).1 q).resolve_left (by decide)))),
    fun q => (bt_set hi).2 (.inr (h.d129 (((bt_set hi).1 q).resolve_left (by decide)))),
    fun q => (bt_set hi).2 (.inr (h.d1312 (((bt_set hi).1 q).resolve_left (by decide)))),
    fun q => (bt_set hi).2 (.inr (h.d1210 (((bt_set hi).1 q).resolve_left (by decide)))),
    fun q => (bt_set hi).2 (.inr (h.d1311 (((bt_set hi).1 q).resolve_left (by decide))))⟩
theorem L5.op9 (h : L5 w0 g0 L X Y xs ys l s w) (hd98 : bt l 8) : L5 w0 g0 L X Y xs ys (l.setIfInBounds 9 true) (upd s 39 (.agg (cl Y))) w := by
  have hi : 9 < l.size := by rw [h.sz]; decide
  exact ⟨by rw [Array.size_setIfInBounds]; exact h.sz,
    (bt_set hi).2 (.inr h.t0),
    (bt_set hi).2 (.inr h.t2),
    (bt_set hi).2 (.inr h.t5),
    (bt_set hi).2 (.inr h.t7),
    h.a0,
    h.bb,
    h.hb,
    fun q0 q1 => by simpa only [upd_ne s _ (show (31 : Nat) ≠ 39 by decide)] using h.i1 (((bt_set hi).1 q0).resolve_left (by decide)) (fun q => q1 ((bt_set hi).2 (.inr q))),
    fun q0 q1 => by simpa only [upd_ne s _ (show (36 : Nat) ≠ 39 by decide)] using h.i6 (((bt_set hi).1 q0).resolve_left (by decide)) (fun q => q1 ((bt_set hi).2 (.inr q))),
    fun q0 q1 q2 q3 => by simpa only [upd_ne s _ (show (31 : Nat) ≠ 39 by decide), upd_ne s _ (show (36 : Nat) ≠ 39 by decide)] using h.ne (((bt_set hi).1 q0).resolve_left (by decide)) (((bt_set hi).1 q1).resolve_left (by decide)) (fun q => q2 ((bt_set hi).2 (.inr q))) (fun q => q3 ((bt_set hi).2 (.inr q))),
    fun q0 q1 => by simpa only [upd_ne s _ (show (33 : Nat) ≠ 39 by decide)] using h.i3 (((bt_set hi).1 q0).resolve_left (by decide)) (fun q => q1 ((bt_set hi).2 (.inr q))),
    fun q0 q1 => absurd ((bt_set hi).2 (.inl rfl)) q1,
    fun q0 => by simpa only [upd_ne s _ (show (34 : Nat) ≠ 39 by decide)] using h.i4 (((bt_set hi).1 q0).resolve_left (by decide)),
    fun _ => upd_at s 39 _,
    fun q0 q1 => by simpa only [upd_ne s _ (show (7 : Nat) ≠ 39 by decide)] using h.i10 (((bt_set hi).1 q0).resolve_left (by decide)) (fun q => q1 ((bt_set hi).2 (.inr q))),
    fun q0 q1 => by simpa only [upd_ne s _ (show (8 : Nat) ≠ 39 by decide)] using h.i11 (((bt_set hi).1 q0).resolve_left (by decide)) (fun q => q1 ((bt_set hi).2 (.inr q))),
    fun q0 => by simpa only [upd_ne s _ (show (7 : Nat) ≠ 39 by decide)] using h.i12 (((bt_set hi).1 q0).resolve_left (by decide)),
    fun q0 => by simpa only [upd_ne s _ (show (8 : Nat) ≠ 39 by decide)] using h.i13 (((bt_set hi).1 q0).resolve_left (by decide)),
    fun q0 q1 => by simpa only [upd_ne s _ (show (7 : Nat) ≠ 39 by decide), upd_ne s _ (show (8 : Nat) ≠ 39 by decide)] using h.pq (((bt_set hi).1 q0).resolve_left (by decide)) (((bt_set hi).1 q1).resolve_left (by decide)),
    fun q => (bt_set hi).2 (.inr (h.d43 (((bt_set hi).1 q).resolve_left (by decide)))),
    fun q => (bt_set hi).2 (.inr (h.d84 (((bt_set hi).1 q).resolve_left (by decide)))),
    fun _ => (bt_set hi).2 (.inr hd98),
    fun _ => (bt_set hi).2 (.inl rfl),
    fun q => (bt_set hi).2 (.inr (h.d1312 (((bt_set hi).1 q).resolve_left (by decide)))),
    fun q => (bt_set hi).2 (.inr (h.d1210 (((bt_set hi).1 q).resolve_left (by decide)))),
    fun q => (bt_set hi).2 (.inr (h.d1311 (((bt_set hi).1 q).resolve_left (by decide))))⟩
theorem NoInts.block (h : NoInts w B v) : ∃ g, v.ownBlock = some g ∧ v = .slice (some ⟨g, 0, none⟩) 0 0 ∧ B ≤ g := by
  obtain ⟨_, g, rfl, h2, _⟩ := h
  exact ⟨g, rfl, rfl, h2⟩
theorem Var32.kept_ints {u : Value} (h : Var32 w B v M) (hn : NoInts w B u) (hg : w.grownBy w' u.ownBlock) : Var32 w' B v M := by
  obtain ⟨p, rfl, h1, h2⟩ := h
  obtain ⟨ho, g, rfl, h3, h4⟩ := hn
  refine ⟨p, rfl, h1, ⟨(hg.block p h2.lt ?_).trans h2.1, h2.2⟩⟩
  intro e
  obtain rfl : g = p := (Option.some.inj e).symm
  rcases ho.2 with ⟨hv, _⟩ | ⟨g', cap, cur, hv, _, hh, _⟩
  · cases hv
  · obtain ⟨e1, _, _⟩ := Value.slice.inj hv
    obtain rfl : g = g' := by simpa using e1
    rw [h2.1] at hh
    have := Option.some.inj hh
    injection this with a1 a2 a3
    exact absurd a2 (by decide)
theorem NoInts.kept_ints {u : Value} (h : NoInts w B v) (hn : NoInts w B u) (hne : v ≠ u) (hg : w.grownBy w' u.ownBlock) : NoInts w' B v := by
  obtain ⟨h1, g, rfl, h2, h3⟩ := h
  obtain ⟨g', e, rfl, _⟩ := hn.block
  refine ⟨World.ownsRow.kept h1 hg (.inr ?_), g, rfl, h2, Nat.lt_of_lt_of_le h3 hg.size⟩
  intro q
  apply hne
  obtain rfl : g = g' := by simpa [Value.ownBlock] using q
  rfl
theorem Var32.kept_var {p : Nat} (h : Var32 w B v M) (hne : v ≠ .pointer (some ⟨p, 0, none⟩)) (hg : w.grownBy w' (some p)) : Var32 w' B v M := by
  obtain ⟨q, rfl, h1, h2⟩ := h
  exact ⟨q, rfl, h1, h2.grown hg (fun e => hne (by rw [e]))⟩
theorem low_kept {g : Option Nat} (h : LArr w g0 L) (hg : w.grownBy w' g) (hn : ∀ k, g = some k → g0 ≠ k) : LArr w' g0 L :=
  ⟨(hg.block g0 h.lt (fun e => hn g0 e.symm rfl)).trans h.1, h.2⟩
theorem L5.op3 (h : L5 w0 g0 L X Y xs ys l s w) (b1 : bt l 1) (n3 : ¬ bt l 3) (hg : w.grownBy w' (s 31).ownBlock) (hv : IsInts w' v xs) : L5 w0 g0 L X Y xs ys (l.setIfInBounds 3 true) (upd s 33 v) w' := by
  have hi : 3 < l.size := by rw [h.sz]; decide
  exact ⟨by rw [Array.size_setIfInBounds]; exact h.sz,
    (bt_set hi).2 (.inr h.t0),
    (bt_set hi).2 (.inr h.t2),
    (bt_set hi).2 (.inr h.t5),
    (bt_set hi).2 (.inr h.t7),
    low_kept h.a0 hg (fun k e => by obtain ⟨g, e2, _, e3⟩ := (h.i1 b1 n3).block; have := h.bb; have := Option.some.inj (e2.symm.trans e); omega),
    h.bb,
    h.hb.grown hg h.hb.size (fun k e => by obtain ⟨g, e2, _, e3⟩ := (h.i1 b1 n3).block; have := Option.some.inj (e2.symm.trans e); omega),
    fun q0 q1 => absurd ((bt_set hi).2 (.inl rfl)) q1,
    fun q0 q1 => by rw [upd_ne s _ (show (36 : Nat) ≠ 33 by decide)]; exact (h.i6 (((bt_set hi).1 q0).resolve_left (by decide)) (fun q => q1 ((bt_set hi).2 (.inr q)))).kept_ints (h.i1 b1 n3) (fun e => h.ne b1 (((bt_set hi).1 q0).resolve_left (by decide)) n3 (fun q => q1 ((bt_set hi).2 (.inr q))) e.symm) hg,
    fun q0 q1 q2 q3 => absurd ((bt_set hi).2 (.inl rfl)) q2,
    fun _ _ => by rw [upd_at s 33 _]; exact hv,
    fun q _ => absurd (h.d43 (h.d84 (((bt_set hi).1 q).resolve_left (by decide)))) n3,
    fun q0 => by simpa only [upd_ne s _ (show (34 : Nat) ≠ 33 by decide)] using h.i4 (((bt_set hi).1 q0).resolve_left (by decide)),
    fun q0 => by simpa only [upd_ne s _ (show (39 : Nat) ≠ 33 by decide)] using h.i9 (((bt_set hi).1 q0).resolve_left (by decide)),
    fun q0 q1 => by rw [upd_ne s _ (show (7 : Nat) ≠ 33 by decide)]; exact (h.i10 (((bt_set hi).1 q0).resolve_left (by decide)) (fun q => q1 ((bt_set hi).2 (.inr q)))).kept_ints (h.i1 b1 n3) hg,
    fun q0 q1 => by rw [upd_ne s _ (show (8 : Nat) ≠ 33 by decide)]; exact (h.i11 (((bt_set hi).1 q0).resolve_left (by decide)) (fun q => q1 ((bt_set hi).2 (.inr q)))).kept_ints (h.i1 b1 n3) hg,
    fun q => absurd (h.d43 (h.d84 (h.d98 (h.d129 (((bt_set hi).1 q).resolve_left (by decide)))))) n3,
    fun q => absurd (h.d43 (h.d84 (h.d98 (h.d129 (h.d1312 (((bt_set hi).1 q).resolve_left (by decide))))))) n3,
    fun q0 q1 => by simpa only [upd_ne s _ (show (7 : Nat) ≠ 33 by decide), upd_ne s _ (show (8 : Nat) ≠ 33 by decide)] using h.pq (((bt_set hi).1 q0).resolve_left (by decide)) (((bt_set hi).1 q1).resolve_left (by decide)),
    fun _ => (bt_set hi).2 (.inl rfl),
    fun q => (bt_set hi).2 (.inr (h.d84 (((bt_set hi).1 q).resolve_left (by decide)))),
    fun q => (bt_set hi).2 (.inr (h.d98 (((bt_set hi).1 q).resolve_left (by decide)))),
    fun q => (bt_set hi).2 (.inr (h.d129 (((bt_set hi).1 q).resolve_left (by decide)))),
    fun q => (bt_set hi).2 (.inr (h.d1312 (((bt_set hi).1 q).resolve_left (by decide)))),
    fun q => (bt_set hi).2 (.inr (h.d1210 (((bt_set hi).1 q).resolve_left (by decide)))),
    fun q => (bt_set hi).2 (.inr (h.d1311 (((bt_set hi).1 q).resolve_left (by decide))))⟩
theorem L5.op8 (h : L5 w0 g0 L X Y xs ys l s w) (hd84 : bt l 4) (b6 : bt l 6) (n8 : ¬ bt l 8) (hg : w.grownBy w' (s 36).ownBlock) (hv : IsInts w' v ys) : L5 w0 g0 L X Y xs ys (l.setIfInBounds 8 true) (upd s 38 v) w' := by
  have hi : 8 < l.size := by rw [h.sz]; decide
  exact ⟨by rw [Array.size_setIfInBounds]; exact h.sz,
    (bt_set hi).2 (.inr h.t0),
    (bt_set hi).2 (.inr h.t2),
    (bt_set hi).2 (.inr h.t5),
    (bt_set hi).2 (.inr h.t7),
    low_kept h.a0 hg (fun k e => by obtain ⟨g, e2, _, e3⟩ := (h.i6 b6 n8).block; have := h.bb; have := Option.some.inj (e2.symm.trans e); omega),
    h.bb,
    h.hb.grown hg h.hb.size (fun k e => by obtain ⟨g, e2, _, e3⟩ := (h.i6 b6 n8).block; have := Option.some.inj (e2.symm.trans e); omega),
    fun _ q => absurd ((bt_set hi).2 (.inr (h.d43 hd84))) q,
    fun q0 q1 => absurd ((bt_set hi).2 (.inl rfl)) q1,
    fun q0 q1 q2 q3 => absurd ((bt_set hi).2 (.inl rfl)) q3,
    fun _ q => absurd ((bt_set hi).2 (.inr hd84)) q,
    fun _ _ => by rw [upd_at s 38 _]; exact hv,
    fun q0 => by simpa only [upd_ne s _ (show (34 : Nat) ≠ 38 by decide)] using h.i4 (((bt_set hi).1 q0).resolve_left (by decide)),
    fun q0 => by simpa only [upd_ne s _ (show (39 : Nat) ≠ 38 by decide)] using h.i9 (((bt_set hi).1 q0).resolve_left (by decide)),
    fun q0 q1 => by rw [upd_ne s _ (show (7 : Nat) ≠ 38 by decide)]; exact (h.i10 (((bt_set hi).1 q0).resolve_left (by decide)) (fun q => q1 ((bt_set hi).2 (.inr q)))).kept_ints (h.i6 b6 n8) hg,
    fun q0 q1 => by rw [upd_ne s _ (show (8 : Nat) ≠ 38 by decide)]; exact (h.i11 (((bt_set hi).1 q0).resolve_left (by decide)) (fun q => q1 ((bt_set hi).2 (.inr q)))).kept_ints (h.i6 b6 n8) hg,
    fun q => absurd (h.d98 (h.d129 (((bt_set hi).1 q).resolve_left (by decide)))) n8,
    fun q => absurd (h.d98 (h.d129 (h.d1312 (((bt_set hi).1 q).resolve_left (by decide))))) n8,
    fun q0 q1 => by simpa only [upd_ne s _ (show (7 : Nat) ≠ 38 by decide), upd_ne s _ (show (8 : Nat) ≠ 38 by decide)] using h.pq (((bt_set hi).1 q0).resolve_left (by decide)) (((bt_set hi).1 q1).resolve_left (by decide)),
    fun q => (bt_set hi).2 (.inr (h.d43 (((bt_set hi).1 q).resolve_left (by decide)))),
    fun _ => (bt_set hi).2 (.inr hd84),
    fun _ => (bt_set hi).2 (.inl rfl),
    fun q => (bt_set hi).2 (.inr (h.d129 (((bt_set hi).1 q).resolve_left (by decide)))),
    fun q => (bt_set hi).2 (.inr (h.d1312 (((bt_set hi).1 q).resolve_left (by decide)))),
    fun q => (bt_set hi).2 (.inr (h.d1210 (((bt_set hi).1 q).resolve_left (by decide)))),
    fun q => (bt_set hi).2 (.inr (h.d1311 (((bt_set hi).1 q).resolve_left (by decide))))⟩
theorem L5.op12 (h : L5 w0 g0 L X Y xs ys l s w) (hd129 : bt l 9) (b10 : bt l 10) (b11 : bt l 11) (n12 : ¬ bt l 12) {p : Nat} (hp : s 7 = .pointer (some ⟨p, 0, none⟩)) (hBp : w0.heap.size ≤ p) (hg : w.grownBy w' (some p)) (hX : LArr w' p X) : L5 w0 g0 L X Y xs ys (l.setIfInBounds 12 true) s w' := by
  have hi : 12 < l.size := by rw [h.sz]; decide
  exact ⟨by rw [Array.size_setIfInBounds]; exact h.sz,
    (bt_set hi).2 (.inr h.t0),
    (bt_set hi).2 (.inr h.t2),
    (bt_set hi).2 (.inr h.t5),
    (bt_set hi).2 (.inr h.t7),
    low_kept h.a0 hg (fun k e => by have := h.bb; have := Option.some.inj e; omega),
    h.bb,
    h.hb.grown hg h.hb.size (fun k e => by have := Option.some.inj e; omega),
    fun _ q => absurd ((bt_set hi).2 (.inr (h.d43 (h.d84 (h.d98 hd129))))) q,
    fun _ q => absurd ((bt_set hi).2 (.inr (h.d98 hd129))) q,
    fun q0 q1 q2 q3 => h.ne (((bt_set hi).1 q0).resolve_left (by decide)) (((bt_set hi).1 q1).resolve_left (by decide)) (fun q => q2 ((bt_set hi).2 (.inr q))) (fun q => q3 ((bt_set hi).2 (.inr q))),
    fun _ q => absurd ((bt_set hi).2 (.inr (h.d84 (h.d98 hd129)))) q,
    fun _ q => absurd ((bt_set hi).2 (.inr hd129)) q,
    fun q0 => h.i4 (((bt_set hi).1 q0).resolve_left (by decide)),
    fun q0 => h.i9 (((bt_set hi).1 q0).resolve_left (by decide)),
    fun q0 q1 => absurd ((bt_set hi).2 (.inl rfl)) q1,
    fun q0 q1 => (h.i11 (((bt_set hi).1 q0).resolve_left (by decide)) (fun q => q1 ((bt_set hi).2 (.inr q)))).kept_var (fun e => h.pq b10 b11 (hp.trans e.symm)) hg,
    fun _ => ⟨p, hp, hBp, hX⟩,
    fun q => absurd (h.d1312 (((bt_set hi).1 q).resolve_left (by decide))) n12,
    fun q0 q1 => h.pq (((bt_set hi).1 q0).resolve_left (by decide)) (((bt_set hi).1 q1).resolve_left (by decide)),
    fun q => (bt_set hi).2 (.inr (h.d43 (((bt_set hi).1 q).resolve_left (by decide)))),
    fun q => (bt_set hi).2 (.inr (h.d84 (((bt_set hi).1 q).resolve_left (by decide)))),
    fun q => (bt_set hi).2 (.inr (h.d98 (((bt_set hi).1 q).resolve_left (by decide)))),
    fun _ => (bt_set hi).2 (.inr hd129),
    fun _ => (bt_set hi).2 (.inl rfl),
    fun _ => (bt_set hi).2 (.inr b10),
    fun q => (bt_set hi).2 (.inr (h.d1311 (((bt_set hi).1 q).resolve_left (by decide))))⟩
theorem L5.op13 (h : L5 w0 g0 L X Y xs ys l s w) (hd1312 : bt l 12) (b10 : bt l 10) (b11 : bt l 11) {p : Nat} (hp : s 8 = .pointer (some ⟨p, 0, none⟩)) (hBp : w0.heap.size ≤ p) (hg : w.grownBy w' (some p)) (hY : LArr w' p Y) : L5 w0 g0 L X Y xs ys (l.setIfInBounds 13 true) s w' := by
  have hi : 13 < l.size := by rw [h.sz]; decide
  exact ⟨by rw [Array.size_setIfInBounds]; exact h.sz,
    (bt_set hi).2 (.inr h.t0),
    (bt_set hi).2 (.inr h.t2),
    (bt_set hi).2 (.inr h.t5),
    (bt_set hi).2 (.inr h.t7),
    low_kept h.a0 hg (fun k e => by have := h.bb; have := Option.some.inj e; omega),
    h.bb,
    h.hb.grown hg h.hb.size (fun k e => by have := Option.some.inj e; omega),
    fun _ q => absurd ((bt_set hi).2 (.inr (h.d43 (h.d84 (h.d98 (h.d129 hd1312)))))) q,
    fun _ q => absurd ((bt_set hi).2 (.inr (h.d98 (h.d129 hd1312)))) q,
    fun q0 q1 q2 q3 => h.ne (((bt_set hi).1 q0).resolve_left (by decide)) (((bt_set hi).1 q1).resolve_left (by decide)) (fun q => q2 ((bt_set hi).2 (.inr q))) (fun q => q3 ((bt_set hi).2 (.inr q))),
    fun _ q => absurd ((bt_set hi).2 (.inr (h.d84 (h.d98 (h.d129 hd1312))))) q,
    fun _ q => absurd ((bt_set hi).2 (.inr (h.d129 hd1312))) q,
    fun q0 => h.i4 (((bt_set hi).1 q0).resolve_left (by decide)),
    fun q0 => h.i9 (((bt_set hi).1 q0).resolve_left (by decide)),
    fun _ q => absurd ((bt_set hi).2 (.inr hd1312)) q,
    fun q0 q1 => absurd ((bt_set hi).2 (.inl rfl)) q1,
    fun _ => (h.i12 hd1312).kept_var (fun e => h.pq b10 b11 (e.trans hp.symm)) hg,
    fun _ => ⟨p, hp, hBp, hY⟩,
    fun q0 q1 => h.pq (((bt_set hi).1 q0).resolve_left (by decide)) (((bt_set hi).1 q1).resolve_left (by decide)),
    fun q => (bt_set hi).2 (.inr (h.d43 (((bt_set hi).1 q).resolve_left (by decide)))),
    fun q => (bt_set hi).2 (.inr (h.d84 (((bt_set hi).1 q).resolve_left (by decide)))),
    fun q => (bt_set hi).2 (.inr (h.d98 (((bt_set hi).1 q).resolve_left (by decide)))),
    fun q => (bt_set hi).2 (.inr (h.d129 (((bt_set hi).1 q).resolve_left (by decide)))),
    fun _ => (bt_set hi).2 (.inr hd1312),
    fun q => (bt_set hi).2 (.inr (h.d1210 (((bt_set hi).1 q).resolve_left (by decide)))),
    fun _ => (bt_set hi).2 (.inr b11)⟩
theorem L5.fresh6 (h : L5 w0 g0 L X Y xs ys l s w) (b6 : bt l 6) (n8 : ¬ bt l 8) : .slice (some ⟨w.heap.size, 0, none⟩) 0 0 ≠ s 36 := by
  obtain ⟨_, g, e, _, hg⟩ := h.i6 b6 n8
  intro q
  rw [e] at q
  have := congrArg Value.ownBlock q
  simp [Value.ownBlock] at this
  omega
theorem L5.fresh1 (h : L5 w0 g0 L X Y xs ys l s w) (b1 : bt l 1) (n3 : ¬ bt l 3) : s 31 ≠ .slice (some ⟨w.heap.size, 0, none⟩) 0 0 := by
  obtain ⟨_, g, e, _, hg⟩ := h.i1 b1 n3
  intro q
  rw [e] at q
  have := congrArg Value.ownBlock q
  simp [Value.ownBlock] at this
  omega
theorem L5.fresh10 (h : L5 w0 g0 L X Y xs ys l s w) (b10 : bt l 10) : s 7 ≠ .pointer (some ⟨w.heap.size, 0, none⟩) := by
  have hv : ∃ M, Var32 w w0.heap.size (s 7) M := by
    by_cases b12 : bt l 12
    · exact ⟨_, h.i12 b12⟩
    · exact ⟨_, h.i10 b10 b12⟩
  obtain ⟨M, p, e, _, hA⟩ := hv
  intro q
  rw [e] at q
  injection q with q1
  injection q1 with q2
  injection q2 with q3
  have := hA.lt
  omega
theorem L5.fresh11 (h : L5 w0 g0 L X Y xs ys l s w) (b11 : bt l 11) : .pointer (some ⟨w.heap.size, 0, none⟩) ≠ s 8 := by
  have hv : ∃ M, Var32 w w0.heap.size (s 8) M := by
    by_cases b13 : bt l 13
    · exact ⟨_, h.i13 b13⟩
    · exact ⟨_, h.i11 b11 b13⟩
  obtain ⟨M, p, e, _, hA⟩ := hv
  intro q
  rw [e] at q
  injection q with q1
  injection q1 with q2
  injection q2 with q3
  have := hA.lt
  omega
end
end Go.Proofs.Ytdmganpblkepfaa
