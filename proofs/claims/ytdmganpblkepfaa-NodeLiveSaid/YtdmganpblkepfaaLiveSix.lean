/- The invariant of the region of NodeLive that lays x and y: what is known when some of its operations have come up. No condition. (written by gen_live6.py) -/
import Derived.Test.YtdmganpblkepfaaLiveFive
namespace Go.Proofs.Ytdmganpblkepfaa
open Go.RowKit
structure L6 (w0 : World) (L : List UInt8) (l : Array Bool) (s : Nat → Value) (w : World) : Prop where
  sz : l.size = 6
  t0 : bt l 0
  t1 : bt l 1
  hb : Below w0.heap.size w0 w
  i2 : bt l 2 → ¬ bt l 4 → Var32 w w0.heap.size (s 9) lzeros
  i3 : bt l 3 → ¬ bt l 5 → Var32 w w0.heap.size (s 10) lzeros
  i4 : bt l 4 → Var32 w w0.heap.size (s 9) L
  i5 : bt l 5 → Var32 w w0.heap.size (s 10) L
  pq : bt l 2 → bt l 3 → s 9 ≠ s 10
  d42 : bt l 4 → bt l 2
  d53 : bt l 5 → bt l 3
  d54 : bt l 5 → bt l 4
section
variable {w0 w w' : World} {B : Nat} {L M : List UInt8} {l : Array Bool} {s : Nat → Value} {v : Value}
theorem L6.after (h : L6 w0 L l s w) (hb : Below w.heap.size w w') : L6 w0 L l s w' :=
  ⟨h.sz, h.t0, h.t1, h.hb.trans (hb.mono h.hb.size), fun a b => (h.i2 a b).after hb, fun a b => (h.i3 a b).after hb, fun a => (h.i4 a).after hb, fun a => (h.i5 a).after hb, h.pq, h.d42, h.d53, h.d54⟩
theorem Var32.fresh (h : Var32 w B v M) : v ≠ .pointer (some ⟨w.heap.size, 0, none⟩) := by
  obtain ⟨p, rfl, _, hA⟩ := h
  intro q
  injection q with q1
  injection q1 with q2
  injection q2 with q3
  have := hA.lt
  omega
theorem L6.fresh9 (h : L6 w0 L l s w) (b : bt l 2) : s 9 ≠ .pointer (some ⟨w.heap.size, 0, none⟩) := by
  by_cases b4 : bt l 4
  · exact (h.i4 b4).fresh
  · exact (h.i2 b b4).fresh
theorem L6.fresh10 (h : L6 w0 L l s w) (b : bt l 3) : s 10 ≠ .pointer (some ⟨w.heap.size, 0, none⟩) := by
  by_cases b5 : bt l 5
  · exact (h.i5 b5).fresh
  · exact (h.i3 b b5).fresh
theorem L6.op2 (h : L6 w0 L l s w) (n4 : ¬ bt l 4) (hv : Var32 w w0.heap.size v lzeros) (hne : bt l 3 → v ≠ s 10) : L6 w0 L (l.setIfInBounds 2 true) (upd s 9 v) w := by
  have hi : 2 < l.size := by rw [h.sz]; decide
  exact ⟨by rw [Array.size_setIfInBounds]; exact h.sz,
    (bt_set hi).2 (.inr h.t0),
    (bt_set hi).2 (.inr h.t1),
    h.hb,
    fun _ _ => by rw [upd_at s 9 _]; exact hv,
    fun q0 q1 => by simpa only [upd_ne s _ (show (10 : Nat) ≠ 9 by decide)] using h.i3 (((bt_set hi).1 q0).resolve_left (by decide)) (fun q => q1 ((bt_set hi).2 (.inr q))),
    fun q => absurd (((bt_set hi).1 q).resolve_left (by decide)) n4,
    fun q0 => by simpa only [upd_ne s _ (show (10 : Nat) ≠ 9 by decide)] using h.i5 (((bt_set hi).1 q0).resolve_left (by decide)),
    fun _ q1 => by rw [upd_at s 9 _, upd_ne s _ (show (10 : Nat) ≠ 9 by decide)]; exact hne (((bt_set hi).1 q1).resolve_left (by decide)),
    fun _ => (bt_set hi).2 (.inl rfl),
    fun q => (bt_set hi).2 (.inr (h.d53 (((bt_set hi).1 q).resolve_left (by decide)))),
    fun q => (bt_set hi).2 (.inr (h.d54 (((bt_set hi).1 q).resolve_left (by decide))))⟩
theorem L6.op3 (h : L6 w0 L l s w) (n5 : ¬ bt l 5) (hv : Var32 w w0.heap.size v lzeros) (hne : bt l 2 → s 9 ≠ v) : L6 w0 L (l.setIfInBounds 3 true) (upd s 10 v) w := by
  have hi : 3 < l.size := by rw [h.sz]; decide
  exact ⟨by rw [Array.size_setIfInBounds]; exact h.sz,
    (bt_set hi).2 (.inr h.t0),
    (bt_set hi).2 (.inr h.t1),
    h.hb,
    fun q0 q1 => by simpa only [upd_ne s _ (show (9 : Nat) ≠ 10 by decide)] using h.i2 (((bt_set hi).1 q0).resolve_left (by decide)) (fun q => q1 ((bt_set hi).2 (.inr q))),
    fun _ _ => by rw [upd_at s 10 _]; exact hv,
    fun q0 => by simpa only [upd_ne s _ (show (9 : Nat) ≠ 10 by decide)] using h.i4 (((bt_set hi).1 q0).resolve_left (by decide)),
    fun q => absurd (((bt_set hi).1 q).resolve_left (by decide)) n5,
    fun q0 _ => by rw [upd_at s 10 _, upd_ne s _ (show (9 : Nat) ≠ 10 by decide)]; exact hne (((bt_set hi).1 q0).resolve_left (by decide)),
    fun q => (bt_set hi).2 (.inr (h.d42 (((bt_set hi).1 q).resolve_left (by decide)))),
    fun _ => (bt_set hi).2 (.inl rfl),
    fun q => (bt_set hi).2 (.inr (h.d54 (((bt_set hi).1 q).resolve_left (by decide))))⟩
theorem L6.op4 (h : L6 w0 L l s w) (b2 : bt l 2) (b3 : bt l 3) (n4 : ¬ bt l 4) {p : Nat} (hp : s 9 = .pointer (some ⟨p, 0, none⟩)) (hBp : w0.heap.size ≤ p) (hg : w.grownBy w' (some p)) (hX : LArr w' p L) : L6 w0 L (l.setIfInBounds 4 true) s w' := by
  have hi : 4 < l.size := by rw [h.sz]; decide
  exact ⟨by rw [Array.size_setIfInBounds]; exact h.sz,
    (bt_set hi).2 (.inr h.t0),
    (bt_set hi).2 (.inr h.t1),
    h.hb.grown hg h.hb.size (fun k e => by have := Option.some.inj e; omega),
    fun q0 q1 => absurd ((bt_set hi).2 (.inl rfl)) q1,
    fun q0 q1 => (h.i3 (((bt_set hi).1 q0).resolve_left (by decide)) (fun q => q1 ((bt_set hi).2 (.inr q)))).kept_var (fun e => h.pq b2 b3 (hp.trans e.symm)) hg,
    fun _ => ⟨p, hp, hBp, hX⟩,
    fun q => absurd (h.d54 (((bt_set hi).1 q).resolve_left (by decide))) n4,
    fun q0 q1 => h.pq (((bt_set hi).1 q0).resolve_left (by decide)) (((bt_set hi).1 q1).resolve_left (by decide)),
    fun _ => (bt_set hi).2 (.inr b2),
    fun q => (bt_set hi).2 (.inr (h.d53 (((bt_set hi).1 q).resolve_left (by decide)))),
    fun _ => (bt_set hi).2 (.inl rfl)⟩
theorem L6.op5 (h : L6 w0 L l s w) (b2 : bt l 2) (b3 : bt l 3) (b4 : bt l 4) {p : Nat} (hp : s 10 = .pointer (some ⟨p, 0, none⟩)) (hBp : w0.heap.size ≤ p) (hg : w.grownBy w' (some p)) (hX : LArr w' p L) : L6 w0 L (l.setIfInBounds 5 true) s w' := by
  have hi : 5 < l.size := by rw [h.sz]; decide
  exact ⟨by rw [Array.size_setIfInBounds]; exact h.sz,
    (bt_set hi).2 (.inr h.t0),
    (bt_set hi).2 (.inr h.t1),
    h.hb.grown hg h.hb.size (fun k e => by have := Option.some.inj e; omega),
    fun _ q => absurd ((bt_set hi).2 (.inr b4)) q,
    fun q0 q1 => absurd ((bt_set hi).2 (.inl rfl)) q1,
    fun _ => (h.i4 b4).kept_var (fun e => h.pq b2 b3 (e.trans hp.symm)) hg,
    fun _ => ⟨p, hp, hBp, hX⟩,
    fun q0 q1 => h.pq (((bt_set hi).1 q0).resolve_left (by decide)) (((bt_set hi).1 q1).resolve_left (by decide)),
    fun q => (bt_set hi).2 (.inr (h.d42 (((bt_set hi).1 q).resolve_left (by decide)))),
    fun _ => (bt_set hi).2 (.inr b3),
    fun _ => (bt_set hi).2 (.inr b4)⟩
end
end Go.Proofs.Ytdmganpblkepfaa
