/- Words for a block of cells of which the whole is known (a struct behind a pointer, a row of numbers, a row of arrays): what loading and storing one cell leaves. No condition. -/
import Derived.Test.YtdmganpblkepfaaBase
import Derived.Deep.WholeRow
import Derived.BigFrame
import Derived.Maps.AppendAt
namespace Go.Proofs.Ytdmganpblkepfaa
open Go.RowKit

/-- in block g lie the cells cs, of a variable or a row of type t -/
def Blk (w : World) (g : Nat) (t : TypeId) (cs : List Value) : Prop := w.heap[g]? = some (.cells cs.toArray t (0, 0))
section
variable {w w' : World} {g B : Nat} {t : TypeId} {cs : List Value}
theorem Blk.lt (h : Blk w g t cs) : g < w.heap.size := by
  rcases Nat.lt_or_ge g w.heap.size with h' | h'
  · exact h'
  · have := h
    unfold Blk at this
    rw [Array.getElem?_eq_none h'] at this
    cases this
theorem Blk.below (h : Blk w g t cs) (hb : Below B w w') (hg : g < B) : Blk w' g t cs := (hb.block g hg).trans h
theorem Blk.after (h : Blk w g t cs) (hb : Below w.heap.size w w') : Blk w' g t cs := h.below hb h.lt
theorem Blk.alloc (h : Blk w g t cs) (o : Obj) : Blk (w.alloc o) g t cs := h.after ((Below.refl _ _).alloc (Nat.le_refl _) o)
theorem Blk.drew (h : Blk w g t cs) : Blk w.drew g t cs := h
theorem Blk.new (w : World) (t : TypeId) (cs : List Value) : Blk (w.alloc (.cells cs.toArray t)) w.heap.size t cs := heap_alloc_last w _
theorem Blk.grown {row : Option Nat} (h : Blk w g t cs) (hg : w.grownBy w' row) (hk : some g ≠ row) : Blk w' g t cs := (hg.block g h.lt hk).trans h
theorem Blk.cell (h : Blk w g t cs) (k : Nat) : w.cell? ⟨g, k, none⟩ = cs[k]? := by
  unfold Blk at h
  simp [World.cell?, h]
theorem Blk.free (h : Blk w g t cs) (k : Nat) : w.frozen? ⟨g, k, none⟩ = false := frozen_of_row w g k _ _ h
theorem Blk.set (h : Blk w g t cs) (k : Nat) (v : Value) : Blk (w.setCell ⟨g, k, none⟩ v) g t (cs.set k v) := by
  unfold Blk
  rw [← List.setIfInBounds_toArray]
  exact heap_setCell_same w g k _ _ _ h
theorem Blk.other (h : Blk w g t cs) (a : Addr) (v : Value) (hne : g ≠ a.block) : Blk (w.setCell a v) g t cs := (heap_setCell_other w a g v hne).trans h
/-- a value of one cell is loaded from the block -/
theorem wpl_blk_load {P : Program} {ops : Array Oper} {rest : List Oper} {o : Oper} {a : Act} {Q : Exit → Act → World → Prop} {ty : TypeId} {v : Value} (hag : ∀ w, (isAgg ty).run P w = .ok false w)
    (x : Operand) (ho : o.op = .load ty x) (hgd : Region.wanted o (yielded ops a.tmps) = true) (hB : Blk w g t cs) (i : Nat) (hv : cs[i]? = some v) (hx : a.eval x = .pointer (some ⟨g, i, none⟩))
    (h : wpList P ops Q rest (a.put o.dst v) w) : wpList P ops Q (o :: rest) a w := by
  have hc : w.cell? ⟨g, i, none⟩ = some v := (hB.cell i).trans hv
  have hs : (loadVar ty ⟨g, i, none⟩).run P w = .ok v w := by
    simp [loadVar, Sem.run_bind, hag, run_load, hc]
  refine BigFrame.wpList_want hgd fun K hK => ?_
  unfold Oper.wp execOp
  simp only [ho, hx, Instr.loadAt, Instr.sureAddr, Sem.run_bind, Sem.run_pure, Result.andThen_ok, hs]
  exact hK _ _ h
/-- a value of one cell is stored into the block -/
theorem wpl_blk {P : Program} {ops : Array Oper} {rest : List Oper} {o : Oper} {a : Act} {Q : Exit → Act → World → Prop} {ty : TypeId} {v : Value} (hsz : ∀ w, (sizeOf ty).run P w = .ok 1 w) (h1 : v.oneCell' = true) (h2 : v.cells = #[v])
    (x y : Operand) (ho : o.op = .store ty x y) (hgd : Region.wanted o (yielded ops a.tmps) = true)
    (hB : Blk w g t cs) (i : Nat) (hi : i < cs.length) (hx : a.eval x = .pointer (some ⟨g, i, none⟩)) (hy : a.eval y = v)
    (h : ∀ w', Blk w' g t (cs.set i v) → w.grownBy w' (some g) → w'.heap.size = w.heap.size → wpList P ops Q rest (a.put o.dst undef) w') : wpList P ops Q (o :: rest) a w := by
  have hc : w.cell? ⟨g, i, none⟩ = some (cs[i]'hi) := (hB.cell i).trans (List.getElem?_eq_getElem hi)
  have hs : (storeVar ty ⟨g, i, none⟩ v).run P w = .ok () (w.setCell ⟨g, i, none⟩ v) := by
    have h0 : (⟨g, i, none⟩ : Addr).add 0 = ⟨g, i, none⟩ := by simp [Addr.add]
    simp [storeVar, Sem.run_bind, hsz, h2, storeCells, h0, run_store _ _ _ _ _ h1, hc, hB.free i]
  refine BigFrame.wpList_want hgd fun K hK => ?_
  unfold Oper.wp execOp
  simp only [ho, hx, hy, Instr.storeAt, Instr.sureAddr, Sem.run_bind, Sem.run_pure, Result.andThen_ok, hs]
  exact hK _ _ (h _ (hB.set i v) ⟨rfl, rfl, rfl, by simp, fun k _ hk => heap_setCell_other w _ k _ (by simpa using hk)⟩ (by simp))
/-- .. a number -/
theorem wpl_blk_int {P : Program} {ops : Array Oper} {rest : List Oper} {o : Oper} {a : Act} {Q : Exit → Act → World → Prop} {ty : TypeId} (k : IntKind) (z : Int) (hsz : ∀ w, (sizeOf ty).run P w = .ok 1 w)
    (x y : Operand) (ho : o.op = .store ty x y) (hgd : Region.wanted o (yielded ops a.tmps) = true)
    (hB : Blk w g t cs) (i : Nat) (hi : i < cs.length) (hx : a.eval x = .pointer (some ⟨g, i, none⟩)) (hy : a.eval y = .int k z) (cs' : List Value) (hcs : cs.set i (.int k z) = cs')
    (h : ∀ w', Blk w' g t cs' → w.grownBy w' (some g) → w'.heap.size = w.heap.size → wpList P ops Q rest (a.put o.dst undef) w') : wpList P ops Q (o :: rest) a w :=
  wpl_blk hsz (by rfl) (by rfl) x y ho hgd hB i hi hx hy (hcs ▸ h)
/-- .. a truth -/
theorem wpl_blk_bool {P : Program} {ops : Array Oper} {rest : List Oper} {o : Oper} {a : Act} {Q : Exit → Act → World → Prop} {ty : TypeId} (b : Bool) (hsz : ∀ w, (sizeOf ty).run P w = .ok 1 w)
    (x y : Operand) (ho : o.op = .store ty x y) (hgd : Region.wanted o (yielded ops a.tmps) = true)
    (hB : Blk w g t cs) (i : Nat) (hi : i < cs.length) (hx : a.eval x = .pointer (some ⟨g, i, none⟩)) (hy : a.eval y = .bool b) (cs' : List Value) (hcs : cs.set i (.bool b) = cs')
    (h : ∀ w', Blk w' g t cs' → w.grownBy w' (some g) → w'.heap.size = w.heap.size → wpList P ops Q rest (a.put o.dst undef) w') : wpList P ops Q (o :: rest) a w :=
  wpl_blk hsz (by rfl) (by rfl) x y ho hgd hB i hi hx hy (hcs ▸ h)
end
end Go.Proofs.Ytdmganpblkepfaa
