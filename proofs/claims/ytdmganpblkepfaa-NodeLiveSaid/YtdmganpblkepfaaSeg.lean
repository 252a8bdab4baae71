/- A value of many cells (a struct, an array) out of a block and into one, wherever it stands there. No condition. -/
import Derived.Test.YtdmganpblkepfaaBlk
import Derived.Laws.CopyRow
namespace Go.Proofs.Ytdmganpblkepfaa
open Go.RowKit
section
variable {P : Program} {w w' : World} {g i n : Nat} {t ty : TypeId} {cs vs : List Value}
/-- cs with the cells from i on as vs tells -/
def segSet (cs : List Value) (i : Nat) (vs : List Value) : List Value := cs.take i ++ vs ++ cs.drop (i + vs.length)
theorem segSet_length (h : i + vs.length ≤ cs.length) : (segSet cs i vs).length = cs.length := by
  simp [segSet]; omega
theorem add_off (g i j : Nat) : (⟨g, i, none⟩ : Addr).add j = ⟨g, i + j, none⟩ := by unfold Addr.add; split <;> simp_all
theorem seg_load (hag : ∀ w, (isAgg ty).run P w = .ok true w) (hsz : ∀ w, (sizeOf ty).run P w = .ok n w) (hB : Blk w g t cs) (hv : (cs.drop i).take n = vs) (hn : vs.length = n) :
    (loadVar ty ⟨g, i, none⟩).run P w = .ok (.agg vs.toArray) w := by
  have h1 := run_loadCells_list (P := P) w ⟨g, i, none⟩ vs (fun j v hj => by
    rw [add_off, hB.cell]
    rw [← hv, List.getElem?_take] at hj
    split at hj
    · rw [List.getElem?_drop] at hj
      exact hj
    · cases hj)
  rw [hn] at h1
  unfold loadVar
  simp only [Sem.run_bind, hag, Result.andThen_ok, if_true, hsz, Sem.run_pure, h1]
theorem seg_store (hsz : ∀ w, (sizeOf ty).run P w = .ok n w) (hB : Blk w g t cs) (hn : vs.length = n) (hi : i + n ≤ cs.length) (h1 : ∀ v ∈ vs, v.oneCell' = true) :
    (storeVar ty ⟨g, i, none⟩ (.agg vs.toArray)).run P w = .ok () (w.setRow g (segSet cs i vs).toArray) := by
  have h := run_storeCells_at P g i t vs 0 cs.toArray w hB (by simp; omega) h1
  unfold storeVar
  simp only [Sem.run_bind, hsz, Result.andThen_ok, Value.cells, List.size_toArray, hn]
  rw [if_neg (by simp)]
  simpa [segSet] using h
theorem Blk.seg (hB : Blk w g t cs) (vs : List Value) : Blk (w.setRow g vs.toArray) g t vs ∧ w.grownBy (w.setRow g vs.toArray) (some g) ∧ (w.setRow g vs.toArray).heap.size = w.heap.size :=
  ⟨setRow_heap w g cs.toArray vs.toArray _ _ hB, ⟨rfl, rfl, rfl, by simp, fun k _ hk => setRow_other w g k vs.toArray (by simpa using hk)⟩, by simp⟩
/-- .. as the walk meets it -/
theorem wpl_seg_load {ops : Array Oper} {rest : List Oper} {o : Oper} {a : Act} {Q : Exit → Act → World → Prop} (hag : ∀ w, (isAgg ty).run P w = .ok true w) (hsz : ∀ w, (sizeOf ty).run P w = .ok n w)
    (x : Operand) (ho : o.op = .load ty x) (hgd : Region.wanted o (yielded ops a.tmps) = true) (hB : Blk w g t cs) (i : Nat) (vs : List Value) (hv : (cs.drop i).take n = vs) (hn : vs.length = n) (hx : a.eval x = .pointer (some ⟨g, i, none⟩))
    (h : wpList P ops Q rest (a.put o.dst (.agg vs.toArray)) w) : wpList P ops Q (o :: rest) a w := by
  refine BigFrame.wpList_want hgd fun K hK => ?_
  unfold Oper.wp execOp
  simp only [ho, hx, Instr.loadAt, Instr.sureAddr, Sem.run_bind, Sem.run_pure, Result.andThen_ok, seg_load hag hsz hB hv hn]
  exact hK _ _ h
theorem wpl_seg_store {ops : Array Oper} {rest : List Oper} {o : Oper} {a : Act} {Q : Exit → Act → World → Prop} (hsz : ∀ w, (sizeOf ty).run P w = .ok n w)
    (x y : Operand) (ho : o.op = .store ty x y) (hgd : Region.wanted o (yielded ops a.tmps) = true) (hB : Blk w g t cs) (i : Nat) (vs : List Value) (hn : vs.length = n) (hi : i + n ≤ cs.length) (h1 : ∀ v ∈ vs, v.oneCell' = true) (hx : a.eval x = .pointer (some ⟨g, i, none⟩)) (hy : a.eval y = .agg vs.toArray)
    (cs' : List Value) (hcs : segSet cs i vs = cs')
    (h : ∀ w', Blk w' g t cs' → w.grownBy w' (some g) → w'.heap.size = w.heap.size → wpList P ops Q rest (a.put o.dst undef) w') : wpList P ops Q (o :: rest) a w := by
  subst hcs
  obtain ⟨r1, r2, r3⟩ := hB.seg (segSet cs i vs)
  refine BigFrame.wpList_want hgd fun K hK => ?_
  unfold Oper.wp execOp
  simp only [ho, hx, hy, Instr.storeAt, Instr.sureAddr, Sem.run_bind, Sem.run_pure, Result.andThen_ok, seg_store hsz hB hn hi h1]
  exact hK _ _ (h _ r1 r2 r3)
/-- one result, of many cells -/
theorem sret1 {fn : Func} {p : Tmp} (hag : ∀ w, (isAgg ty).run P w = .ok true w) (hsz : ∀ w, (sizeOf ty).run P w = .ok n w) (h : fn.results = #[.cell p ty]) (tmps : Array Value) (hB : Blk w g t cs) (hv : (cs.drop i).take n = vs) (hn : vs.length = n) (hp : tmps.getD p undef = .pointer (some ⟨g, i, none⟩)) :
    (results fn tmps).run P w = .ok (.agg vs.toArray) w := by
  have hp' : tmps[p]?.getD undef = .pointer (some ⟨g, i, none⟩) := by simpa using hp
  simp [results, h, hp', asAddr, seg_load hag hsz hB hv hn]
/-- two results: one of many cells, and another one -/
theorem sret2 {fn : Func} {p u : Tmp} (hag : ∀ w, (isAgg ty).run P w = .ok true w) (hsz : ∀ w, (sizeOf ty).run P w = .ok n w) (h : fn.results = #[.cell p ty, .tmp u]) (tmps : Array Value) (hB : Blk w g t cs) (hv : (cs.drop i).take n = vs) (hn : vs.length = n) (hp : tmps.getD p undef = .pointer (some ⟨g, i, none⟩)) :
    (results fn tmps).run P w = .ok (.tuple #[.agg vs.toArray, tmps.getD u undef]) w := by
  have hp' : tmps[p]?.getD undef = .pointer (some ⟨g, i, none⟩) := by simpa using hp
  simp [results, h, hp', asAddr, seg_load hag hsz hB hv hn]
end
end Go.Proofs.Ytdmganpblkepfaa
