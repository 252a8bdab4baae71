/- A value of many cells in a region that draws its order. No condition. -/
import Derived.Test.YtdmganpblkepfaaSeg
import Derived.Deep.RegionHeld3
import Derived.StillTailTactics
namespace Go.Proofs.Ytdmganpblkepfaa
open Go.RowKit
/-- from here on more is known of the world -/
theorem wpAnyH_weaken {P : Program} {md : Region.Mode} {ops : Array Oper} {Q : Exit → Act → World → Prop} {S S' : World → Prop} (hS : ∀ w, S' w → S w) : ∀ (fuel : Nat) (listed : Array Bool) (a : Act) (w : World), wpAnyH P md ops Q S' fuel listed a w → wpAnyH P md ops Q S fuel listed a w
  | 0, _, _, _, h => h
  | fuel + 1, _, _, _, h => ⟨h.1, fun i hi => wpOp_mono (fun a' w' h' => ⟨hS w' h'.1, wpAnyH_weaken hS fuel _ a' w' h'.2⟩) (h.2 i hi)⟩
/-- a value of many cells is loaded: it may be taken first -/
theorem yields_seg {P : Program} {ops : Array Oper} {o : Oper} {a : Act} {S : World → Prop} {ty t : TypeId} {g i n : Nat} {cs vs : List Value} (hag : ∀ w, (isAgg ty).run P w = .ok true w) (hsz : ∀ w, (sizeOf ty).run P w = .ok n w) (x : Operand) (ho : o.op = .load ty x) (hgd : Region.wanted o (yielded ops a.tmps) = true)
    (hx : a.eval x = .pointer (some ⟨g, i, none⟩)) (hS : ∀ w, S w → Blk w g t cs) (hv : (cs.drop i).take n = vs) (hn : vs.length = n) : YieldsIf P ops S o (.agg vs.toArray) a :=
  .inl ⟨hgd, fun w hw => by
    unfold execOp
    simp only [ho, hx, Instr.loadAt, Instr.sureAddr, Sem.run_bind, Sem.run_pure, Result.andThen_ok, seg_load hag hsz (hS w hw) hv hn]⟩
/-- .. it is stored, at the operation itself -/
theorem op_seg_store {P : Program} {ty t : TypeId} {g n : Nat} {cs vs : List Value} {o : Oper} {a : Act} {w : World} {K : Act → World → Prop} {Q : Exit → Act → World → Prop} (hsz : ∀ w, (sizeOf ty).run P w = .ok n w)
    (x y : Operand) (ho : o.op = .store ty x y) (hB : Blk w g t cs) (i : Nat) (hn : vs.length = n) (hi : i + n ≤ cs.length) (h1 : ∀ v ∈ vs, v.oneCell' = true) (hx : a.eval x = .pointer (some ⟨g, i, none⟩)) (hy : a.eval y = .agg vs.toArray)
    (cs' : List Value) (hcs : segSet cs i vs = cs') (h : ∀ w', Blk w' g t cs' → w.grownBy w' (some g) → w'.heap.size = w.heap.size → K (a.put o.dst undef) w') : Oper.wp P o a w K Q := by
  subst hcs
  obtain ⟨r1, r2, r3⟩ := hB.seg (segSet cs i vs)
  unfold Oper.wp execOp
  simp only [ho, hx, hy, Instr.storeAt, Instr.sureAddr, Sem.run_bind, Sem.run_pure, Result.andThen_ok, seg_store hsz hB hn hi h1]
  exact h _ r1 r2 r3
/-- .. it is loaded in a region that is walked in the text's order ('go_still_tail') -/
theorem wpStill_seg {P : Program} {ops : Array Oper} {w : World} {Q : Act → Prop} {a : Act} {o : Oper} {rest : List Oper} {ty t : TypeId} {g i n : Nat} {cs vs : List Value} (hag : ∀ w, (isAgg ty).run P w = .ok true w) (hsz : ∀ w, (sizeOf ty).run P w = .ok n w) (x : Operand) (ho : o.op = .load ty x)
    (hgd : Region.wanted o (yielded ops a.tmps) = true) (hB : Blk w g t cs) (hv : (cs.drop i).take n = vs) (hn : vs.length = n) (hx : a.eval x = .pointer (some ⟨g, i, none⟩)) (h : wpStill P ops w Q rest (a.put o.dst (.agg vs.toArray))) : wpStill P ops w Q (o :: rest) a := by
  rw [wpStill, if_pos hgd]
  unfold Oper.still execOp
  simp only [ho, hx, Instr.loadAt, Instr.sureAddr, Sem.run_bind, Sem.run_pure, Result.andThen_ok, seg_load hag hsz hB hv hn]
  rw [Oper.stillUpon_value]
  exact h
/-- the one operation that is ready, by its place -/
theorem wpAnyH_step {P : Program} {md : Region.Mode} {ops : Array Oper} {Q : Exit → Act → World → Prop} {S : World → Prop} {fuel : Nat} {listed : Array Bool} {a : Act} {w : World} (i : Nat) (hr : Region.ready md ops listed = [i]) (hi : decide (i < ops.size) = true)
    (hgd : Region.wanted (ops[i]'(of_decide_eq_true hi)) (yielded ops a.tmps) = true)
    (h : ∀ K' : Act → World → Prop, Shut (∀ a w, S w → (S w → wpAnyH P md ops Q S fuel (listed.setIfInBounds i true) a w) → K' a w) → Oper.wp P (ops[i]'(of_decide_eq_true hi)) a w K' Q) : wpAnyH P md ops Q S (fuel + 1) listed a w :=
  wpAnyH_ready hr (by simp) (AllReadyH.cons (Array.getElem?_eq_getElem (of_decide_eq_true hi)) (fun K hK => by rw [if_pos hgd]; exact h K hK) AllReadyH.nil)
/-- .. it is stored at a step of a region that draws its order -/
theorem step_seg_store {P : Program} {ty t : TypeId} {g n : Nat} {cs vs : List Value} {ops : Array Oper} {o : Oper} {a : Act} {w : World} {K : Act → World → Prop} {Q : Exit → Act → World → Prop} {E : Prop} (hsz : ∀ w, (sizeOf ty).run P w = .ok n w) (hgd : Region.wanted o (yielded ops a.tmps) = true)
    (x y : Operand) (ho : o.op = .store ty x y) (hB : Blk w g t cs) (i : Nat) (hn : vs.length = n) (hi : i + n ≤ cs.length) (h1 : ∀ v ∈ vs, v.oneCell' = true) (hx : a.eval x = .pointer (some ⟨g, i, none⟩)) (hy : a.eval y = .agg vs.toArray)
    (cs' : List Value) (hcs : segSet cs i vs = cs') (h : ∀ w', Blk w' g t cs' → w.grownBy w' (some g) → w'.heap.size = w.heap.size → K (a.put o.dst undef) w') :
    if Region.wanted o (yielded ops a.tmps) = true then Oper.wp P o a w K Q else E := by
  rw [if_pos hgd]
  exact op_seg_store hsz x y ho hB i hn hi h1 hx hy cs' hcs h
/-- .. all its cells are stored -/
theorem seg_cells {P : Program} {w : World} {g : Nat} {t : TypeId} {cs vs : List Value} (hB : Blk w g t cs) (hl : cs.length = vs.length) (h1 : ∀ v ∈ vs, v.oneCell' = true) :
    ∃ w', (storeCells ⟨g, 0, none⟩ vs).run P w = .ok () w' ∧ Blk w' g t vs ∧ w.grownBy w' (some g) ∧ w'.heap.size = w.heap.size := by
  have h := run_storeCells_at P g 0 t vs 0 cs.toArray w hB (by simp; omega) h1
  have e : (cs.toArray.toList.take (0 + 0) ++ vs ++ cs.toArray.toList.drop (0 + 0 + vs.length)) = vs := by simp [List.drop_eq_nil_of_le (Nat.le_of_eq hl)]
  rw [e] at h
  obtain ⟨r1, r2, r3⟩ := hB.seg vs
  exact ⟨_, h, r1, r2, r3⟩
end Go.Proofs.Ytdmganpblkepfaa
