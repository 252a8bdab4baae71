/- Layer 13: chips that are handed in as a slice; a chip of an epoch. No condition but that a set has 32 bytes. -/
import Derived.Test.YticigjkaangkmaaQElectR
import Derived.Great.BuildSlice
namespace Go.Proofs.Yticigjkaangkmaa
open Go Go.RowKit
theorem foldSet (off : Nat) : ∀ (vs : List Value) (k : Nat) (cs : Array Value), off + k + vs.length ≤ cs.size → (vs.zipIdx k).foldl (fun cs (x : Value × Nat) => cs.setIfInBounds (off + x.2) x.1) cs = (cs.toList.take (off + k) ++ vs ++ cs.toList.drop (off + k + vs.length)).toArray
  | [], k, cs, _ => by simp
  | v :: vs, k, cs, h => by
    rw [List.length_cons] at h
    rw [List.zipIdx_cons, List.foldl_cons, foldSet off vs (k + 1) _ (by rw [Array.size_setIfInBounds]; omega)]
    have := list_seg_step cs.toList (off + k) v vs (by rw [Array.length_toList]; omega)
    rw [Array.toList_setIfInBounds, List.length_cons, show off + (k + 1) = off + k + 1 by omega, this]
theorem fill_step (f : Nat → Option (Nat × Nat)) (cs : Array Value) (i off size : Nat) (vs : List Value) (rest : List (Nat × Value)) (hf : f i = some (off, size)) (hs : vs.length = size) (h : off + size ≤ cs.size) :
    Instr.fill f cs ((i, .agg vs.toArray) :: rest) = Instr.fill f (cs.toList.take off ++ vs ++ cs.toList.drop (off + vs.length)).toArray rest := by
  have e := foldSet off vs 0 cs (by omega)
  rw [Nat.add_zero] at e
  have hc : (Value.agg vs.toArray).cells = vs.toArray := rfl
  rw [Instr.fill, hf]
  simp only [hc, List.size_toArray]
  rw [if_neg (by simp; omega), ← e]
  congr 1
  simp
theorem infoCh : ∃ ie : TypeInfo, Try.prog.info? 52 = some ie ∧ ie.zero = some (.agg (crow EC.zero).toArray) ∧ ie.size = 41 := by
  have h : (Try.prog.info? 52).map (fun i => (i.zero, i.size)) = some (some (.agg (crow EC.zero).toArray), 41) := by kernel_rfl
  obtain ⟨i, hi, hh⟩ := Option.map_eq_some_iff.1 h
  exact ⟨i, hi, congrArg (·.1) hh, congrArg (·.2) hh⟩
section
variable {ra rb rc : List Value}
theorem slice1 (ha : ra.length = 41) (w : World) : (Instr.buildSlice 66 1 #[(0, .agg ra.toArray)]).run Try.prog w = .ok (.slice (some ⟨w.heap.size, 0, none⟩) 1 1) (w.alloc (.cells ra.toArray 52)) := by
  obtain ⟨ie, h1, h2, h3⟩ := infoCh
  refine run_buildSlice w _ _ 1 _ _ ie _ Try.underlying66 h1 h2 (by rw [h3]; omega) (by rw [h3]; omega) ?_
  rw [h3, fill_step _ _ 0 0 41 ra [] rfl ha (by simp)]
  simp [Instr.fill, ha]
theorem slice2 (ha : ra.length = 41) (hb : rb.length = 41) (w : World) : (Instr.buildSlice 66 2 #[(0, .agg ra.toArray), (1, .agg rb.toArray)]).run Try.prog w = .ok (.slice (some ⟨w.heap.size, 0, none⟩) 2 2) (w.alloc (.cells (ra ++ rb).toArray 52)) := by
  obtain ⟨ie, h1, h2, h3⟩ := infoCh
  refine run_buildSlice w _ _ 2 _ _ ie _ Try.underlying66 h1 h2 (by rw [h3]; omega) (by rw [h3]; omega) ?_
  rw [h3, fill_step _ _ 0 0 41 ra _ rfl ha (by simp), fill_step _ _ 1 41 41 rb _ rfl hb (by simp [ha])]
  simp [Instr.fill, ha, hb]
theorem slice3 (ha : ra.length = 41) (hb : rb.length = 41) (hc : rc.length = 41) (w : World) : (Instr.buildSlice 66 3 #[(0, .agg ra.toArray), (1, .agg rb.toArray), (2, .agg rc.toArray)]).run Try.prog w = .ok (.slice (some ⟨w.heap.size, 0, none⟩) 3 3) (w.alloc (.cells (ra ++ rb ++ rc).toArray 52)) := by
  obtain ⟨ie, h1, h2, h3⟩ := infoCh
  refine run_buildSlice w _ _ 3 _ _ ie _ Try.underlying66 h1 h2 (by rw [h3]; omega) (by rw [h3]; omega) ?_
  rw [h3, fill_step _ _ 0 0 41 ra _ rfl ha (by simp), fill_step _ _ 1 41 41 rb _ rfl hb (by simp [ha]), fill_step _ _ 2 82 41 rc _ rfl hc (by simp [ha, hb])]
  simp [Instr.fill, ha, hb, hc, List.take_append]
  rw [List.take_of_length_le (show ra.length ≤ 82 by omega), List.drop_eq_nil_of_le (by simp [ha, hb]), List.append_nil]
theorem wpl_slice1 {w : World} {ops : Array Oper} {rest : List Oper} {o : Oper} {a : Act} {Q : Exit → Act → World → Prop} (x : Operand) (ho : o.op = .buildSlice 66 1 #[(0, x)]) (hgd : Region.wanted o (yielded ops a.tmps) = true) (hx : a.eval x = .agg ra.toArray) (ha : ra.length = 41)
    (h : wpList Try.prog ops Q rest (a.put o.dst (.slice (some ⟨w.heap.size, 0, none⟩) 1 1)) (w.alloc (.cells ra.toArray 52))) : wpList Try.prog ops Q (o :: rest) a w := by
  refine BigFrame.wpList_want hgd fun K hK => ?_
  unfold Oper.wp execOp
  have e : (#[(0, x)] : Array (Nat × Operand)).map (fun (i, y) => (i, a.eval y)) = #[(0, .agg ra.toArray)] := by simp [hx]
  simp only [ho, e, Sem.run_bind, slice1 ha w, Result.andThen_ok]
  exact hK _ _ h
theorem wpl_slice2 {w : World} {ops : Array Oper} {rest : List Oper} {o : Oper} {a : Act} {Q : Exit → Act → World → Prop} (x y : Operand) (ho : o.op = .buildSlice 66 2 #[(0, x), (1, y)]) (hgd : Region.wanted o (yielded ops a.tmps) = true) (hx : a.eval x = .agg ra.toArray) (hy : a.eval y = .agg rb.toArray) (ha : ra.length = 41) (hb : rb.length = 41)
    (h : wpList Try.prog ops Q rest (a.put o.dst (.slice (some ⟨w.heap.size, 0, none⟩) 2 2)) (w.alloc (.cells (ra ++ rb).toArray 52))) : wpList Try.prog ops Q (o :: rest) a w := by
  refine BigFrame.wpList_want hgd fun K hK => ?_
  unfold Oper.wp execOp
  have e : (#[(0, x), (1, y)] : Array (Nat × Operand)).map (fun (i, y) => (i, a.eval y)) = #[(0, .agg ra.toArray), (1, .agg rb.toArray)] := by simp [hx, hy]
  simp only [ho, e, Sem.run_bind, slice2 ha hb w, Result.andThen_ok]
  exact hK _ _ h
theorem wpl_slice3 {w : World} {ops : Array Oper} {rest : List Oper} {o : Oper} {a : Act} {Q : Exit → Act → World → Prop} (x y z : Operand) (ho : o.op = .buildSlice 66 3 #[(0, x), (1, y), (2, z)]) (hgd : Region.wanted o (yielded ops a.tmps) = true) (hx : a.eval x = .agg ra.toArray) (hy : a.eval y = .agg rb.toArray) (hz : a.eval z = .agg rc.toArray) (ha : ra.length = 41) (hb : rb.length = 41) (hc : rc.length = 41)
    (h : wpList Try.prog ops Q rest (a.put o.dst (.slice (some ⟨w.heap.size, 0, none⟩) 3 3)) (w.alloc (.cells (ra ++ rb ++ rc).toArray 52))) : wpList Try.prog ops Q (o :: rest) a w := by
  refine BigFrame.wpList_want hgd fun K hK => ?_
  unfold Oper.wp execOp
  have e : (#[(0, x), (1, y), (2, z)] : Array (Nat × Operand)).map (fun (i, y) => (i, a.eval y)) = #[(0, .agg ra.toArray), (1, .agg rb.toArray), (2, .agg rc.toArray)] := by simp [hx, hy, hz]
  simp only [ho, e, Sem.run_bind, slice3 ha hb hc w, Result.andThen_ok]
  exact hK _ _ h
end
end Go.Proofs.Yticigjkaangkmaa

