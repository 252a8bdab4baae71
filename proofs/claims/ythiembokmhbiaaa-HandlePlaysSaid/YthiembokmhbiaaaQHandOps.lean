/- The argument that is a script of handle's laws: what it reads as, how an element is loaded and kept. No condition. -/
import Derived.Test.YthiembokmhbiaaaRows
import Derived.Test.YthiembokmhbiaaaQCore
import Derived.Deep.Slices
import Derived.Deep.Fields
import Derived.ChangeSame
namespace Go.Proofs.Ythiembokmhbiaaa
open Go.RowKit Go.ChangeShapes Go.WideShapes Go.ChangeAt
/-- a call of a script -/
structure Op22 where
  k : Int
  n : Int
instance : Inhabited Op22 := ⟨⟨0, 0⟩⟩
def Op22.row (o : Op22) : List Value := [.int .i64 o.k, .int .i64 o.n]
structure Op22.ok (o : Op22) : Prop where
  k : (Lit.int .i64 o.k).wf = true
  n : (Lit.int .i64 o.n).wf = true
/-- v is a slice of the calls os -/
def Script22 (w : World) (B : Nat) (v : Value) (os : List Op22) : Prop :=
  ∃ A c, v = .slice A os.length c ∧ os.length ≤ c ∧ c ≤ maxLen ∧ (∀ i o, os[i]? = some o → ∃ a, A = some a ∧ a.block < B ∧ ∀ j u, o.row[j]? = some u → w.cell? (a.add (i * 2 + j)) = some u) ∧ ∀ o ∈ os, o.ok
section
variable {H : Type} {enc : TypeId × Value → H} {w : World} {r : Reach} {base b0 : Nat} {spare : Nat → Bool} {held : Bool} {v : Value} {d : DataW H} {ps : List MemPlace}
theorem op22_cells : Try.prog.cellsOf 32 = 2 := by kernel_rfl
theorem open_op22_slice {t e : TypeId} {fs : Array Field} {fuel : Nat} {P : Program} {cs : List Value} {x : DataW H × List MemPlace} (ht : P.underlying t = some (.slice e)) (he : P.underlying e = some (.struct fs))
    (hone : Go.Deep.oneCellFields P fs = true) (hC : P.cellsOf e = fs.size) (h : DataW.trod enc P w base spare held fuel t cs = some x) :
    cs = [.slice none 0 0] ∨
    ∃ (a : Addr) (len cap m : Nat), cs = [.slice (some a) len cap] ∧ len ≤ cap ∧ cap ≤ maxLen ∧ len ≤ m ∧
      ∀ i, i < m → ∃ n, ∀ (j : Nat) (f : Field), fs[j]? = some f → ∃ (v : Value) (y : DataW H × List MemPlace), w.cell? (a.add (i * fs.size + j)) = some v ∧ DataW.trod enc P w base spare held n f.type [v] = some y := by
  rcases Go.Deep.open_slice ht h with h0 | ⟨a, len, cap, m, n, D, Pl, hcs, hb, hl, hm, hmm, hx, hi⟩
  · exact .inl h0.1
  · refine .inr ⟨a, len, cap, m, hcs, hl, hm, by rw [hmm]; split <;> omega, fun i him => ?_⟩
    obtain ⟨cs', hc, ht'⟩ := hi i him
    rw [hC] at hc
    obtain ⟨ys, n', hn', hy, hlen, hyl, hf⟩ := DataW.trod_struct he ht'
    obtain ⟨_, hcl, hat⟩ := World.cells?_some hc
    refine ⟨n', fun j f hj => ?_⟩
    obtain ⟨ho, hk⟩ := Go.Deep.hone_of hone j f hj
    have hjl : j < fs.size := (Array.getElem?_eq_some_iff.1 hj).1
    have hcell := hat j hjl
    have hv : cs'[j]? = some (cs'[j]'(by omega)) := List.getElem?_eq_getElem (by omega)
    have h1 := hf j f hj
    rw [ho, hk] at h1
    have hone' : (cs'.drop j).take 1 = [cs'[j]'(by omega)] := by
      rw [List.drop_eq_getElem_cons (by omega)]
      rfl
    rw [hone'] at h1
    have hys : ys[j]? = some (ys[j]'(by omega)) := List.getElem?_eq_getElem (by omega)
    refine ⟨_, _, ?_, h1.trans hys⟩
    rw [← Go.Deep.add_add, hcell, hv]
set_option maxRecDepth 100000 in
theorem open_script22 (hval : Value.okWide Try.prog w r b0 22 v) (h : DataW.Trod enc Try.prog w base spare held 22 v d ps) : ∃ os, Script22 w w.heap.size v os := by
  obtain ⟨a, len, cap, rfl⟩ := okWide_slice Try.underlying22 hval
  obtain ⟨fuel, hf⟩ := h
  have hf' : DataW.trod enc Try.prog w base spare held fuel 22 [.slice a len cap] = some (d, ps) := hf
  rcases open_op22_slice Try.underlying22 Try.underlying32 (by kernel_rfl) (by kernel_rfl) hf' with hcs | ⟨a', len', cap', m, hcs, hl, hm, hlm, hel⟩
  · simp only [List.cons.injEq, and_true] at hcs
    rw [hcs]
    exact ⟨[], none, 0, rfl, by simp, by simp [maxLen], fun i o h => by simp at h, fun o h => by simp at h⟩
  · simp only [List.cons.injEq, and_true, Value.slice.injEq] at hcs
    obtain ⟨rfl, rfl, rfl⟩ := hcs
    have each : ∀ i, i < len → ∃ o : Op22, o.ok ∧ a'.block < w.heap.size ∧ ∀ j u, o.row[j]? = some u → w.cell? (a'.add (i * 2 + j)) = some u := by
      intro i hi
      obtain ⟨n, hn⟩ := hel i (by omega)
      obtain ⟨v0, y0, c0, t0⟩ := hn 0 _ rfl
      obtain ⟨v1, y1, c1, t1⟩ := hn 1 _ rfl
      obtain ⟨z0, e0, _, w0⟩ := DataW.trod_int Try.underlying3 t0
      obtain ⟨z1, e1, _, w1⟩ := DataW.trod_int Try.underlying3 t1
      obtain rfl : v0 = _ := List.head_eq_of_cons_eq e0
      obtain rfl : v1 = _ := List.head_eq_of_cons_eq e1
      refine ⟨⟨z0, z1⟩, ⟨w0, w1⟩, ?_, ?_⟩
      · have := World.block_lt_of_cell? w _ c0
        rwa [add_block] at this
      · intro j u hu
        match j, hu with
        | 0, hu => cases hu; exact c0
        | 1, hu => cases hu; exact c1
        | j + 2, hu => exact absurd hu (by simp [Op22.row])
    obtain ⟨f, hfb⟩ := Deep.choose_lt (α := Op22) (n := len) (p := fun i o => o.ok ∧ a'.block < w.heap.size ∧ ∀ j u, o.row[j]? = some u → w.cell? (a'.add (i * 2 + j)) = some u) each
    refine ⟨(List.range len).map f, some a', cap, by simp, by simpa using hl, hm, fun i o ho => ?_, fun o ho => ?_⟩
    · have hi : i < len := by have := (List.getElem?_eq_some_iff.1 ho).1; simpa using this
      have : f i = o := by simpa [hi] using ho
      rw [← this]
      exact ⟨a', rfl, (hfb i hi).2.1, (hfb i hi).2.2⟩
    · obtain ⟨i, hi, rfl⟩ := List.mem_map.1 ho
      exact (hfb i (by simpa using hi)).1
/-- an element is loaded whole -/
theorem op22_size : (Try.prog.info? 32).map (·.size) = some 2 := by kernel_rfl
theorem op22_load (q : Addr) (o : Op22) (w : World) (h : ∀ j u, o.row[j]? = some u → w.cell? (q.add j) = some u) : (loadVar 32 q).run Try.prog w = .ok (.agg o.row.toArray) w := by
  have h1 := run_loadCells_list (P := Try.prog) w q o.row h
  have h2 : (isAgg 32).run Try.prog w = .ok true w := by kernel_rfl
  have h3 : (sizeOf 32).run Try.prog w = .ok 2 w := by kernel_rfl
  unfold loadVar
  simp only [Sem.run_bind, h2, Result.andThen_ok, if_true, h3, Sem.run_pure]
  have hl : o.row.length = 2 := rfl
  rw [hl] at h1
  rw [h1]
  rfl
end
def zOp22 : List Value := [.int .i64 0, .int .i64 0]
theorem zeroOp22 (w : World) : (zeroValue 32).run Try.prog w = .ok (.agg zOp22.toArray) w := by
  kernel_rfl
theorem aggOp22 (w : World) : (isAgg 32).run Try.prog w = .ok true w := by kernel_rfl
theorem sizeOp22 (w : World) : (sizeOf 32).run Try.prog w = .ok 2 w := by kernel_rfl
theorem Op22.one (o : Op22) : ∀ v ∈ o.row, v.oneCell' = true := by
  intro v hv
  simp only [Op22.row, List.mem_cons, List.not_mem_nil, or_false] at hv
  rcases hv with rfl | rfl <;> rfl
/-- an element is loaded whole, as the walk meets it -/
theorem wpl_o22load {ops : Array Oper} {rest : List Oper} {o : Oper} {a : Act} {w : World} {q : Addr} {v : Value} {Q : Exit → Act → World → Prop} (x : Operand) (ho : o.op = .load 32 x) (hgd : Region.wanted o (yielded ops a.tmps) = true)
    (hx : a.eval x = .pointer (some q)) (hl : (loadVar 32 q).run Try.prog w = .ok v w) (h : wpList Try.prog ops Q rest (a.put o.dst v) w) : wpList Try.prog ops Q (o :: rest) a w := by
  refine BigFrame.wpList_want hgd fun K hK => ?_
  unfold Oper.wp execOp
  simp only [ho, hx, Instr.loadAt, Instr.sureAddr, Sem.run_bind, Sem.run_pure, Result.andThen_ok, hl]
  exact hK _ _ h
/-- a script's element in a later world -/
theorem Script22.at_ {w : World} {B : Nat} {A : Option Addr} {c : Nat} {os : List Op22} (h : Script22 w B (.slice A os.length c) os) {i : Nat} (hi : i < os.length) {w' : World} (hb : Below B w w') :
    ∃ p, A = some p ∧ (os[i]).ok ∧ (loadVar 32 (p.add (i * 2))).run Try.prog w' = .ok (.agg (os[i]).row.toArray) w' := by
  obtain ⟨A', c', e, _, _, h1, h2⟩ := h
  obtain ⟨rfl, _, _⟩ := Value.slice.inj e
  obtain ⟨p, rfl, hp, hc⟩ := h1 i _ (List.getElem?_eq_getElem hi)
  refine ⟨p, rfl, h2 _ (List.getElem_mem hi), op22_load _ _ _ fun j u hu => ?_⟩
  rw [Go.Deep.add_add, hb.cell (by rw [add_block]; exact hp)]
  exact hc j u hu
end Go.Proofs.Ythiembokmhbiaaa

