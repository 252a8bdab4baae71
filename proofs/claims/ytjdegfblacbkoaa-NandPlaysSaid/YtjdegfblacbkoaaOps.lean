/- The argument that is a script: what it reads as, how an element is loaded; the contract of great. No condition. -/
import Derived.Test.YtjdegfblacbkoaaRows
import Derived.Test.YtjdegfblacbkoaaOpen
import Derived.Test.YtjdegfblacbkoaaBlk
import Derived.Deep.Slices
import Derived.Deep.Fields
import Derived.ChangeSame
namespace Go.Proofs.Ytjdegfblacbkoaa
open Go.RowKit Go.ChangeShapes Go.WideShapes Go.ChangeAt
/-- a call of a script -/
structure OpV where
  k : Int
  c : Int
  b : Int
  p : Int
  n : Int
  kp : Int
  by_ : Int
  wh : Value
  wl : List Int
instance : Inhabited OpV := ⟨⟨0, 0, 0, 0, 0, 0, 0, .slice none 0 0, []⟩⟩
def OpV.row (o : OpV) : List Value := [.int .i64 o.k, .int .i64 o.c, .int .i64 o.b, .int .i64 o.p, .int .i64 o.n, .int .i64 o.kp, .int .u8 o.by_, o.wh]
structure OpV.ok (w : World) (B : Nat) (o : OpV) : Prop where
  k : (Lit.int .i64 o.k).wf = true
  c : (Lit.int .i64 o.c).wf = true
  b : (Lit.int .i64 o.b).wf = true
  p : (Lit.int .i64 o.p).wf = true
  n : (Lit.int .i64 o.n).wf = true
  kp : (Lit.int .i64 o.kp).wf = true
  by_ : (Lit.int .u8 o.by_).wf = true
  wh : Nums w B .i64 o.wh o.wl
/-- v is a slice of the calls os -/
def Script (w : World) (B : Nat) (v : Value) (os : List OpV) : Prop :=
  ∃ A c, v = .slice A os.length c ∧ os.length ≤ c ∧ c ≤ maxLen ∧ (∀ i o, os[i]? = some o → ∃ a, A = some a ∧ a.block < B ∧ ∀ j u, o.row[j]? = some u → w.cell? (a.add (i * 8 + j)) = some u) ∧ ∀ o ∈ os, o.ok w B
section
variable {H : Type} {enc : TypeId × Value → H} {w : World} {r : Reach} {base b0 : Nat} {spare : Nat → Bool} {held : Bool} {v : Value} {d : DataW H} {ps : List MemPlace}
theorem op_cells : Try.prog.cellsOf 39 = 8 := by kernel_rfl
theorem open_op_slice {t e : TypeId} {fs : Array Field} {fuel : Nat} {P : Program} {cs : List Value} {x : DataW H × List MemPlace} (ht : P.underlying t = some (.slice e)) (he : P.underlying e = some (.struct fs))
    (hone : Go.Deep.oneCellFields P fs = true) (hC : P.cellsOf e = fs.size) (h : DataW.trod enc P w base spare held fuel t cs = some x) :
    cs = [.slice none 0 0] ∨
    ∃ (a : Addr) (len cap m : Nat), cs = [.slice (some a) len cap] ∧ len ≤ cap ∧ cap ≤ maxLen ∧ len ≤ m ∧
      ∀ i, i < m → ∃ n, ∀ (j : Nat) (f : Field), fs[j]? = some f → ∃ (v : Value) (y : DataW H × List MemPlace), w.cell? (a.add (i * fs.size + j)) = some v ∧ DataW.trod enc P w base spare held n f.type [v] = some y := by
  rcases Go.Deep.open_slice ht h with h0 | ⟨a, len, cap, m, n, D, Pl, hcs, hb, hl, hm, hmm, hx, hi⟩
  · exact .inl h0.1
  · refine .inr ⟨a, len, cap, m, hcs, hl, hm, by rw [hmm]; split <;> omega, fun i him => ?_⟩
    obtain ⟨cs', hc, ht'⟩ := hi i him
    rw [hC] at hc
    obtain ⟨ys, n', hn', hy, hlen, hyl, hf⟩ := DataW.trod_struct he ht'
    obtain ⟨_, hcl, hat⟩ := World.cells?_some hc
    refine ⟨n', fun j f hj => ?_⟩
    obtain ⟨ho, hk⟩ := Go.Deep.hone_of hone j f hj
    have hjl : j < fs.size := (Array.getElem?_eq_some_iff.1 hj).1
    have hcell := hat j hjl
    have hv : cs'[j]? = some (cs'[j]'(by omega)) := List.getElem?_eq_getElem (by omega)
    have h1 := hf j f hj
    rw [ho, hk] at h1
    have hone' : (cs'.drop j).take 1 = [cs'[j]'(by omega)] := by
      rw [List.drop_eq_getElem_cons (by omega)]
      rfl
    rw [hone'] at h1
    have hys : ys[j]? = some (ys[j]'(by omega)) := List.getElem?_eq_getElem (by omega)
    refine ⟨_, _, ?_, h1.trans hys⟩
    rw [← Go.Deep.add_add, hcell, hv]
theorem open_script (hval : Value.okWide Try.prog w r b0 23 v) (h : DataW.Trod enc Try.prog w base spare held 23 v d ps) : ∃ os, Script w w.heap.size v os := by
  obtain ⟨a, len, cap, rfl⟩ := okWide_slice Try.underlying23 hval
  obtain ⟨fuel, hf⟩ := h
  have hf' : DataW.trod enc Try.prog w base spare held fuel 23 [.slice a len cap] = some (d, ps) := hf
  rcases open_op_slice Try.underlying23 Try.underlying39 (by kernel_rfl) (by kernel_rfl) hf' with hcs | ⟨a', len', cap', m, hcs, hl, hm, hlm, hel⟩
  · simp only [List.cons.injEq, and_true] at hcs
    rw [hcs]
    exact ⟨[], none, 0, rfl, by simp, by simp [maxLen], fun i o h => by simp at h, fun o h => by simp at h⟩
  · simp only [List.cons.injEq, and_true, Value.slice.injEq] at hcs
    obtain ⟨rfl, rfl, rfl⟩ := hcs
    have each : ∀ i, i < len → ∃ o : OpV, o.ok w w.heap.size ∧ a'.block < w.heap.size ∧ ∀ j u, o.row[j]? = some u → w.cell? (a'.add (i * 8 + j)) = some u := by
      intro i hi
      obtain ⟨n, hn⟩ := hel i (by omega)
      obtain ⟨v0, y0, c0, t0⟩ := hn 0 _ rfl
      obtain ⟨v1, y1, c1, t1⟩ := hn 1 _ rfl
      obtain ⟨v2, y2, c2, t2⟩ := hn 2 _ rfl
      obtain ⟨v3, y3, c3, t3⟩ := hn 3 _ rfl
      obtain ⟨v4, y4, c4, t4⟩ := hn 4 _ rfl
      obtain ⟨v5, y5, c5, t5⟩ := hn 5 _ rfl
      obtain ⟨v6, y6, c6, t6⟩ := hn 6 _ rfl
      obtain ⟨v7, y7, c7, t7⟩ := hn 7 _ rfl
      obtain ⟨z0, e0, _, w0⟩ := DataW.trod_int Try.underlying3 t0
      obtain ⟨z1, e1, _, w1⟩ := DataW.trod_int Try.underlying3 t1
      obtain ⟨z2, e2, _, w2⟩ := DataW.trod_int Try.underlying3 t2
      obtain ⟨z3, e3, _, w3⟩ := DataW.trod_int Try.underlying3 t3
      obtain ⟨z4, e4, _, w4⟩ := DataW.trod_int Try.underlying3 t4
      obtain ⟨z5, e5, _, w5⟩ := DataW.trod_int Try.underlying3 t5
      obtain ⟨z6, e6, _, w6⟩ := DataW.trod_int Try.underlying5 t6
      obtain ⟨zs, hz⟩ := nums_cells Try.underlying22 Try.underlying3 (by kernel_rfl) t7
      obtain rfl : v0 = _ := List.head_eq_of_cons_eq e0
      obtain rfl : v1 = _ := List.head_eq_of_cons_eq e1
      obtain rfl : v2 = _ := List.head_eq_of_cons_eq e2
      obtain rfl : v3 = _ := List.head_eq_of_cons_eq e3
      obtain rfl : v4 = _ := List.head_eq_of_cons_eq e4
      obtain rfl : v5 = _ := List.head_eq_of_cons_eq e5
      obtain rfl : v6 = _ := List.head_eq_of_cons_eq e6
      refine ⟨⟨z0, z1, z2, z3, z4, z5, z6, v7, zs⟩, ⟨w0, w1, w2, w3, w4, w5, w6, hz⟩, ?_, ?_⟩
      · have := World.block_lt_of_cell? w _ c0
        rwa [add_block] at this
      · intro j u hu
        match j, hu with
        | 0, hu => cases hu; exact c0
        | 1, hu => cases hu; exact c1
        | 2, hu => cases hu; exact c2
        | 3, hu => cases hu; exact c3
        | 4, hu => cases hu; exact c4
        | 5, hu => cases hu; exact c5
        | 6, hu => cases hu; exact c6
        | 7, hu => cases hu; exact c7
        | j + 8, hu => exact absurd hu (by simp [OpV.row])
    obtain ⟨f, hfb⟩ := Deep.choose_lt (α := OpV) (n := len) (p := fun i o => o.ok w w.heap.size ∧ a'.block < w.heap.size ∧ ∀ j u, o.row[j]? = some u → w.cell? (a'.add (i * 8 + j)) = some u) each
    refine ⟨(List.range len).map f, some a', cap, by simp, by simpa using hl, hm, fun i o ho => ?_, fun o ho => ?_⟩
    · have hi : i < len := by have := (List.getElem?_eq_some_iff.1 ho).1; simpa using this
      have : f i = o := by simpa [hi] using ho
      rw [← this]
      exact ⟨a', rfl, (hfb i hi).2.1, (hfb i hi).2.2⟩
    · obtain ⟨i, hi, rfl⟩ := List.mem_map.1 ho
      exact (hfb i (by simpa using hi)).1
/-- an element is loaded whole -/
theorem op_size : (Try.prog.info? 39).map (·.size) = some 8 := by kernel_rfl
theorem op_load (q : Addr) (o : OpV) (w : World) (h : ∀ j u, o.row[j]? = some u → w.cell? (q.add j) = some u) : (loadVar 39 q).run Try.prog w = .ok (.agg o.row.toArray) w := by
  have h1 := run_loadCells_list (P := Try.prog) w q o.row h
  have h2 : (isAgg 39).run Try.prog w = .ok true w := by kernel_rfl
  have h3 : (sizeOf 39).run Try.prog w = .ok 8 w := by kernel_rfl
  unfold loadVar
  simp only [Sem.run_bind, h2, Result.andThen_ok, if_true, h3, Sem.run_pure]
  have hl : o.row.length = 8 := rfl
  rw [hl] at h1
  rw [h1]
  rfl
end
end Go.Proofs.Ytjdegfblacbkoaa
