/- The data as an array in a block of its own: what loading, storing, and comparing it whole leave. No condition. -/
import Derived.Test.YtnclefdlmbkjmaaDoorProg
import Derived.Test.YtnclefdlmbkjmaaDoorArr
import Derived.Test.YtnclefdlmbkjmaaDoorHamMath
import Derived.Deep.WholeRow
import Derived.BigFrame
namespace Go.Proofs.YtnclefdlmbkjmaaDoor
open Go.RowKit

theorem infoData : (Tryd.prog.info? 45).map (fun i => (i.zero, i.size)) = some (some (.agg (Array.replicate 256 (.int .u8 0))), 256) := by kernel_rfl
theorem cl_zeros : Array.replicate 256 (.int .u8 0) = cl HM.zeros := by
  apply Array.toList_inj.1
  rw [cl_list]
  unfold HM.zeros bv
  rw [List.map_replicate, Array.toList_replicate]
  rfl
theorem zeroData (w : World) : (zeroValue 45).run Tryd.prog w = .ok (.agg (cl HM.zeros)) w := by
  rw [← cl_zeros]
  exact (zero_of_info infoData).1 w
theorem sizeData : (Tryd.prog.info? 45).map (·.size) = some 256 := (zero_of_info infoData).2

/-- in block g lies the array of the 256 bytes L -/
def Arr (w : World) (g : Nat) (L : List UInt8) : Prop := w.heap[g]? = some (.cells (cl L) 45 (0, 0)) ∧ L.length = 256
section
variable {w w' : World} {g B : Nat} {L L' : List UInt8}
theorem Arr.lt (h : Arr w g L) : g < w.heap.size := by
  rcases Nat.lt_or_ge g w.heap.size with h' | h'
  · exact h'
  · have := h.1
    rw [Array.getElem?_eq_none h'] at this
    cases this
theorem Arr.below (h : Arr w g L) (hb : Below B w w') (hg : g < B) : Arr w' g L := ⟨(hb.block g hg).trans h.1, h.2⟩
theorem Arr.after (h : Arr w g L) (hb : Below w.heap.size w w') : Arr w' g L := h.below hb h.lt
theorem Arr.alloc (h : Arr w g L) (o : Obj) : Arr (w.alloc o) g L := h.after ((Below.refl _ _).alloc (Nat.le_refl _) o)
theorem Arr.drew (h : Arr w g L) : Arr w.drew g L := h
theorem Arr.new (w : World) (hL : L.length = 256) : Arr (w.alloc (.cells (cl L) 45)) w.heap.size L := ⟨heap_alloc_last w _, hL⟩
theorem Arr.grown {k : Nat} (h : Arr w g L) (hg : w.grownBy w' (some k)) (hk : g ≠ k) : Arr w' g L := ⟨(hg.block g h.lt (by simpa using hk)).trans h.1, h.2⟩
theorem Arr.cell (h : Arr w g L) (k : Nat) : w.cell? ⟨g, k, none⟩ = (cl L)[k]? := by simp [World.cell?, h.1]
theorem Arr.free (h : Arr w g L) (k : Nat) : w.frozen? ⟨g, k, none⟩ = false := frozen_of_row w g k _ _ h.1
theorem Arr.set (h : Arr w g L) (k : Nat) (b : UInt8) : Arr (w.setCell ⟨g, k, none⟩ (.int .u8 (b.toNat : Int))) g (L.set k b) :=
  ⟨by rw [← cl_set]; exact heap_setCell_same w g k _ _ _ h.1, by rw [List.length_set]; exact h.2⟩

theorem Arr.other (h : Arr w g L) (a : Addr) (v : Value) (hne : g ≠ a.block) : Arr (w.setCell a v) g L := ⟨(heap_setCell_other w a g v hne).trans h.1, h.2⟩

theorem Arr.load (h : Arr w g L) : (loadVar 45 ⟨g, 0, none⟩).run Tryd.prog w = .ok (.agg (cl L)) w :=
  run_loadVar_row w g _ _ (cl L) (0, 0) _ h.1 Tryd.underlying45 rfl (by rw [cl_size, h.2]; exact sizeData)
theorem Arr.cells (h : Arr w g L) : (loadCellsFrom ⟨g, 0, none⟩ 0 256 #[]).run Tryd.prog w = .ok (cl L) w := by
  have := run_loadCells_list (P := Tryd.prog) w ⟨g, 0, none⟩ (bv L) (fun j v hv => by
    have hadd : (⟨g, 0, none⟩ : Addr).add j = ⟨g, j, none⟩ := by unfold Addr.add; split <;> simp_all
    rw [hadd, h.cell, ← Array.getElem?_toList, cl_list]
    exact hv)
  rw [bv_length, h.2] at this
  exact this
/-- the array is loaded whole -/
theorem wpl_load {ops : Array Oper} {rest : List Oper} {o : Oper} {a : Act} {Q : Exit → Act → World → Prop} (x : Operand) (ho : o.op = .load 45 x) (hgd : Region.wanted o (yielded ops a.tmps) = true)
    (hA : Arr w g L) (hx : a.eval x = .pointer (some ⟨g, 0, none⟩)) (h : wpList Tryd.prog ops Q rest (a.put o.dst (.agg (cl L))) w) : wpList Tryd.prog ops Q (o :: rest) a w := by
  refine BigFrame.wpList_want hgd fun K hK => ?_
  unfold Oper.wp execOp
  simp only [ho, hx, Instr.loadAt, Instr.sureAddr, Sem.run_bind, Sem.run_pure, Result.andThen_ok, hA.load]
  exact hK _ _ h
/-- the array is stored whole -/
theorem wpl_store {ops : Array Oper} {rest : List Oper} {o : Oper} {a : Act} {Q : Exit → Act → World → Prop} (x y : Operand) (ho : o.op = .store 45 x y) (hgd : Region.wanted o (yielded ops a.tmps) = true)
    (hA : Arr w g L) (hx : a.eval x = .pointer (some ⟨g, 0, none⟩)) (hL : L'.length = 256) (hy : a.eval y = .agg (cl L'))
    (h : ∀ w', Arr w' g L' → w.grownBy w' (some g) → w'.heap.size = w.heap.size → wpList Tryd.prog ops Q rest (a.put o.dst undef) w') : wpList Tryd.prog ops Q (o :: rest) a w := by
  have hs : (storeVar 45 ⟨g, 0, none⟩ (.agg (cl L'))).run Tryd.prog w = .ok () (w.setRow g (cl L')) :=
    run_storeVar_row w g _ _ (cl L) (cl L') hA.1 (by rw [cl_size, hL]; exact sizeData) (by rw [cl_size, cl_size, hA.2, hL]) (cl_one L')
  refine BigFrame.wpList_want hgd fun K hK => ?_
  unfold Oper.wp execOp
  simp only [ho, hx, hy, Instr.storeAt, Instr.sureAddr, Sem.run_bind, Sem.run_pure, Result.andThen_ok, hs]
  refine hK _ _ (h _ ⟨setRow_heap w g (cl L) (cl L') _ _ hA.1, hL⟩ ⟨rfl, rfl, rfl, by simp, fun k _ hk => setRow_other w g k (cl L') (by simpa using hk)⟩ (by simp))
theorem grown_setCell (w : World) (g k : Nat) (v : Value) : w.grownBy (w.setCell ⟨g, k, none⟩ v).drew (some g) :=
  ⟨rfl, rfl, rfl, by simp, fun j _ hj => Below.heap_setCell w _ v j (by simpa using hj)⟩
/-- a result that is an array and two numbers -/
theorem ret3 {fn : Func} {p u v : Tmp} (h : fn.results = #[.cell p 45, .tmp u, .tmp v]) (tmps : Array Value) (hA : Arr w g L) (hp : tmps.getD p undef = .pointer (some ⟨g, 0, none⟩)) :
    (results fn tmps).run Tryd.prog w = .ok (.tuple #[.agg (cl L), tmps.getD u undef, tmps.getD v undef]) w := by
  have hp' : tmps[p]?.getD undef = .pointer (some ⟨g, 0, none⟩) := by simpa using hp
  simp [results, h, hp', asAddr, hA.load]
/-- a result that is an array and a number -/
theorem ret2 {fn : Func} {p u : Tmp} (h : fn.results = #[.cell p 45, .tmp u]) (tmps : Array Value) (hA : Arr w g L) (hp : tmps.getD p undef = .pointer (some ⟨g, 0, none⟩)) :
    (results fn tmps).run Tryd.prog w = .ok (.tuple #[.agg (cl L), tmps.getD u undef]) w := by
  have hp' : tmps[p]?.getD undef = .pointer (some ⟨g, 0, none⟩) := by simpa using hp
  simp [results, h, hp', asAddr, hA.load]
end
theorem hb_two (w : World) (L M : List UInt8) : Below w.heap.size w ((w.alloc (.cells (cl L) 45)).alloc (.cells (cl M) 45)) :=
  ((Below.refl w.heap.size w).alloc (Nat.le_refl _) _).alloc (by simp) _
theorem arr_one (w : World) {L : List UInt8} (hL : L.length = 256) (M : List UInt8) : Hid (Arr ((w.alloc (.cells (cl L) 45)).alloc (.cells (cl M) 45)) w.heap.size L) := Lib.hid ((Arr.new w hL).alloc _)
theorem arr_two (w : World) (L : List UInt8) {M : List UInt8} (hM : M.length = 256) : Hid (Arr ((w.alloc (.cells (cl L) 45)).alloc (.cells (cl M) 45)) (w.heap.size + 1) M) := by
  have := Arr.new (w.alloc (.cells (cl L) 45)) hM
  rw [World.size_alloc] at this
  exact Lib.hid this
/-- a new variable that an array is stored into: what was there is kept -/
theorem kept_new {w w3 w4 : World} (hb : Below w.heap.size w w3) (g4 : (w3.alloc (.cells (cl HM.zeros) 45)).grownBy w4 (some w3.heap.size)) : Below w.heap.size w w4 :=
  (hb.alloc hb.size _).grown g4 (by rw [World.size_alloc]; have := hb.size; omega) (fun k e => by cases e; exact hb.size)
theorem Arr.kept_new {w3 w4 : World} {g : Nat} {L : List UInt8} (h : Arr w3 g L) (g4 : (w3.alloc (.cells (cl HM.zeros) 45)).grownBy w4 (some w3.heap.size)) : Arr w4 g L :=
  (h.alloc _).grown g4 (Nat.ne_of_lt h.lt)
/-- a byte is stored into the array in block g -/
theorem wpl_put {ops : Array Oper} {rest : List Oper} {o : Oper} {a : Act} {w : World} {Q : Exit → Act → World → Prop} {g : Nat} {L : List UInt8} (x y : Operand) (ho : o.op = .store 5 x y) (hgd : Region.wanted o (yielded ops a.tmps) = true)
    (hA : Arr w g L) (i : Nat) (hi : i < 256) (b : UInt8) (hx : a.eval x = .pointer (some ⟨g, i, none⟩)) (hy : a.eval y = .int .u8 ((b.toNat : Nat) : Int))
    (h : ∀ w', Arr w' g (L.set i b) → w.grownBy w' (some g) → wpList Tryd.prog ops Q rest (a.put o.dst undef) w') : wpList Tryd.prog ops Q (o :: rest) a w := by
  have hc : w.cell? ⟨g, i, none⟩ = some (.int .u8 ((L[i]'(by rw [hA.2]; exact hi)).toNat : Int)) := (hA.cell i).trans (cl_get (by rw [hA.2]; exact hi))
  have hs : (storeVar 5 ⟨g, i, none⟩ (.int .u8 ((b.toNat : Nat) : Int))).run Tryd.prog w = .ok () (w.setCell ⟨g, i, none⟩ (.int .u8 ((b.toNat : Nat) : Int))) := by
    have hsz : (sizeOf 5).run Tryd.prog w = .ok 1 w := by kernel_rfl
    have h1 : (Value.int .u8 ((b.toNat : Nat) : Int)).oneCell' = true := rfl
    have h0 : (⟨g, i, none⟩ : Addr).add 0 = ⟨g, i, none⟩ := by simp [Addr.add]
    simp [storeVar, Sem.run_bind, hsz, Value.cells, storeCells, h0, run_store _ _ _ _ _ h1, hc, hA.free i]
  refine BigFrame.wpList_want hgd fun K hK => ?_
  unfold Oper.wp execOp
  simp only [ho, hx, hy, Instr.storeAt, Instr.sureAddr, Sem.run_bind, Sem.run_pure, Result.andThen_ok, hs]
  exact hK _ _ (h _ (hA.set i b) ⟨rfl, rfl, rfl, by simp, fun k _ hk => heap_setCell_other w _ k _ (by simpa using hk)⟩)
end Go.Proofs.YtnclefdlmbkjmaaDoor
