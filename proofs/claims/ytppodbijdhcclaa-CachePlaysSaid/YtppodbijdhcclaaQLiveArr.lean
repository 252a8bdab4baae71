/- A set of keys as an array in a block of its own: what loading, storing, and comparing it whole leave. No condition. -/
import Derived.Test.YtppodbijdhcclaaProg
import Derived.Test.YtppodbijdhcclaaQCore
import Derived.Deep.WholeRow
import Derived.BigFrame
namespace Go.Proofs.Ytppodbijdhcclaa
open Go.RowKit

/-- no key -/
def lzeros : List UInt8 := List.replicate 32 0
theorem lzeros_length : lzeros.length = 32 := List.length_replicate
theorem infoLive : (Try.prog.info? 53).map (fun i => (i.zero, i.size)) = some (some (.agg (Array.replicate 32 (.int .u8 0))), 32) := by kernel_rfl
theorem cl_lzeros : Array.replicate 32 (.int .u8 0) = cl lzeros := by
  apply Array.toList_inj.1
  rw [cl_list]
  unfold lzeros bv
  rw [List.map_replicate, Array.toList_replicate]
  rfl
theorem zeroLive (w : World) : (zeroValue 53).run Try.prog w = .ok (.agg (cl lzeros)) w := by
  rw [← cl_lzeros]
  exact (zero_of_info infoLive).1 w
theorem sizeLive : (Try.prog.info? 53).map (·.size) = some 32 := (zero_of_info infoLive).2

/-- in block g lies the array of the 32 bytes L -/
def LArr (w : World) (g : Nat) (L : List UInt8) : Prop := w.heap[g]? = some (.cells (cl L) 53 (0, 0)) ∧ L.length = 32
section
variable {w w' : World} {g B : Nat} {L L' : List UInt8}
theorem LArr.lt (h : LArr w g L) : g < w.heap.size := by
  rcases Nat.lt_or_ge g w.heap.size with h' | h'
  · exact h'
  · have := h.1
    rw [Array.getElem?_eq_none h'] at this
    cases this
theorem LArr.below (h : LArr w g L) (hb : Below B w w') (hg : g < B) : LArr w' g L := ⟨(hb.block g hg).trans h.1, h.2⟩
theorem LArr.after (h : LArr w g L) (hb : Below w.heap.size w w') : LArr w' g L := h.below hb h.lt
theorem LArr.alloc (h : LArr w g L) (o : Obj) : LArr (w.alloc o) g L := h.after ((Below.refl _ _).alloc (Nat.le_refl _) o)
theorem LArr.drew (h : LArr w g L) : LArr w.drew g L := h
theorem LArr.new (w : World) (hL : L.length = 32) : LArr (w.alloc (.cells (cl L) 53)) w.heap.size L := ⟨heap_alloc_last w _, hL⟩
theorem LArr.grown {k : Nat} (h : LArr w g L) (hg : w.grownBy w' (some k)) (hk : g ≠ k) : LArr w' g L := ⟨(hg.block g h.lt (by simpa using hk)).trans h.1, h.2⟩
theorem LArr.cell (h : LArr w g L) (k : Nat) : w.cell? ⟨g, k, none⟩ = (cl L)[k]? := by simp [World.cell?, h.1]
theorem LArr.free (h : LArr w g L) (k : Nat) : w.frozen? ⟨g, k, none⟩ = false := frozen_of_row w g k _ _ h.1
theorem LArr.set (h : LArr w g L) (k : Nat) (b : UInt8) : LArr (w.setCell ⟨g, k, none⟩ (.int .u8 (b.toNat : Int))) g (L.set k b) :=
  ⟨by rw [← cl_set]; exact heap_setCell_same w g k _ _ _ h.1, by rw [List.length_set]; exact h.2⟩

theorem LArr.other (h : LArr w g L) (a : Addr) (v : Value) (hne : g ≠ a.block) : LArr (w.setCell a v) g L := ⟨(heap_setCell_other w a g v hne).trans h.1, h.2⟩

theorem LArr.load (h : LArr w g L) : (loadVar 53 ⟨g, 0, none⟩).run Try.prog w = .ok (.agg (cl L)) w :=
  run_loadVar_row w g _ _ (cl L) (0, 0) _ h.1 Try.underlying53 rfl (by rw [cl_size, h.2]; exact sizeLive)
theorem LArr.cells (h : LArr w g L) : (loadCellsFrom ⟨g, 0, none⟩ 0 32 #[]).run Try.prog w = .ok (cl L) w := by
  have := run_loadCells_list (P := Try.prog) w ⟨g, 0, none⟩ (bv L) (fun j v hv => by
    have hadd : (⟨g, 0, none⟩ : Addr).add j = ⟨g, j, none⟩ := by unfold Addr.add; split <;> simp_all
    rw [hadd, h.cell, ← Array.getElem?_toList, cl_list]
    exact hv)
  rw [bv_length, h.2] at this
  exact this
/-- the array is loaded whole -/
theorem wpl_lload {ops : Array Oper} {rest : List Oper} {o : Oper} {a : Act} {Q : Exit → Act → World → Prop} (x : Operand) (ho : o.op = .load 53 x) (hgd : Region.wanted o (yielded ops a.tmps) = true)
    (hA : LArr w g L) (hx : a.eval x = .pointer (some ⟨g, 0, none⟩)) (h : wpList Try.prog ops Q rest (a.put o.dst (.agg (cl L))) w) : wpList Try.prog ops Q (o :: rest) a w := by
  refine BigFrame.wpList_want hgd fun K hK => ?_
  unfold Oper.wp execOp
  simp only [ho, hx, Instr.loadAt, Instr.sureAddr, Sem.run_bind, Sem.run_pure, Result.andThen_ok, hA.load]
  exact hK _ _ h
/-- the array is stored whole -/
theorem wpl_lstore {ops : Array Oper} {rest : List Oper} {o : Oper} {a : Act} {Q : Exit → Act → World → Prop} (x y : Operand) (ho : o.op = .store 53 x y) (hgd : Region.wanted o (yielded ops a.tmps) = true)
    (hA : LArr w g L) (hx : a.eval x = .pointer (some ⟨g, 0, none⟩)) (hL : L'.length = 32) (hy : a.eval y = .agg (cl L'))
    (h : ∀ w', LArr w' g L' → w.grownBy w' (some g) → w'.heap.size = w.heap.size → wpList Try.prog ops Q rest (a.put o.dst undef) w') : wpList Try.prog ops Q (o :: rest) a w := by
  have hs : (storeVar 53 ⟨g, 0, none⟩ (.agg (cl L'))).run Try.prog w = .ok () (w.setRow g (cl L')) :=
    run_storeVar_row w g _ _ (cl L) (cl L') hA.1 (by rw [cl_size, hL]; exact sizeLive) (by rw [cl_size, cl_size, hA.2, hL]) (cl_one L')
  refine BigFrame.wpList_want hgd fun K hK => ?_
  unfold Oper.wp execOp
  simp only [ho, hx, hy, Instr.storeAt, Instr.sureAddr, Sem.run_bind, Sem.run_pure, Result.andThen_ok, hs]
  refine hK _ _ (h _ ⟨setRow_heap w g (cl L) (cl L') _ _ hA.1, hL⟩ ⟨rfl, rfl, rfl, by simp, fun k _ hk => setRow_other w g k (cl L') (by simpa using hk)⟩ (by simp))
theorem lgrown_setCell (w : World) (g k : Nat) (v : Value) : w.grownBy (w.setCell ⟨g, k, none⟩ v).drew (some g) :=
  ⟨rfl, rfl, rfl, by simp, fun j _ hj => Below.heap_setCell w _ v j (by simpa using hj)⟩
/-- a result that is an array and two numbers -/
theorem lret3 {fn : Func} {p u v : Tmp} (h : fn.results = #[.cell p 53, .tmp u, .tmp v]) (tmps : Array Value) (hA : LArr w g L) (hp : tmps.getD p undef = .pointer (some ⟨g, 0, none⟩)) :
    (results fn tmps).run Try.prog w = .ok (.tuple #[.agg (cl L), tmps.getD u undef, tmps.getD v undef]) w := by
  have hp' : tmps[p]?.getD undef = .pointer (some ⟨g, 0, none⟩) := by simpa using hp
  simp [results, h, hp', asAddr, hA.load]
/-- a result that is an array and a number -/
theorem lret2 {fn : Func} {p u : Tmp} (h : fn.results = #[.cell p 53, .tmp u]) (tmps : Array Value) (hA : LArr w g L) (hp : tmps.getD p undef = .pointer (some ⟨g, 0, none⟩)) :
    (results fn tmps).run Try.prog w = .ok (.tuple #[.agg (cl L), tmps.getD u undef]) w := by
  have hp' : tmps[p]?.getD undef = .pointer (some ⟨g, 0, none⟩) := by simpa using hp
  simp [results, h, hp', asAddr, hA.load]
end
theorem lhb_two (w : World) (L M : List UInt8) : Below w.heap.size w ((w.alloc (.cells (cl L) 53)).alloc (.cells (cl M) 53)) :=
  ((Below.refl w.heap.size w).alloc (Nat.le_refl _) _).alloc (by simp) _
theorem larr_one (w : World) {L : List UInt8} (hL : L.length = 32) (M : List UInt8) : Hid (LArr ((w.alloc (.cells (cl L) 53)).alloc (.cells (cl M) 53)) w.heap.size L) := Lib.hid ((LArr.new w hL).alloc _)
theorem larr_two (w : World) (L : List UInt8) {M : List UInt8} (hM : M.length = 32) : Hid (LArr ((w.alloc (.cells (cl L) 53)).alloc (.cells (cl M) 53)) (w.heap.size + 1) M) := by
  have := LArr.new (w.alloc (.cells (cl L) 53)) hM
  rw [World.size_alloc] at this
  exact Lib.hid this
/-- a new variable that an array is stored into: what was there is kept -/
theorem lkept_new {w w3 w4 : World} (hb : Below w.heap.size w w3) (g4 : (w3.alloc (.cells (cl lzeros) 53)).grownBy w4 (some w3.heap.size)) : Below w.heap.size w w4 :=
  (hb.alloc hb.size _).grown g4 (by rw [World.size_alloc]; have := hb.size; omega) (fun k e => by cases e; exact hb.size)
theorem LArr.lkept_new {w3 w4 : World} {g : Nat} {L : List UInt8} (h : LArr w3 g L) (g4 : (w3.alloc (.cells (cl lzeros) 53)).grownBy w4 (some w3.heap.size)) : LArr w4 g L :=
  (h.alloc _).grown g4 (Nat.ne_of_lt h.lt)
/-- a byte is stored into the array in block g -/
theorem wpl_lput {ops : Array Oper} {rest : List Oper} {o : Oper} {a : Act} {w : World} {Q : Exit → Act → World → Prop} {g : Nat} {L : List UInt8} (x y : Operand) (ho : o.op = .store 5 x y) (hgd : Region.wanted o (yielded ops a.tmps) = true)
    (hA : LArr w g L) (i : Nat) (hi : i < 32) (b : UInt8) (hx : a.eval x = .pointer (some ⟨g, i, none⟩)) (hy : a.eval y = .int .u8 ((b.toNat : Nat) : Int))
    (h : ∀ w', LArr w' g (L.set i b) → w.grownBy w' (some g) → wpList Try.prog ops Q rest (a.put o.dst undef) w') : wpList Try.prog ops Q (o :: rest) a w := by
  have hc : w.cell? ⟨g, i, none⟩ = some (.int .u8 ((L[i]'(by rw [hA.2]; exact hi)).toNat : Int)) := (hA.cell i).trans (cl_get (by rw [hA.2]; exact hi))
  have hs : (storeVar 5 ⟨g, i, none⟩ (.int .u8 ((b.toNat : Nat) : Int))).run Try.prog w = .ok () (w.setCell ⟨g, i, none⟩ (.int .u8 ((b.toNat : Nat) : Int))) := by
    have hsz : (sizeOf 5).run Try.prog w = .ok 1 w := by kernel_rfl
    have h1 : (Value.int .u8 ((b.toNat : Nat) : Int)).oneCell' = true := rfl
    have h0 : (⟨g, i, none⟩ : Addr).add 0 = ⟨g, i, none⟩ := by simp [Addr.add]
    simp [storeVar, Sem.run_bind, hsz, Value.cells, storeCells, h0, run_store _ _ _ _ _ h1, hc, hA.free i]
  refine BigFrame.wpList_want hgd fun K hK => ?_
  unfold Oper.wp execOp
  simp only [ho, hx, hy, Instr.storeAt, Instr.sureAddr, Sem.run_bind, Sem.run_pure, Result.andThen_ok, hs]
  exact hK _ _ (h _ (hA.set i b) ⟨rfl, rfl, rfl, by simp, fun k _ hk => heap_setCell_other w _ k _ (by simpa using hk)⟩)
end Go.Proofs.Ytppodbijdhcclaa

