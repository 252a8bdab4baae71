/- An array of two integers as an argument; one cell read in a region that draws its order. No condition. -/
import Derived.Test.YtnclefdlmbkjmaaDoorFrameReads
import Derived.Test.YtnclefdlmbkjmaaDoorBlk
namespace Go.Proofs.YtnclefdlmbkjmaaDoor
open Go.RowKit
theorem typesTwo8 : Tryd.prog.cellTypes Tryd.prog.depth 41 = some (List.replicate 2 5) := by kernel_rfl
theorem typesTwoI : Tryd.prog.cellTypes Tryd.prog.depth 38 = some (List.replicate 2 3) := by kernel_rfl
theorem cellsTwo8 : Tryd.prog.cellsOf 41 = 2 := by kernel_rfl
theorem cellsTwoI : Tryd.prog.cellsOf 38 = 2 := by kernel_rfl
theorem two_cells {k : IntKind} {e : TypeId} {w : World} {r : Reach} {b0 : Nat} {cs : Array Value} (he : Tryd.prog.underlying e = some (.int k)) (hs : cs.size = 2) (hc : ∀ (i : Nat) (v : Value), cs[i]? = some v → ∃ u, (List.replicate 2 e)[i % (List.replicate 2 e).length]? = some u ∧ Cell.okWide Tryd.prog w r b0 u v) :
    ∃ a b, cs = #[.int k a, .int k b] ∧ (Lit.int k a).wf = true ∧ (Lit.int k b).wf = true := by
  have one : ∀ i, i < 2 → ∃ a, cs[i]? = some (.int k a) ∧ (Lit.int k a).wf = true := by
    intro i hi
    have h2 : cs[i]? = some (cs[i]'(by omega)) := Array.getElem?_eq_getElem (by omega)
    obtain ⟨u, hu, hk⟩ := hc i _ h2
    have hu' : u = e := List.eq_of_mem_replicate (List.mem_of_getElem? hu)
    subst hu'
    rw [h2]
    generalize cs[i]'(by omega) = x at hk
    simp only [Cell.okWide, Cell.ok, he] at hk
    cases x with
    | int k' n =>
      obtain ⟨rfl, hn⟩ := hk
      exact ⟨n, rfl, by simpa [IntKind.has, Lit.wf] using hn⟩
    | _ => exact hk.elim
  obtain ⟨a, ha, wa⟩ := one 0 (by omega)
  obtain ⟨b, hb, wb⟩ := one 1 (by omega)
  refine ⟨a, b, ?_, wa, wb⟩
  apply Array.ext_getElem?
  intro i
  match i with
  | 0 => simpa using ha
  | 1 => simpa using hb
  | i + 2 => rw [Array.getElem?_eq_none (by omega), Array.getElem?_eq_none (by simp)]
theorem open_twou8 {w : World} {r : Reach} {b0 : Nat} {v : Value} (h : Value.okWide Tryd.prog w r b0 41 v) : ∃ a b, v = .agg #[.int .u8 a, .int .u8 b] ∧ (Lit.int .u8 a).wf = true ∧ (Lit.int .u8 b).wf = true := by
  simp only [Value.okWide, Tryd.underlying41] at h
  obtain ⟨cs, rfl, hs, ts, ht, _, hc⟩ := h
  rw [cellsTwo8] at hs
  rw [typesTwo8] at ht
  obtain rfl := Option.some.inj ht
  obtain ⟨a, b, rfl, h1, h2⟩ := two_cells Tryd.underlying5 hs hc
  exact ⟨a, b, rfl, h1, h2⟩
theorem open_twoi64 {w : World} {r : Reach} {b0 : Nat} {v : Value} (h : Value.okWide Tryd.prog w r b0 38 v) : ∃ a b, v = .agg #[.int .i64 a, .int .i64 b] ∧ (Lit.int .i64 a).wf = true ∧ (Lit.int .i64 b).wf = true := by
  simp only [Value.okWide, Tryd.underlying38] at h
  obtain ⟨cs, rfl, hs, ts, ht, _, hc⟩ := h
  rw [cellsTwoI] at hs
  rw [typesTwoI] at ht
  obtain rfl := Option.some.inj ht
  obtain ⟨a, b, rfl, h1, h2⟩ := two_cells Tryd.underlying3 hs hc
  exact ⟨a, b, rfl, h1, h2⟩
theorem u8_of_wf {a : Int} (h : (Lit.int .u8 a).wf = true) : ∃ k : UInt8, a = ((k.toNat : Nat) : Int) := by
  simp only [Lit.wf, Bool.and_eq_true, IntKind.min, IntKind.max, IntKind.signed, IntKind.bits] at h
  simp at h
  refine ⟨UInt8.ofNat a.toNat, ?_⟩
  rw [UInt8.toNat_ofNat']
  omega
/-- one cell is loaded in a region that draws its order: it may be taken first -/
theorem yields_cell {P : Program} {ops : Array Oper} {o : Oper} {a : Act} {S : World → Prop} {ty : TypeId} {p : Addr} {v : Value} (hag : ∀ w, (isAgg ty).run P w = .ok false w) (x : Operand) (ho : o.op = .load ty x) (hgd : Region.wanted o (yielded ops a.tmps) = true)
    (hx : a.eval x = .pointer (some p)) (hS : ∀ w, S w → w.cell? p = some v) : YieldsIf P ops S o v a :=
  .inl ⟨hgd, fun w hw => by
    have hs : (loadVar ty p).run P w = .ok v w := by
      simp [loadVar, Sem.run_bind, hag, run_load, hS w hw]
    unfold execOp
    simp only [ho, hx, Instr.loadAt, Instr.sureAddr, Sem.run_bind, Sem.run_pure, Result.andThen_ok, hs]⟩
theorem u8_flat (w : World) : (isAgg 5).run Tryd.prog w = .ok false w := by kernel_rfl
theorem i64_flat (w : World) : (isAgg 3).run Tryd.prog w = .ok false w := by kernel_rfl
/-- a new variable that a page is stored into: what was there is kept -/
theorem pkeep_new {B : Nat} {w w3 w4 : World} (hb : Below B w w3) (hB : B ≤ w3.heap.size) (g4 : (w3.alloc (.cells (cl pzeros) 26)).grownBy w4 (some w3.heap.size)) : Below B w w4 :=
  (hb.alloc hB _).grown g4 (by rw [World.size_alloc]; omega) (fun k e => by cases e; exact hB)
/-- what Write answers is a page, and a number -/
theorem FM.writeM_length (k : UInt8) (b : List UInt8) : (FM.writeM k b).1.length = 258 := by
  unfold FM.writeM
  split
  · exact List.length_replicate
  · exact FM.page_length k b (by omega)
end Go.Proofs.YtnclefdlmbkjmaaDoor
