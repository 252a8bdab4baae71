/- Regions that draw their order: a cell that is read; an array by value at a place. No condition. -/
import Derived.Test.YtjdegfblacbkoaaPageEq
import Derived.Deep.RegionHeld3
namespace Go.Proofs.Ytjdegfblacbkoaa
open Go.RowKit
theorem yields_one {P : Program} {ops : Array Oper} {o : Oper} {a : Act} {S : World → Prop} {ty : TypeId} {p : Addr} {v : Value} (hag : ∀ w, (isAgg ty).run P w = .ok false w) (x : Operand) (ho : o.op = .load ty x) (hgd : Region.wanted o (yielded ops a.tmps) = true)
    (hx : a.eval x = .pointer (some p)) (hS : ∀ w, S w → w.cell? p = some v) : YieldsIf P ops S o v a :=
  .inl ⟨hgd, fun w hw => by
    have hs : (loadVar ty p).run P w = .ok v w := by
      simp [loadVar, Sem.run_bind, hag, run_load, hS w hw]
    unfold execOp
    simp only [ho, hx, Instr.loadAt, Instr.sureAddr, Sem.run_bind, Sem.run_pure, Result.andThen_ok, hs]⟩
theorem byte_flat (w : World) : (isAgg 5).run Try.prog w = .ok false w := by kernel_rfl
theorem page_index {L : List UInt8} (hL : L.length = 258) {k : Nat} (hk : k < 258) {b : UInt8} (hb : b = L.getD k 0) (w : World) : (Instr.index 55 (.agg (cl L)) (.int .i64 (k : Int))).run Try.prog w = .ok (.int .u8 ((b.toNat : Nat) : Int)) w := by
  have h1 := ppart_at hL hk w
  have h2 : (sizeOf 5).run Try.prog w = .ok 1 w := by kernel_rfl
  rw [← hb] at h1
  have hn : 0 ≤ (k : Int) ∧ (k : Int) < ((258 : Nat) : Int) := by omega
  have h3 : (k : Int).toNat * 1 = k := by omega
  simp only [Instr.index, run_underlying Try.underlying55, asIntOf, Sem.run_bind, Sem.run_pure, Result.andThen_ok, if_pos hn, h2, h3, h1]
end Go.Proofs.Ytjdegfblacbkoaa
