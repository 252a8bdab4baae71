/- A cell is loaded in a region that draws its order: it may be taken first. No condition. -/
import Derived.Test.YtppodbijdhcclaaQCore
import Derived.Deep.RegionHeld3
namespace Go.Proofs.Ytppodbijdhcclaa
open Go.RowKit
theorem yields_one {P : Program} {ops : Array Oper} {o : Oper} {a : Act} {S : World → Prop} {ty : TypeId} {p : Addr} {v : Value} (hag : ∀ w, (isAgg ty).run P w = .ok false w) (x : Operand) (ho : o.op = .load ty x) (hgd : Region.wanted o (yielded ops a.tmps) = true)
    (hx : a.eval x = .pointer (some p)) (hS : ∀ w, S w → w.cell? p = some v) : YieldsIf P ops S o v a :=
  .inl ⟨hgd, fun w hw => by
    have hs : (loadVar ty p).run P w = .ok v w := by
      simp [loadVar, Sem.run_bind, hag, run_load, hS w hw]
    unfold execOp
    simp only [ho, hx, Instr.loadAt, Instr.sureAddr, Sem.run_bind, Sem.run_pure, Result.andThen_ok, hs]⟩
end Go.Proofs.Ytppodbijdhcclaa

