/- A value of many cells is loaded, wherever it stands. No condition. -/
import Derived.Test.YtppodbijdhcclaaQCore
namespace Go.Proofs.Ytppodbijdhcclaa
open Go.RowKit
section
variable {P : Program} {w : World} {ty : TypeId} {n : Nat} {q : Addr} {row : List Value}
/-- a value of many cells is loaded, wherever it stands -/
theorem cells_load (hag : ∀ w, (isAgg ty).run P w = .ok true w) (hsz : ∀ w, (sizeOf ty).run P w = .ok n w) (hn : row.length = n) (hc : ∀ j u, row[j]? = some u → w.cell? (q.add j) = some u) : (loadVar ty q).run P w = .ok (.agg row.toArray) w := by
  have h1 := run_loadCells_list (P := P) w q row hc
  rw [hn] at h1
  unfold loadVar
  simp only [Sem.run_bind, hag, Result.andThen_ok, if_true, hsz, Sem.run_pure, h1]
theorem wpl_cells {ops : Array Oper} {rest : List Oper} {o : Oper} {a : Act} {Q : Exit → Act → World → Prop} (hag : ∀ w, (isAgg ty).run P w = .ok true w) (hsz : ∀ w, (sizeOf ty).run P w = .ok n w) (x : Operand) (ho : o.op = .load ty x) (hgd : Region.wanted o (yielded ops a.tmps) = true) (hx : a.eval x = .pointer (some q))
    (hn : row.length = n) (hc : ∀ j u, row[j]? = some u → w.cell? (q.add j) = some u) (h : wpList P ops Q rest (a.put o.dst (.agg row.toArray)) w) : wpList P ops Q (o :: rest) a w := by
  refine BigFrame.wpList_want hgd fun K hK => ?_
  unfold Oper.wp execOp
  simp only [ho, hx, Instr.loadAt, Instr.sureAddr, Sem.run_bind, Sem.run_pure, Result.andThen_ok, cells_load hag hsz hn hc]
  exact hK _ _ h
theorem yields_cells {ops : Array Oper} {o : Oper} {a : Act} {S : World → Prop} (hag : ∀ w, (isAgg ty).run P w = .ok true w) (hsz : ∀ w, (sizeOf ty).run P w = .ok n w) (x : Operand) (ho : o.op = .load ty x) (hgd : Region.wanted o (yielded ops a.tmps) = true) (hx : a.eval x = .pointer (some q))
    (hn : row.length = n) (hS : ∀ w, S w → ∀ j u, row[j]? = some u → w.cell? (q.add j) = some u) : YieldsIf P ops S o (.agg row.toArray) a :=
  .inl ⟨hgd, fun w hw => by
    unfold execOp
    simp only [ho, hx, Instr.loadAt, Instr.sureAddr, Sem.run_bind, Sem.run_pure, Result.andThen_ok, cells_load hag hsz hn (hS w hw)]⟩
end
end Go.Proofs.Ytppodbijdhcclaa

