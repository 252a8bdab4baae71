/- Append of bytes in a region that draws its order: what is kept. No condition. -/
import Derived.Test.YtppodbijdhcclaaQCore
namespace Go.Proofs.Ytppodbijdhcclaa
open Go.RowKit
/-- append of bytes to a row of the call's own: what was there is kept but the row -/
theorem step_append_bytes_by {P : Program} {t e : TypeId} {w : World} {base : Nat} {v : Value} {l : List UInt8} {ops : Array Oper} {o : Oper} {a : Act} {K : Act → World → Prop} {Q : Exit → Act → World → Prop} {E : Prop} (hT : OneCell P t e (.int .u8 0) 1) (hgd : Region.wanted o (yielded ops a.tmps) = true) (s x : Operand)
    (ho : o.op = .call { callee := .builtin .append, args := #[s, x], argTypes := #[t, t] })
    (hs : a.eval s = v) (hown : Own e w base v l) (B : Nat) (u : Value) (m : List UInt8) (hx : a.eval x = u) (hu : Bytes w B u m) (hlen : l.length + m.length ≤ 1000000) (hbase : base ≤ w.heap.size) (k : Nat) (hk : l.length + m.length = k)
    (h : ∀ A c w', Own e w' base (.slice A k c) (l ++ m) → w.grownBy w' v.ownBlock → K (a.put o.dst (.slice A k c)) w') :
    if Region.wanted o (yielded ops a.tmps) = true then Oper.wp P o a w K Q else E := by
  rw [if_pos hgd]
  obtain ⟨A, c, rfl, _, _, hr⟩ := hu
  obtain ⟨v', w', hrun, h2, h3, _⟩ := run_append_row hT o.type l.length hown B A c (bv m) m.length (bv_length m) hr (fun u hu => bv_one hu) (by simp only [maxLen]; omega) (by omega) hbase
  have hO : Own e w' base v' (l ++ m) := by
    unfold Own
    rw [List.length_append, bv_append]
    exact h2
  obtain ⟨A', c', hv, _, _⟩ := hO.shape
  rw [List.length_append, hk] at hv
  subst hv
  unfold Oper.wp execOp
  simp only [ho, resolve, invoke, builtin, Sem.run_bind, Sem.run_pure, Result.andThen_ok, List.map_toArray, List.map_cons, List.map_nil, hs, hx, hrun]
  exact h A' c' w' hO h3
end Go.Proofs.Ytppodbijdhcclaa

