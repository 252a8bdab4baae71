/- Appending to a row of entries at a step of a region; how a row of one's own is kept. No condition. -/
import Derived.Test.YtkpojlnfagonbaaQInoRows
namespace Go.Proofs.Ytkpojlnfagonbaa
open Go Go.RowKit
theorem OwnE.grown {w w' : World} {base g : Nat} {v : Value} {es : List EN} (h : OwnE w base v es) (hg : g < base) (k : w.grownBy w' (some g)) : OwnE w' base v es :=
  World.ownsRow.kept h k (.inr fun e => by
    have := (World.ownsRow.lt h g e).1
    omega)
theorem grown_beyond {w w5 w9 : World} {g : Nat} {row : Option Nat} (h : w.grownBy w5 (some g)) (k : w5.grownBy w9 row) (hrow : ∀ q, row = some q → w.heap.size ≤ q) : w.grownBy w9 (some g) :=
  ⟨k.os.trans h.os, k.tape.trans h.tape, k.output.trans h.output, Nat.le_trans h.size k.size, fun b hb hne =>
    (k.block b (Nat.lt_of_lt_of_le hb h.size) (fun e => by have := hrow b e.symm; omega)).trans (h.block b hb hne)⟩
theorem OwnE.kept2 {w w' : World} {base g : Nat} {v : Value} {es : List EN} (h : OwnE w base v es) (k : w.grownBy w' (some g)) (hne : v.ownBlock ≠ some g) : OwnE w' base v es :=
  World.ownsRow.kept h k (.inr hne)
theorem step_append_ents {ti : TypeInfo} {w : World} {base : Nat} {v : Value} {n : Nat} {xs : List EN} {ops : Array Oper} {o : Oper} {a : Act} {K : Act → World → Prop} {Q : Exit → Act → World → Prop} {E : Prop} {z : Value}
    (hi : Try.prog.info? 32 = some ti) (hz : ti.zero = some z) (hzc : z.cells.size = 2) (hs : ti.size = 2) (hby : ti.bytes = 24) (hgd : Region.wanted o (yielded ops a.tmps) = true) (s x : Operand)
    (ho : o.op = .call { callee := .builtin .append, args := #[s, x], argTypes := #[22, 22] })
    (hn : xs.length = n) (hv : a.eval s = v) (hown : OwnE w base v xs) (ad : Addr) (m c : Nat) (L : List EN) (hm : L.length = m) (hx : a.eval x = .slice (some ad) m c) (B : Nat) (hr : Row w B (some ad) (erows L))
    (hnm : n + m ≤ 100000) (hbase : base ≤ w.heap.size) (k : Nat) (hk : n + m = k)
    (h : ∀ A' c' w', OwnE w' base (.slice A' k c') (xs ++ L) → w.grownBy w' v.ownBlock → K (a.put o.dst (.slice A' k c')) w') :
    if Region.wanted o (yielded ops a.tmps) = true then Oper.wp Try.prog o a w K Q else E := by
  rw [if_pos hgd]
  subst hk
  subst hn
  obtain ⟨v', w', hrun, h2, h3, _⟩ := run_append_own (P := Try.prog) w base 22 o.type 32 ti z 2 24 Try.underlying22 hi hz hs hby hzc (by omega) v xs.length (erows xs) hown ad m c (erows L) (by rw [erows_length, hm]) (fun j u hu => by obtain ⟨a', e, _, hc⟩ := hr j u hu; cases e; exact hc) (fun u hu => erow_one u hu) (by simp only [maxLen]; omega) (by omega) hbase
  have h4 : ∃ A' c', v' = .slice A' (xs.length + m) c' := by
    rcases h2.2 with ⟨rfl, h0⟩ | ⟨g, cap, cur, rfl, _⟩
    · exact ⟨none, 0, by rw [h0]⟩
    · exact ⟨_, _, rfl⟩
  obtain ⟨A', c', rfl⟩ := h4
  have ho2 : OwnE w' base (.slice A' (xs.length + m) c') (xs ++ L) := by
    unfold OwnE
    rw [erows_append, List.length_append, hm]
    exact h2
  unfold Oper.wp execOp
  simp only [ho, resolve, invoke, builtin, Sem.run_bind, Sem.run_pure, Result.andThen_ok, List.map_toArray, List.map_cons, List.map_nil, hv, hx, hrun]
  exact h A' c' w' ho2 h3
end Go.Proofs.Ytkpojlnfagonbaa

