/- Appending to a slice of entries of the call's own. No condition. -/
import Derived.Test.YtkpojlnfagonbaaQInoOrd
import Derived.Laws.OwnMore
namespace Go.Proofs.Ytkpojlnfagonbaa
open Go.RowKit
/-- append to a row of entries, of entries that are read, nil or not -/
theorem wpl_append_ents {ti : TypeInfo} {w : World} {base : Nat} {v : Value} {n : Nat} {xs : List EN} {ops : Array Oper} {rest : List Oper} {o : Oper} {a : Act} {Q : Exit → Act → World → Prop} {z : Value}
    (hi : Try.prog.info? 32 = some ti) (hz : ti.zero = some z) (hzc : z.cells.size = 2) (hs : ti.size = 2) (hby : ti.bytes = 24) (hgd : o.guard = none) (s x : Operand)
    (ho : o.op = .call { callee := .builtin .append, args := #[s, x], argTypes := #[22, 22] })
    (hn : xs.length = n) (hv : a.eval s = v) (hown : OwnE w base v xs) (A : Option Addr) (m c : Nat) (L : List EN) (hm : L.length = m) (hx : a.eval x = .slice A m c) (B : Nat) (hr : Row w B A (erows L))
    (hnm : n + m ≤ 100000) (hbase : base ≤ w.heap.size) (k : Nat) (hk : n + m = k)
    (h : ∀ A' c' w', OwnE w' base (.slice A' k c') (xs ++ L) → w.grownBy w' v.ownBlock → wpList Try.prog ops Q rest (a.put o.dst (.slice A' k c')) w') : wpList Try.prog ops Q (o :: rest) a w := by
  subst hk
  subst hn
  have hone : ∀ (A' : Option Addr) (c' : Nat) (w' : World), w'.ownsRow base 32 2 (.slice A' (xs.length + m) c') (xs.length + m) (erows xs ++ erows L) → OwnE w' base (.slice A' (xs.length + m) c') (xs ++ L) := fun A' c' w' ho => by
    unfold OwnE
    rw [erows_append, List.length_append, hm]
    exact ho
  have hown' : w.ownsRow base 32 2 v xs.length (erows xs) := hown
  cases A with
  | some ad =>
    refine wpList_append_own _ hgd s x 22 ho base 32 ti z 2 24 Try.underlying22 hi hz hs hby hzc (by omega) v xs.length (erows xs) hv hown' ad m c (erows L) hx (by rw [erows_length, hm]) (fun j u hu => by obtain ⟨a', e, _, hc⟩ := hr j u hu; cases e; exact hc) (fun u hu => erow_one u hu) (by simp only [maxLen]; omega) (by omega) hbase ?_
    intro v' w' h1 h2 _
    have h3 : ∃ A' c', v' = .slice A' (xs.length + m) c' := by
      rcases h1.2 with ⟨rfl, h0⟩ | ⟨g, cap, cur, rfl, _⟩
      · exact ⟨none, 0, by rw [h0]⟩
      · exact ⟨_, _, rfl⟩
    obtain ⟨A', c', rfl⟩ := h3
    exact h A' c' w' (hone _ _ _ h1) h2
  | none =>
    obtain rfl : L = [] := by
      cases L with
      | nil => rfl
      | cons l r =>
        obtain ⟨a', e, _⟩ := hr 0 _ rfl
        cases e
    obtain rfl : m = 0 := by simpa using hm.symm
    obtain ⟨A', c', rfl, hc1, hc2⟩ := hown.shape
    have h' := h A' c' w (by simpa using hown) (World.grownBy.refl w _)
    refine BigFrame.wpList_want (by simp [Region.wanted, hgd]) fun K hK => ?_
    have hrun : (Builtin.append_ #[22, 22] o.type #[.slice A' xs.length c', .slice none 0 c]).run Try.prog w = .ok (.slice A' xs.length c') w := by
      clear h h' hone
      generalize xs.length = N at hown' ⊢
      rcases hown'.2 with ⟨hv', h0⟩ | ⟨g, cap, cur, hv', _, _, hnc, _⟩
      · cases hv'
        simp [Builtin.append_, run_underlying Try.underlying22, sizeOf, typeInfo, hi, Builtin.lenOf, Builtin.firstCells]
      · cases hv'
        simp [Builtin.append_, run_underlying Try.underlying22, sizeOf, typeInfo, hi, Builtin.lenOf, Builtin.firstCells, hnc, storeCells]
    unfold Oper.wp execOp
    simp only [ho, resolve, invoke, builtin, Sem.run_bind, Sem.run_pure, Result.andThen_ok, List.map_toArray, List.map_cons, List.map_nil, hv, hx, hrun]
    exact hK _ _ (by simpa using h')
theorem infoE' : ∃ ti, Try.prog.info? 32 = some ti ∧ ti.zero = some (.agg #[.string ByteArray.empty, .int .i64 0]) ∧ ti.size = 2 ∧ ti.bytes = 24 := by
  have h := infoE
  cases hi : Try.prog.info? 32 with
  | none => rw [hi] at h; cases h
  | some ti =>
    rw [hi] at h
    simp only [Option.map_some, Option.some.injEq, Prod.mk.injEq] at h
    exact ⟨ti, rfl, h.1, h.2.1, h.2.2⟩
end Go.Proofs.Ytkpojlnfagonbaa

