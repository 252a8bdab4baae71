/- Layer 13: the chips that are handed in are copied. No condition but that they are there. -/
import Derived.Test.YticigjkaangkmaaQElectC
namespace Go.Proofs.Yticigjkaangkmaa
open Go Go.RowKit
theorem run_copy_big {P : Program} (w : World) (dT sT ty elem : TypeId) (g dLen dCap : Nat) (a : Addr) (sLen sCap : Nat) (cur : Array Value) (t : TypeId) (cs : List Value) (s : Nat)
    (hu : P.underlying dT = some (.slice elem)) (hs : (P.info? elem).map (·.size) = some s)
    (hg : w.heap[g]? = some (.cells cur t (0, 0))) (hn : cs.length = Nat.min sLen dLen * s)
    (hsrc : ∀ j v, cs[j]? = some v → w.cell? (a.add j) = some v) (hfit : 0 + cs.length ≤ cur.size) (h1 : ∀ v ∈ cs, v.oneCell' = true) :
    (Builtin.copy_ #[dT, sT] ty #[.slice (some ⟨g, 0, none⟩) dLen dCap, .slice (some a) sLen sCap]).run P w =
      .ok (goInt (Nat.min sLen dLen)) (w.setRow g (cs ++ cur.toList.drop cs.length).toArray) := by
  have hl := run_loadCells_list (P := P) w a cs hsrc
  have hst := run_storeCells_at P g 0 t cs 0 cur w hg (by simpa using hfit) h1
  cases hq : P.info? elem with
  | none => simp [hq] at hs
  | some i =>
    have hi : i.size = s := by simpa [hq] using hs
    simp [Builtin.copy_, run_underlying hu, Builtin.lenOf, Builtin.firstCells, sizeOf, typeInfo, hq, hi, ← hn, hl, hst]
theorem sizeChip? : (Try.prog.info? 52).map (·.size) = some 41 := by kernel_rfl
/-- the first two of the chips are copied into the pair -/
theorem wpl_ccopy {w : World} {g : Nat} {zz srow prow : List Value} {ops : Array Oper} {rest : List Oper} {o : Oper} {a : Act} {Q : Exit → Act → World → Prop} (hgd : Region.wanted o (yielded ops a.tmps) = true) (d s : Operand)
    (ho : o.op = .call { callee := .builtin .copy, args := #[d, s], argTypes := #[66, 66] })
    (hB : Blk w g 68 zz) (p : Addr) (n c k : Nat) (hd : a.eval d = .slice (some ⟨g, 0, none⟩) 2 2) (hs : a.eval s = .slice (some p) n c) (hk : Nat.min n 2 = k) (hl : srow.length = k * 41) (hz : zz.length = 82) (hk2 : k ≤ 2)
    (hsrc : ∀ j v, srow[j]? = some v → w.cell? (p.add j) = some v) (h1 : ∀ v ∈ srow, v.oneCell' = true) (hp : srow ++ zz.drop srow.length = prow)
    (h : ∀ w', Blk w' g 68 prow → w.grownBy w' (some g) → w'.heap.size = w.heap.size → wpList Try.prog ops Q rest (a.put o.dst (.int .i64 (k : Int))) w') : wpList Try.prog ops Q (o :: rest) a w := by
  have hrun := run_copy_big (P := Try.prog) w 66 66 o.type 52 g 2 2 p n c zz.toArray 68 srow 41 Try.underlying66 sizeChip? hB (by rw [hk]; exact hl) hsrc (by simp [hz, hl]; omega) h1
  rw [List.toList_toArray, hp, hk] at hrun
  obtain ⟨r1, r2, r3⟩ := hB.seg prow
  refine BigFrame.wpList_want hgd fun K hK => ?_
  unfold Oper.wp execOp
  simp only [ho, resolve, invoke, builtin, Sem.run_bind, Sem.run_pure, Result.andThen_ok, List.map_toArray, List.map_cons, List.map_nil, hd, hs, hrun]
  exact hK _ _ (h _ r1 r2 r3)
end Go.Proofs.Yticigjkaangkmaa

