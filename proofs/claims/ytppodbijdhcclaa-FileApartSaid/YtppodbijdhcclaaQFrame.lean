/- copy of bytes into an array that lies in a block of its own. No condition. -/
import Derived.Test.YtppodbijdhcclaaQCore
import Derived.Test.YtppodbijdhcclaaQHam
import Derived.Laws.CopyRow
import Derived.Laws.IdiomCopy
import Derived.Deep.RegionLaw
namespace Go.Proofs.Ytppodbijdhcclaa
open Go.RowKit
/-- m laid over L from the place o on -/
def lay (L : List UInt8) (o : Nat) (m : List UInt8) : List UInt8 := L.take o ++ m ++ L.drop (o + m.length)
theorem lay_length {L m : List UInt8} {o : Nat} (h : o + m.length ≤ L.length) : (lay L o m).length = L.length := by
  simp [lay]
  omega
theorem lay_nil {L : List UInt8} {o : Nat} : lay L o [] = L := by simp [lay]
section
variable {P : Program} {w : World} {g : Nat} {t T E : TypeId} {L l m : List UInt8}
theorem run_copy_cl (hT : OneCell P T E (.int .u8 0) 1) (hg : w.heap[g]? = some (.cells (cl L) t (0, 0))) (o dLen dCap B : Nat) (u : Value) (hu : Bytes w B u l) (hm : l.take dLen = m) (hfit : o + m.length ≤ L.length) (ty : TypeId) :
    ∃ w', (Builtin.copy_ #[T, T] ty #[.slice (some ⟨g, o, none⟩) dLen dCap, u]).run P w = .ok (.int .i64 (m.length : Int)) w' ∧ w'.heap[g]? = some (.cells (cl (lay L o m)) t (0, 0)) ∧ w.grownBy w' (some g) ∧ w'.heap.size = w.heap.size := by
  obtain ⟨i, hi, _, hs, hby⟩ := hT.hi
  have hsz : (P.info? E).map (·.size) = some 1 := by rw [hi]; simp [hs]
  obtain ⟨A, c, rfl, _, _, hr⟩ := hu
  by_cases h0 : m = []
  · subst h0
    have hn : Nat.min l.length dLen = 0 := by
      have := congrArg List.length hm
      simp only [List.length_take, List.length_nil] at this
      show min l.length dLen = 0
      omega
    refine ⟨w, run_copy_none (P := P) w T T ty E _ A dLen dCap l.length c hT.ht hsz hn, by rw [lay_nil]; exact hg, World.grownBy.refl w _, rfl⟩
  · have hl : m.length = min l.length dLen := by rw [← hm, List.length_take]; omega
    have hpos : 0 < m.length := by cases m with | nil => exact absurd rfl h0 | cons => simp
    obtain ⟨a, rfl, _, _⟩ := hr.at_ (k := 0) (by rw [bv_length]; omega)
    have hbm : bv m = (bv l).take dLen := by rw [← hm]; simp [bv]
    have hrun := run_copy_row (P := P) w T T ty E g o dLen dCap a l.length c (cl L) t (bv m) hT.ht hsz hg (by rw [bv_length]; exact hl) (fun j v hj => by
      have hj' : j < m.length := by have := get_lt hj; rwa [bv_length] at this
      rw [hbm, List.getElem?_take, if_pos (by omega)] at hj
      obtain ⟨a', e, _, hc⟩ := hr j v hj
      cases e
      exact hc) (by rw [bv_length, cl_size]; exact hfit) (fun v hv => bv_one hv)
    rw [bv_length] at hrun
    have hcells : ((cl L).toList.take o ++ bv m ++ (cl L).toList.drop (o + m.length)).toArray = cl (lay L o m) := by
      apply Array.toList_inj.1
      rw [cl_list, cl_list]
      simp [lay, bv]
    rw [hcells] at hrun
    exact ⟨_, hrun, setRow_heap w g (cl L) _ t _ hg, ⟨rfl, rfl, rfl, by simp, fun k _ hk => setRow_other w g k _ (by simpa using hk)⟩, by simp⟩
/-- at the operation -/
theorem wpl_copy {ops : Array Oper} {rest : List Oper} {o : Oper} {a : Act} {Q : Exit → Act → World → Prop} (hT : OneCell P T E (.int .u8 0) 1) (hgd : Region.wanted o (yielded ops a.tmps) = true) (d s : Operand)
    (ho : o.op = .call { callee := .builtin .copy, args := #[d, s], argTypes := #[T, T] })
    (hg : w.heap[g]? = some (.cells (cl L) t (0, 0))) (p dLen dCap : Nat) (hd : a.eval d = .slice (some ⟨g, p, none⟩) dLen dCap) (u : Value) (hs : a.eval s = u) (B : Nat) (hu : Bytes w B u l) (hm : l.take dLen = m) (hfit : p + m.length ≤ L.length) (k : Nat) (hk : m.length = k)
    (h : ∀ w', Hid (w'.heap[g]? = some (.cells (cl (lay L p m)) t (0, 0))) → w.grownBy w' (some g) → w'.heap.size = w.heap.size → wpList P ops Q rest (a.put o.dst (.int .i64 (k : Int))) w') : wpList P ops Q (o :: rest) a w := by
  obtain ⟨w', hrun, h1, h2, h3⟩ := run_copy_cl hT hg p dLen dCap B u hu hm hfit o.type
  rw [hk] at hrun
  refine BigFrame.wpList_want hgd fun K hK => ?_
  unfold Oper.wp execOp
  simp only [ho, resolve, invoke, builtin, Sem.run_bind, Sem.run_pure, Result.andThen_ok, List.map_toArray, List.map_cons, List.map_nil, hd, hs, hrun]
  exact hK _ _ (h w' (Lib.hid h1) h2 h3)
/-- at a step of a region that draws its order -/
theorem step_copy {ops : Array Oper} {o : Oper} {a : Act} {K : Act → World → Prop} {Q : Exit → Act → World → Prop} {F : Prop} (hT : OneCell P T E (.int .u8 0) 1) (hgd : Region.wanted o (yielded ops a.tmps) = true) (d s : Operand)
    (ho : o.op = .call { callee := .builtin .copy, args := #[d, s], argTypes := #[T, T] })
    (hg : w.heap[g]? = some (.cells (cl L) t (0, 0))) (p dLen dCap : Nat) (hd : a.eval d = .slice (some ⟨g, p, none⟩) dLen dCap) (u : Value) (hs : a.eval s = u) (B : Nat) (hu : Bytes w B u l) (hm : l.take dLen = m) (hfit : p + m.length ≤ L.length) (k : Nat) (hk : m.length = k)
    (h : ∀ w', Hid (w'.heap[g]? = some (.cells (cl (lay L p m)) t (0, 0))) → w.grownBy w' (some g) → w'.heap.size = w.heap.size → K (a.put o.dst (.int .i64 (k : Int))) w') :
    if Region.wanted o (yielded ops a.tmps) = true then Oper.wp P o a w K Q else F := by
  rw [if_pos hgd]
  obtain ⟨w', hrun, h1, h2, h3⟩ := run_copy_cl hT hg p dLen dCap B u hu hm hfit o.type
  rw [hk] at hrun
  unfold Oper.wp execOp
  simp only [ho, resolve, invoke, builtin, Sem.run_bind, Sem.run_pure, Result.andThen_ok, List.map_toArray, List.map_cons, List.map_nil, hd, hs, hrun]
  exact h w' (Lib.hid h1) h2 h3
end
end Go.Proofs.Ytppodbijdhcclaa

