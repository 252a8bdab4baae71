/- Two commits compared whole; a commit as an argument. No condition. -/
import Derived.Test.YticigjkaangkmaaQCommit
import Derived.Test.YticigjkaangkmaaQLiveEq
import Derived.Laws.StructEq
namespace Go.Proofs.Yticigjkaangkmaa
open Go.RowKit
theorem ccs_part {e s : Nat} {L : List UInt8} (hL : L.length = 32) (w : World) : (part 47 (ccs e L s).toArray 1).run Try.prog w = .ok (.agg (cl L)) w := by
  have h1 : (isAgg 47).run Try.prog w = .ok true w := by kernel_rfl
  have h2 : (sizeOf 47).run Try.prog w = .ok 32 w := by kernel_rfl
  have e1 : (ccs e L s).toArray.extract 1 (1 + 32) = cl L := by
    apply Array.toList_inj.1
    rw [cl_list, Array.toList_extract]
    simp [ccs, List.extract, bv, hL]
  simp only [part, Sem.run_bind, h1, Result.andThen_ok, if_true, h2, Sem.run_pure, e1]
theorem ccs_part0 {e s : Nat} {L : List UInt8} (w : World) : (part 22 (ccs e L s).toArray 0).run Try.prog w = .ok (.int .u64 (e : Int)) w := by
  have h1 : (isAgg 22).run Try.prog w = .ok false w := by kernel_rfl
  have hc : (ccs e L s).toArray[0]? = some (.int .u64 (e : Int)) := by simp [ccs]
  simp only [part, Sem.run_bind, h1, Result.andThen_ok, hc, Bool.false_eq_true, if_false, Sem.run_pure]
theorem ccs_part2 {e s : Nat} {L : List UInt8} (hL : L.length = 32) (w : World) : (part 48 (ccs e L s).toArray 33).run Try.prog w = .ok (.int .u32 (s : Int)) w := by
  have h1 : (isAgg 48).run Try.prog w = .ok false w := by kernel_rfl
  have hc : (ccs e L s).toArray[33]? = some (.int .u32 (s : Int)) := by rw [List.getElem?_toArray]; exact ccs_last hL
  simp only [part, Sem.run_bind, h1, Result.andThen_ok, hc, Bool.false_eq_true, if_false, Sem.run_pure]
theorem commit_fields : (Try.prog.fieldsOf 50).toList.map (fun f => (f.name == "_", f.type, f.offset)) = [(false, 22, 0), (false, 47, 1), (false, 48, 33)] := by kernel_rfl
def eqC (e e' : Nat) (L L' : List UInt8) (s s' : Nat) : Bool := decide (e = e' ∧ L = L' ∧ s = s')
theorem commit_eq {e e' s s' : Nat} {L L' : List UInt8} (hL : L.length = 32) (hL' : L'.length = 32) (w : World) :
    (Op.equalIn 10000 50 (.agg (ccs e L s).toArray) (.agg (ccs e' L' s').toArray)).run Try.prog w = .ok (eqC e e' L L' s s') w := by
  rw [show (10000 : Nat) = 9999 + 1 from rfl, run_equalIn_struct w 9999 _ _ _ (by kernel_rfl) (by kernel_rfl)]
  have hf := commit_fields
  generalize (Try.prog.fieldsOf 50).toList = fs at hf
  rcases fs with _ | ⟨f0, _ | ⟨f1, _ | ⟨f2, _ | ⟨f3, r⟩⟩⟩⟩
  · simp at hf
  · simp at hf
  · simp at hf
  · simp only [List.map_cons, List.map_nil, List.cons.injEq, Prod.mk.injEq, and_true] at hf
    obtain ⟨⟨n0, t0, o0⟩, ⟨n1, t1, o1⟩, n2, t2, o2⟩ := hf
    have m0 : f0.name ≠ "_" := by simpa using n0
    have m1 : f1.name ≠ "_" := by simpa using n1
    have m2 : f2.name ≠ "_" := by simpa using n2
    have q0 : ∀ a b : Nat, (Op.equalIn 9999 22 (.int .u64 (a : Int)) (.int .u64 (b : Int))).run Try.prog w = .ok ((a : Int) == (b : Int)) w := fun a b => run_equalIn_int w 9998 22 .u64 .u64 _ _ Try.underlying22
    have q2 : ∀ a b : Nat, (Op.equalIn 9999 48 (.int .u32 (a : Int)) (.int .u32 (b : Int))).run Try.prog w = .ok ((a : Int) == (b : Int)) w := fun a b => run_equalIn_int w 9998 48 .u32 .u32 _ _ Try.underlying48
    have q1 : (Op.equalIn 9999 47 (.agg (cl L)) (.agg (cl L'))).run Try.prog w = .ok (decide (L = L')) w := lequalIn_two 9997 hL hL' w
    have p1 := fun w => ccs_part (e := e) (s := s) hL w
    have p1' := fun w => ccs_part (e := e') (s := s') hL' w
    have p2 := fun w => ccs_part2 (e := e) (s := s) hL w
    have p2' := fun w => ccs_part2 (e := e') (s := s') hL' w
    simp only [Op.eqFields, if_pos m0, if_pos m1, if_pos m2, t0, o0, t1, o1, t2, o2, Sem.run_bind, ccs_part0, Result.andThen_ok, q0]
    clear m0 m1 m2 t0 t1 t2 o0 o1 o2 n0 n1 n2
    unfold eqC
    by_cases a0 : e = e'
    · subst a0
      by_cases a1 : L = L'
      · subst a1
        by_cases a2 : s = s'
        · subst a2
          simp [p1, p2, q1, q2, Sem.run_bind, Sem.run_pure, Sem.run_ite]
        · have x2 : ((s : Int) == (s' : Int)) = false := by simp; omega
          simp [p1, p1', p2, p2', q1, q2, x2, a2, Sem.run_bind, Sem.run_pure, Sem.run_ite]
      · have x1 : decide (L = L') = false := by simp [a1]
        rw [x1] at q1
        simp [p1, p1', q1, a1, Sem.run_bind, Sem.run_pure, Sem.run_ite]
    · have x0 : ((e : Int) == (e' : Int)) = false := by simp; omega
      rw [x0]
      simp [a0, Sem.run_pure]
  · simp at hf
end Go.Proofs.Yticigjkaangkmaa

