/- A struct that is built out of parts of many cells. No condition. -/
import Derived.Test.YtppodbijdhcclaaQCore
namespace Go.Proofs.Ytppodbijdhcclaa
open Go Go.RowKit
theorem drop_app {A B : List Value} {n : Nat} (h : A.length = n) (m : Nat) : (A ++ B).drop (n + m) = B.drop m := by
  subst h
  rw [List.drop_append, List.drop_eq_nil_of_le (by omega), List.nil_append, Nat.add_sub_cancel_left]
theorem set_mid (A : List Value) (x v : Value) (B vs : List Value) : ((A ++ x :: B).set A.length v).take (A.length + 1) ++ vs ++ ((A ++ x :: B).set A.length v).drop (A.length + 1 + vs.length) = (A ++ x :: B).take A.length ++ v :: vs ++ (A ++ x :: B).drop (A.length + (vs.length + 1)) := by
  have e1 : (A ++ x :: B).set A.length v = (A ++ [v]) ++ B := by simp
  have e2 : (A ++ x :: B) = (A ++ [x]) ++ B := by simp
  have l1 : (A ++ [v]).length = A.length + 1 := by simp
  have l2 : (A ++ [x]).length = A.length + 1 := by simp
  rw [e1, List.take_left' l1, drop_app l1, List.take_left' rfl, show A.length + (vs.length + 1) = A.length + 1 + vs.length by omega, e2, drop_app l2]
  simp
theorem foldSet : ∀ (vs : List Value) (k off : Nat) (cs : Array Value), off + k + vs.length ≤ cs.size → (vs.zipIdx k).foldl (fun cs (x : Value × Nat) => cs.setIfInBounds (off + x.2) x.1) cs = (cs.toList.take (off + k) ++ vs ++ cs.toList.drop (off + k + vs.length)).toArray
  | [], k, off, cs, _ => by simp
  | v :: vs, k, off, cs, h => by
    simp only [List.length_cons] at h
    rw [List.zipIdx_cons, List.foldl_cons, foldSet vs (k + 1) off _ (by simp; omega)]
    apply congrArg
    simp only [Array.toList_setIfInBounds]
    have hl : off + k < cs.toList.length := by simp; omega
    obtain ⟨A, hA⟩ : ∃ A, A = cs.toList.take (off + k) := ⟨_, rfl⟩
    obtain ⟨B, hB⟩ : ∃ B, B = cs.toList.drop (off + k + 1) := ⟨_, rfl⟩
    have hAl : A.length = off + k := by rw [hA, List.length_take]; omega
    have e : cs.toList = A ++ cs.toList[off + k] :: B := by rw [hA, hB, ← List.drop_eq_getElem_cons hl, List.take_append_drop]
    obtain ⟨x, hx⟩ : ∃ x, x = cs.toList[off + k] := ⟨_, rfl⟩
    rw [← hx] at e
    rw [e, ← hAl, show off + (k + 1) = A.length + 1 by omega]
    exact set_mid A x v B vs
/-- a part laid into a row of which the first cells are known -/
theorem seg_app {L T vs : List Value} {o m : Nat} (h : L.length = o) : (L ++ T).take o ++ vs ++ (L ++ T).drop (o + m) = (L ++ vs) ++ T.drop m := by
  rw [List.take_left' h, drop_app h]
theorem fold_one (v : Value) (o : Nat) (cs : List Value) (h : o + 1 ≤ cs.length) : (#[v] : Array Value).zipIdx.foldl (fun cs (x : Value × Nat) => cs.setIfInBounds (o + x.2) x.1) cs.toArray = (cs.take o ++ [v] ++ cs.drop (o + 1)).toArray := by
  have := foldSet [v] 0 o cs.toArray (by simpa using h)
  simpa using this
theorem fold_seg (vs : List Value) (o : Nat) (cs : List Value) (h : o + vs.length ≤ cs.length) : vs.toArray.zipIdx.foldl (fun cs (x : Value × Nat) => cs.setIfInBounds (o + x.2) x.1) cs.toArray = (cs.take o ++ vs ++ cs.drop (o + vs.length)).toArray := by
  have := foldSet vs 0 o cs.toArray (by simpa using h)
  rw [← Array.foldl_toList]
  simpa using this
theorem fill_cons {place : Nat → Option (Nat × Nat)} {cs : List Value} {i o m : Nat} {v : Value} {vs : List Value} {rest : List (Nat × Value)} (hp : place i = some (o, m)) (hv : v.cells = vs.toArray) (hm : vs.length = m) (hc : o + m ≤ cs.length) :
    Instr.fill place cs.toArray ((i, v) :: rest) = Instr.fill place (cs.take o ++ vs ++ cs.drop (o + m)).toArray rest := by
  rw [Instr.fill, hp]
  simp only [hv]
  rw [if_neg (by simp; omega)]
  have := fold_seg vs o cs (by omega)
  rw [hm] at this
  exact congrArg (fun x => Instr.fill place x rest) this
/-- a build, as a region that draws meets it -/
theorem yields_build {P : Program} {ops : Array Oper} {o : Oper} {a : Act} {S : World → Prop} {ty : TypeId} {v : Value} (parts : List (Nat × Operand)) (vals : List (Nat × Value)) (ho : o.op = .build ty parts.toArray) (hgd : Region.wanted o (yielded ops a.tmps) = true)
    (hv : (parts.map fun x => (x.1, a.eval x.2)) = vals) (hrun : ∀ w, (Instr.build ty vals.toArray).run P w = .ok v w) : YieldsIf P ops S o v a :=
  .inl ⟨hgd, fun w _ => by
    subst hv
    unfold execOp
    simp only [ho, List.map_toArray, Sem.run_bind, hrun, Result.andThen_ok, Sem.run_pure]⟩
end Go.Proofs.Ytppodbijdhcclaa

