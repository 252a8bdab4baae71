/- Layer 10: loads in memory; how one is loaded; how two are compared. No condition but that they are there. -/
import Derived.Test.YticigjkaangkmaaQWearMath
import Derived.Test.YticigjkaangkmaaQCore
namespace Go.Proofs.Yticigjkaangkmaa
open Go.RowKit WM
/-- a load's cells: the document's, and the program's -/
def rrow (l : LV) : List Value := [.int .u64 (l.seq : Int), .int .u64 (l.wear : Int), .int .i64 l.block, .int .i64 l.counts]
def mrow (l : LV) : List Value := [.int .i64 l.block, .int .u64 (l.seq : Int), .int .u64 (l.wear : Int), .slice none 0 0, .int .i64 l.counts]
theorem rrow_one (l : LV) : ∀ v ∈ rrow l, v.oneCell' = true := by simp [rrow, Value.oneCell']
theorem mrow_one (l : LV) : ∀ v ∈ mrow l, v.oneCell' = true := by simp [mrow, Value.oneCell']
/-- a load's numbers fit -/
structure LV.ok (l : LV) : Prop where
  seq : l.seq < 18446744073709551616
  wear : l.wear < 18446744073709551616
  block : (Lit.int .i64 l.block).wf = true
  counts : (Lit.int .i64 l.counts).wf = true
theorem flat_get {f : LV → List Value} {s : Nat} (hf : ∀ l, (f l).length = s) : ∀ (L : List LV) (i j : Nat) (l : LV) (u : Value), L[i]? = some l → (f l)[j]? = some u → (L.flatMap f)[i * s + j]? = some u
  | [], i, j, l, u, h, _ => by simp at h
  | x :: L, 0, j, l, u, h, hu => by
    simp only [List.getElem?_cons_zero, Option.some.injEq] at h
    subst h
    rw [List.flatMap_cons, Nat.zero_mul, Nat.zero_add, List.getElem?_append_left (get_lt hu), hu]
  | x :: L, i + 1, j, l, u, h, hu => by
    rw [List.flatMap_cons, List.getElem?_append_right (by rw [hf]; have : (i + 1) * s = i * s + s := Nat.succ_mul i s; omega), hf, show (i + 1) * s + j - s = i * s + j by have : (i + 1) * s = i * s + s := Nat.succ_mul i s; omega]
    exact flat_get hf L i j l u (by simpa using h) hu
theorem flat_length {f : LV → List Value} {s : Nat} (hf : ∀ l, (f l).length = s) (L : List LV) : (L.flatMap f).length = L.length * s := by
  induction L with
  | nil => simp
  | cons x L ih => rw [List.flatMap_cons, List.length_append, hf, ih, List.length_cons, Nat.succ_mul]; omega
theorem rrow_len (l : LV) : (rrow l).length = 4 := rfl
theorem mrow_len (l : LV) : (mrow l).length = 5 := rfl
/-- the cells of the load at a place -/
theorem Row.elem {w : World} {B : Nat} {A : Option Addr} {f : LV → List Value} {s : Nat} {L : List LV} (h : Row w B A (L.flatMap f)) (hf : ∀ l, (f l).length = s) (hs : 0 < s) {i : Nat} {l : LV} (hi : L[i]? = some l) :
    ∃ a, A = some a ∧ a.block < B ∧ ∀ j u, (f l)[j]? = some u → w.cell? ((a.add (i * s)).add j) = some u := by
  have h0 : ∃ u, (f l)[0]? = some u := ⟨_, List.getElem?_eq_getElem (by rw [hf]; exact hs)⟩
  obtain ⟨u, hu⟩ := h0
  obtain ⟨a, rfl, hb, _⟩ := h _ _ (flat_get hf L i 0 l u hi hu)
  refine ⟨a, rfl, hb, fun j u hu => ?_⟩
  obtain ⟨a', e, _, hc⟩ := h _ _ (flat_get hf L i j l u hi hu)
  cases e
  rw [add_twice]
  exact hc
section
variable {P : Program} {w : World} {ty : TypeId} {n : Nat} {q : Addr} {row : List Value}
/-- a value of many cells is loaded, wherever it stands -/
theorem cells_load (hag : ∀ w, (isAgg ty).run P w = .ok true w) (hsz : ∀ w, (sizeOf ty).run P w = .ok n w) (hn : row.length = n) (hc : ∀ j u, row[j]? = some u → w.cell? (q.add j) = some u) : (loadVar ty q).run P w = .ok (.agg row.toArray) w := by
  have h1 := run_loadCells_list (P := P) w q row hc
  rw [hn] at h1
  unfold loadVar
  simp only [Sem.run_bind, hag, Result.andThen_ok, if_true, hsz, Sem.run_pure, h1]
theorem wpl_cells {ops : Array Oper} {rest : List Oper} {o : Oper} {a : Act} {Q : Exit → Act → World → Prop} (hag : ∀ w, (isAgg ty).run P w = .ok true w) (hsz : ∀ w, (sizeOf ty).run P w = .ok n w) (x : Operand) (ho : o.op = .load ty x) (hgd : Region.wanted o (yielded ops a.tmps) = true) (hx : a.eval x = .pointer (some q))
    (hn : row.length = n) (hc : ∀ j u, row[j]? = some u → w.cell? (q.add j) = some u) (h : wpList P ops Q rest (a.put o.dst (.agg row.toArray)) w) : wpList P ops Q (o :: rest) a w := by
  refine BigFrame.wpList_want hgd fun K hK => ?_
  unfold Oper.wp execOp
  simp only [ho, hx, Instr.loadAt, Instr.sureAddr, Sem.run_bind, Sem.run_pure, Result.andThen_ok, cells_load hag hsz hn hc]
  exact hK _ _ h
theorem yields_cells {ops : Array Oper} {o : Oper} {a : Act} {S : World → Prop} (hag : ∀ w, (isAgg ty).run P w = .ok true w) (hsz : ∀ w, (sizeOf ty).run P w = .ok n w) (x : Operand) (ho : o.op = .load ty x) (hgd : Region.wanted o (yielded ops a.tmps) = true) (hx : a.eval x = .pointer (some q))
    (hn : row.length = n) (hS : ∀ w, S w → ∀ j u, row[j]? = some u → w.cell? (q.add j) = some u) : YieldsIf P ops S o (.agg row.toArray) a :=
  .inl ⟨hgd, fun w hw => by
    unfold execOp
    simp only [ho, hx, Instr.loadAt, Instr.sureAddr, Sem.run_bind, Sem.run_pure, Result.andThen_ok, cells_load hag hsz hn (hS w hw)]⟩
end
/-- how two numbers are compared -/
def cmp3 (a b : Int) : Int := if a < b then -1 else if b < a then 1 else 0
theorem cmp3_neg (a b : Int) : decide (cmp3 a b < 0) = decide (a < b) := by
  unfold cmp3
  by_cases h : a < b
  · simp [h]
  · by_cases h2 : b < a <;> simp [h, h2]
theorem cmp3_zero (a b : Int) : cmp3 a b = 0 ↔ a = b := by unfold cmp3; split <;> (try split) <;> omega
/-- the first of some numbers that isn't 0 -/
def firstNZ : List Int → Int
  | [] => 0
  | z :: zs => if z = 0 then firstNZ zs else z
end Go.Proofs.Yticigjkaangkmaa

