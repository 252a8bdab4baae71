/- Layer 13, plainly: what is seen of a chip, and the choice. No condition. -/
import Derived.Test.YticigjkaangkmaaQViewS
import Derived.Test.YticigjkaangkmaaQCommitEq
import Derived.Laws.CopyRow
namespace Go.Proofs.Yticigjkaangkmaa
open Go Go.RowKit
/-- what is seen of a chip -/
structure EC where
  h : Bool
  s : Bool
  n : Bool
  e : Nat
  L : List UInt8
  u : Nat
  seen : Nat
  v : VV
deriving DecidableEq
def EC.zero : EC := ⟨false, false, false, 0, List.replicate 32 0, 0, 0, VV.zero⟩
instance : Inhabited EC := ⟨EC.zero⟩
def crow (c : EC) : List Value := [.bool c.h, .bool c.s, .bool c.n] ++ (ccs c.e c.L c.u ++ [.int .u64 (c.seen : Int), .int .u64 (c.v.n : Int), .int .i64 c.v.m, .int .u64 (c.v.b : Int)])
structure EC.ok (c : EC) : Prop where
  L : c.L.length = 32
theorem crow_len {c : EC} (h : c.ok) : (crow c).length = 41 := by
  have := ccs_length (e := c.e) (s := c.u) h.L
  unfold crow
  simp [this]
theorem ccs_one1 (e : Nat) (L : List UInt8) (s : Nat) : ∀ v ∈ ccs e L s, v.oneCell' = true := by
  intro v hv
  unfold ccs at hv
  rcases List.mem_cons.1 hv with rfl | hv
  · rfl
  · rcases List.mem_append.1 hv with q | q
    · exact bv_one q
    · simp at q; subst q; rfl
theorem crow_one (c : EC) : ∀ x ∈ crow c, x.oneCell' = true := by
  intro x hx
  unfold crow at hx
  rcases List.mem_append.1 hx with q | q
  · simp at q; rcases q with rfl | rfl | rfl <;> rfl
  · rcases List.mem_append.1 q with q | q
    · exact ccs_one1 _ _ _ x q
    · simp at q; rcases q with rfl | rfl | rfl | rfl <;> rfl
theorem crow_0 (c : EC) : (crow c)[0]? = some (.bool c.h) := rfl
theorem crow_1 (c : EC) : (crow c)[1]? = some (.bool c.s) := rfl
theorem crow_2 (c : EC) : (crow c)[2]? = some (.bool c.n) := rfl
theorem crow_3 (c : EC) : (crow c)[3]? = some (.int .u64 (c.e : Int)) := rfl
theorem crow_seg {c : EC} (h : c.ok) : ((crow c).drop 3).take 34 = ccs c.e c.L c.u := by
  have := ccs_length (e := c.e) (s := c.u) h.L
  unfold crow
  rw [List.drop_append_of_le_length (by simp)]
  simp only [List.drop_succ_cons, List.drop_zero, List.nil_append]
  rw [List.take_append_of_le_length (by rw [this]; exact Nat.le_refl _), List.take_of_length_le (by rw [this]; exact Nat.le_refl _)]
/-- a plan -/
structure PL where
  c : Int
  m : Int
  f : Bool
deriving DecidableEq
def PL.zero : PL := ⟨0, 0, false⟩
abbrev pv (p : PL) : Value := .agg #[.int .i64 p.c, .int .i64 p.m, .bool p.f]
def EC.holds (c : EC) : Bool := c.h && c.s
def EC.may (t : VV) (c : EC) (i : Int) : Bool := c.h && c.s && c.n && t.has i && decide (t.b ≤ c.e)
def EC.hurt (t : VV) (c : EC) (i : Int) : Bool := c.h && c.s && !c.n && t.has i
def EC.last (a b : EC) : Bool := eqC a.e b.e a.L b.L a.u b.u
/-- which chip is chosen, where one may be -/
def pickC (x y : Bool) (a b : EC) : Int := if x = false ∨ (y = true ∧ a.e < b.e) then 1 else 0
def choose (t : VV) (a b : EC) : PL × Int :=
  let x := EC.may t a 0
  let y := EC.may t b 1
  if t.right = false ∨ (a.holds = false ∧ b.holds = false) then (PL.zero, 51)
  else if x = false ∧ y = false then (PL.zero, if EC.hurt t a 0 = true ∨ EC.hurt t b 1 = true then 21 else 50)
  else
    let c := pickC x y a b
    let m : Int := if x = true ∧ y = true ∧ EC.last a b = true then 3 else c + 1
    (⟨c, m, !decide (m = t.m)⟩, 0)
theorem aggC : ∀ w, (isAgg 52).run Try.prog w = .ok true w := fun _ => by kernel_rfl
theorem sizeC : ∀ w, (sizeOf 52).run Try.prog w = .ok 41 w := fun _ => by kernel_rfl
theorem sizePr : ∀ w, (sizeOf 68).run Try.prog w = .ok 82 w := fun _ => by kernel_rfl
theorem aggPl : ∀ w, (isAgg 54).run Try.prog w = .ok true w := fun _ => by kernel_rfl
theorem sizePl : ∀ w, (sizeOf 54).run Try.prog w = .ok 3 w := fun _ => by kernel_rfl
theorem aggPr : ∀ w, (isAgg 68).run Try.prog w = .ok true w := fun _ => by kernel_rfl
section
variable {w w' : World} {g : Nat} {t : TypeId} {cs rc : List Value}
/-- a chip out of a block, wherever it stands there -/
theorem wpl_cload {ops : Array Oper} {rest : List Oper} {o : Oper} {a : Act} {Q : Exit → Act → World → Prop} (x : Operand) (ho : o.op = .load 52 x) (hgd : Region.wanted o (yielded ops a.tmps) = true) (hB : Blk w g t cs) (i : Nat) (hv : (cs.drop i).take 41 = rc) (hn : rc.length = 41) (hx : a.eval x = .pointer (some ⟨g, i, none⟩))
    (h : wpList Try.prog ops Q rest (a.put o.dst (.agg rc.toArray)) w) : wpList Try.prog ops Q (o :: rest) a w :=
  wpl_seg_load aggC sizeC x ho hgd hB i rc hv hn hx h
theorem all41 (h : rc.length = 41) : (rc.drop 0).take 41 = rc := by rw [List.drop_zero, List.take_of_length_le (Nat.le_of_eq h)]
end
end Go.Proofs.Yticigjkaangkmaa

