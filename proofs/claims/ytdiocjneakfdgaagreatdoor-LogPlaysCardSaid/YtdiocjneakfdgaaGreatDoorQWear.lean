/- Several texts of the proof, joined: what each has is said at its head. -/
import Derived.WalkKit
import Derived.Test.YtdiocjneakfdgaaGreatDoorQCore
/- The mathematics of layer 10: the least of some by an order, the first one of several; what is unique; the greatest wear above the least. No condition. -/
namespace Go.Proofs.YtdiocjneakfdgaaGreatDoor.WM
/-- a load: its number, wear, block, and how many of its records count -/
structure LV where
  seq : Nat
  wear : Nat
  block : Int
  counts : Int
deriving DecidableEq
instance : Inhabited LV := ⟨⟨0, 0, 0, 0⟩⟩
/-- the place of the first least one of the first k -/
def lfold (lt : Nat → Nat → Bool) : Nat → Nat
  | 0 => 0
  | k + 1 => if lt k (lfold lt k) then k else lfold lt k
def step {α : Type} (lt : α → α → Bool) (b : Option α) (x : α) : Option α :=
  match b with
  | none => some x
  | some y => if lt x y then some x else some y
/-- the first least one of a list -/
def pick {α : Type} (lt : α → α → Bool) (l : List α) : Option α := l.foldl (step lt) none
section
variable {α : Type} {lt : α → α → Bool} {l : List α}
end
/-- newer, sooner, more and less worn -/
def newer (a b : LV) : Bool := decide (b.seq < a.seq)
def sooner (a b : LV) : Bool := decide (a.counts < b.counts) || (decide (a.counts = b.counts) && (decide (a.wear < b.wear) || (decide (a.wear = b.wear) && decide (a.block < b.block))))
def lessWorn (a b : LV) : Bool := decide (a.wear < b.wear)
def moreWorn (a b : LV) : Bool := decide (b.wear < a.wear)
def at_ (L : List LV) (i : Nat) : LV := L.getD i default
/-- the newest one's place -/
def newest (L : List LV) : Nat := lfold (fun i j => newer (at_ L i) (at_ L j)) L.length
def others (L : List LV) (k : Nat) : List Nat := (List.range k).filter fun i => !decide (i = newest L)
/-- the place of the one that is emptied next -/
def victim (L : List LV) : Option Nat := pick (fun i j => sooner (at_ L i) (at_ L j)) (others L L.length)
/-- .. and so is what the document's way finds: best over the first k -/
def best (L : List LV) (k : Nat) : Option Nat := pick (fun i j => sooner (at_ L i) (at_ L j)) (others L k)
end Go.Proofs.YtdiocjneakfdgaaGreatDoor.WM

/- Layer 10: loads in memory; how one is loaded; how two are compared. No condition but that they are there. -/
namespace Go.Proofs.YtdiocjneakfdgaaGreatDoor
open Go.RowKit WM
/-- a load's cells: the document's, and the program's -/
def rrow (l : LV) : List Value := [.int .u64 (l.seq : Int), .int .u64 (l.wear : Int), .int .i64 l.block, .int .i64 l.counts]
def mrow (l : LV) : List Value := [.int .i64 l.block, .int .u64 (l.seq : Int), .int .u64 (l.wear : Int), .slice none 0 0, .int .i64 l.counts]
/-- a load's numbers fit -/
structure LV.ok (l : LV) : Prop where
  seq : l.seq < 18446744073709551616
  wear : l.wear < 18446744073709551616
  block : (Lit.int .i64 l.block).wf = true
  counts : (Lit.int .i64 l.counts).wf = true
section
variable {P : Program} {w : World} {ty : TypeId} {n : Nat} {q : Addr} {row : List Value}
/-- a value of many cells is loaded, wherever it stands -/
theorem cells_load (hag : ∀ w, (isAgg ty).run P w = .ok true w) (hsz : ∀ w, (sizeOf ty).run P w = .ok n w) (hn : row.length = n) (hc : ∀ j u, row[j]? = some u → w.cell? (q.add j) = some u) : (loadVar ty q).run P w = .ok (.agg row.toArray) w := by
  have h1 := run_loadCells_list (P := P) w q row hc
  rw [hn] at h1
  unfold loadVar
  simp only [Sem.run_bind, hag, Result.andThen_ok, if_true, hsz, Sem.run_pure, h1]
theorem wpl_cells {ops : Array Oper} {rest : List Oper} {o : Oper} {a : Act} {Q : Exit → Act → World → Prop} (hag : ∀ w, (isAgg ty).run P w = .ok true w) (hsz : ∀ w, (sizeOf ty).run P w = .ok n w) (x : Operand) (ho : o.op = .load ty x) (hgd : Region.wanted o (yielded ops a.tmps) = true) (hx : a.eval x = .pointer (some q))
    (hn : row.length = n) (hc : ∀ j u, row[j]? = some u → w.cell? (q.add j) = some u) (h : wpList P ops Q rest (a.put o.dst (.agg row.toArray)) w) : wpList P ops Q (o :: rest) a w := by
  refine BigFrame.wpList_want hgd fun K hK => ?_
  unfold Oper.wp execOp
  simp only [ho, hx, Instr.loadAt, Instr.sureAddr, Sem.run_bind, Sem.run_pure, Result.andThen_ok, cells_load hag hsz hn hc]
  exact hK _ _ h
end
/-- how two numbers are compared -/
def cmp3 (a b : Int) : Int := if a < b then -1 else if b < a then 1 else 0
theorem nan_u64 (a : Int) (w : World) : Calls Tryz.prog 71 #[.int .u64 a] w fun e w' => e = .returned (.bool false) ∧ w = w' := by
  go_enter Tryz.func71, Tryz.ntmps71
  go_wp2
  go_ret
  exact ⟨rfl, rfl⟩
theorem compare_u64 (a b : Int) (w : World) : Calls Tryz.prog 48 #[.int .u64 a, .int .u64 b] w fun e w' => e = .returned (.int .i64 (cmp3 a b)) ∧ w = w' := by
  unfold cmp3
  by_cases h : a < b
  · rw [if_pos h]
    go_enter Tryz.func48, Tryz.ntmps48
    go_wp2_with ((with_reducible refine (nan_u64 _ _).mono ?_); rintro e w' ⟨rfl, rfl⟩)
    go_ret
    exact ⟨rfl, rfl⟩
  · rw [if_neg h]
    by_cases h2 : b < a
    · rw [if_pos h2]
      go_enter Tryz.func48, Tryz.ntmps48
      go_wp2_with ((with_reducible refine (nan_u64 _ _).mono ?_); rintro e w' ⟨rfl, rfl⟩)
      go_ret
      exact ⟨rfl, rfl⟩
    · rw [if_neg h2]
      go_enter Tryz.func48, Tryz.ntmps48
      go_wp2_with ((with_reducible refine (nan_u64 _ _).mono ?_); rintro e w' ⟨rfl, rfl⟩)
      go_ret
      exact ⟨rfl, rfl⟩
/-- the first of some numbers that isn't 0 -/
def firstNZ : List Int → Int
  | [] => 0
  | z :: zs => if z = 0 then firstNZ zs else z
end Go.Proofs.YtdiocjneakfdgaaGreatDoor

