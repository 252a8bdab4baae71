/- The walk of PackReads: it answers true, and changes nothing that was there. No condition. -/
import Derived.Test.YtdmganpblkepfaaPackEye
import Derived.Test.YtdmganpblkepfaaPackNums
namespace Go.Proofs.Ytdmganpblkepfaa
open Go.RowKit

theorem par1 (k : Nat) (hk : k < 1000) : bits .and .i64 (k : Int) 1 = ((k % 2 : Nat) : Int) := by
  have h : ∀ k : Nat, k < 1000 → bits .and .i64 (k : Int) 1 = ((k % 2 : Nat) : Int) := by decide +kernel
  exact h k hk
theorem Ey.keep {w w' : World} {q base : Nat} {l : List UInt8} {i : Nat} {bad : Bool} (h : Ey w q base l i bad) (hq : w'.heap[q]? = w.heap[q]?) (hb : ∀ p : Addr, p.block < base → w'.cell? p = w.cell? p) : Ey w' q base l i bad := by
  obtain ⟨a1, a2, A, c, a3, a4, a5, a6⟩ := h
  exact ⟨a1, a2, A, c, a3, a4, hq.trans a5, a6.keep hb⟩
theorem Ey.lt {w : World} {q base : Nat} {l : List UInt8} {i : Nat} {bad : Bool} (h : Ey w q base l i bad) : q < w.heap.size := by
  obtain ⟨_, _, A, c, _, _, a5, _⟩ := h
  exact blk_lt a5
/-- the three blocks of the law: they stay while another one is written -/
def Three (w : World) (g h q base : Nat) (l : List UInt8) (i : Nat) (bad : Bool) : Prop :=
  Rd w g h (l.drop i) bad ∧ Ey w q base l i bad ∧ g ≠ q ∧ h ≠ q ∧ h < w.heap.size ∧ base ≤ g ∧ base ≤ h ∧ i ≤ l.length
theorem Three.other {w w' : World} {g h q base x : Nat} {l : List UInt8} {i : Nat} {bad : Bool} (t : Three w g h q base l i bad) (hw : w.grownBy w' (some x)) (hx : x ≠ g ∧ x ≠ h ∧ x ≠ q) (hbw : base ≤ w.heap.size) (hb : base ≤ x) : Three w' g h q base l i bad := by
  obtain ⟨a1, a2, a3, a4, a5, a6, a7, a8⟩ := t
  refine ⟨a1.keep (hw.block g a1.lt (by intro e; injection e with e; exact hx.1 e.symm)) (hw.block h a5 (by intro e; injection e with e; exact hx.2.1 e.symm)),
    a2.keep (hw.block q a2.lt (by intro e; injection e with e; exact hx.2.2 e.symm)) fun p hp => World.cell?_of_block (hw.block p.block (by omega) (by intro e; injection e with e; omega)), a3, a4, Nat.lt_of_lt_of_le a5 hw.size, a6, a7, a8⟩

theorem quiet_any {P : Program} {f : FuncId} {args : Array Value} {w : World} {m : Nat} {v : Value} (h : Calls P f args (w.drewN m) fun e w' => e = .returned v ∧ w' = w.drewN m) : Calls P f args (w.drewN m) fun e w'' => e = .returned v ∧ ∃ k, w'' = w.drewN k :=
  h.mono fun _ _ ⟨a, b⟩ => ⟨a, m, b⟩

end Go.Proofs.Ytdmganpblkepfaa
