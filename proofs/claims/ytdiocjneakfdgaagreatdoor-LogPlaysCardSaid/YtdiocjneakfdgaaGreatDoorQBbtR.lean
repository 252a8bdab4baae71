/- Several texts of the proof, joined: what each has is said at its head. -/
import Derived.Test.YtdiocjneakfdgaaGreatDoorQBbtGood
import Derived.Test.YtdiocjneakfdgaaGreatDoorQBbtA
import Derived.Test.YtdiocjneakfdgaaGreatDoorQBbtS
/- The document's table (bbt's reference): what stands where; the contracts of the calls that only look. Condition: it is there. -/
namespace Go.Proofs.YtdiocjneakfdgaaGreatDoor
open Go.RowKit
def bl (zs : List Bool) : List Value := zs.map Value.bool
section
variable {w w' : World} {lo hi m : Nat} {us : List Nat} {ls : List Bool}
end
section
variable {w : World} {lo hi m : Nat} {l : Lay}
/-- the least spare, or -1 -/
def Lay.first (l : Lay) : Int := (l.spare.map Int.ofNat).getD (-1)
end
end Go.Proofs.YtdiocjneakfdgaaGreatDoor

/- The contracts of the document's Lose and Swap. Condition: the table is there. -/
namespace Go.Proofs.YtdiocjneakfdgaaGreatDoor
open Go.RowKit
section
variable {w : World} {lo hi m : Nat} {l : Lay}
end
end Go.Proofs.YtdiocjneakfdgaaGreatDoor

/- The contract of the document's Copy. Condition: the table is there. -/
namespace Go.Proofs.YtdiocjneakfdgaaGreatDoor
open Go.RowKit
/-- two lists of the call's own, made or not yet made -/
structure Pair2 (b : Nat) (w : World) (vU vV : Value) (xs ys : List Value) : Prop where
  U : w.ownsRow b 3 1 vU xs.length xs
  V : w.ownsRow b 4 1 vV ys.length ys
  ne : ∀ k, vU.ownBlock = some k → vV.ownBlock ≠ some k
section
variable {w : World} {b : Nat} {ops : Array Oper} {o : Oper} {a : Act} {K : Act → World → Prop} {Q : Exit → Act → World → Prop} {E : Prop} {vU vV : Value} {xs ys : List Value}
end
section
variable {w : World} {lo hi m : Nat} {us : List Nat} {ls : List Bool}
end
end Go.Proofs.YtdiocjneakfdgaaGreatDoor

/- The contract of the laws' step: the document's table behind a call. Condition: the table is there, and its layout good. -/
namespace Go.Proofs.YtdiocjneakfdgaaGreatDoor
open Go.RowKit
/-- the block that a call speaks of -/
def Op5.blk (o : Op5) (l : Lay) : Int := if o.least then max l.first 0 else o.b
/-- may the call be done? -/
def Lay.can (l : Lay) (o : Op5) (b : Int) : Bool := if o.lose then l.isSpare b else l.canSwap o.l b
/-- the layout behind the call, if it may be done -/
def Lay.next (l : Lay) (o : Op5) (b : Int) : Lay := if l.can o b then (if o.lose then l.setLost b.toNat else l.swap o.l.toNat b.toNat) else l
section
variable {w : World} {lo hi m : Nat} {l : Lay}
end
end Go.Proofs.YtdiocjneakfdgaaGreatDoor

/- The contract of the laws' same: a table tells what the document's tells. Condition: both are there, and their layout is one, or other blocks are lost. -/
namespace Go.Proofs.YtdiocjneakfdgaaGreatDoor
open Go.RowKit
section
variable {w : World} {t lo hi m : Nat} {a : At} {l l2 : Lay}
end
end Go.Proofs.YtdiocjneakfdgaaGreatDoor

