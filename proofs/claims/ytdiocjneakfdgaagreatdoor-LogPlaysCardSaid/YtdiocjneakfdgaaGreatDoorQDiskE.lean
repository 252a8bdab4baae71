/- All blocks of a disk in a script of a law, while the power lasts. Condition: the disk is in order; few calls so far. -/
import Derived.Test.YtdiocjneakfdgaaGreatDoorQDiskD
namespace Go.Proofs.YtdiocjneakfdgaaGreatDoor
open Go.RowKit
/-- what each block holds -/
def HasAll (X : DS) (N : Nat) (F : Nat → List (List UInt8)) : Prop := ∀ y, y < N - 6 → (F y).length ≤ 8 ∧ (∀ q ∈ F y, Stable q) ∧ Has (X.blk y) (F y)
def upd1 (F : Nat → List (List UInt8)) (b : Nat) (L : List (List UInt8)) : Nat → List (List UInt8) := fun y => if y = b then L else F y
def there (N : Nat) (b k : Int) : Bool := decide (0 ≤ b ∧ b < ((N - 6 : Nat) : Int) ∧ 0 ≤ k ∧ k < 8)
/-- what a Program answers, and leaves -/
def progE (N : Nat) (F : Nat → List (List UInt8)) (b k : Int) : Int := if there N b k then (if k = ((F b.toNat).length : Int) then 0 else 32) else 1
def progF (N : Nat) (F : Nat → List (List UInt8)) (b k : Int) (p : List UInt8) : Nat → List (List UInt8) := if there N b k then (if k = ((F b.toNat).length : Int) then upd1 F b.toNat (F b.toNat ++ [p]) else F) else F
def eraE (N : Nat) (b : Int) : Int := if there N b 0 then 0 else 1
def eraF (N : Nat) (F : Nat → List (List UInt8)) (b : Int) : Nat → List (List UInt8) := if there N b 0 then upd1 F b.toNat [] else F
section
variable {w w' : World} {d t : Nat} {a : At} {X : DS} {N f e K : Nat} {F : Nat → List (List UInt8)}
end
end Go.Proofs.YtdiocjneakfdgaaGreatDoor

