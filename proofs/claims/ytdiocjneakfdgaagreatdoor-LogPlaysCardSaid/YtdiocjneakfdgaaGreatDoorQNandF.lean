/- Several texts of the proof, joined: what each has is said at its head. -/
import Derived.Test.YtdiocjneakfdgaaGreatDoorQNandA
import Derived.BigRegion
import Derived.Test.YtdiocjneakfdgaaGreatDoorQNandN
/- The contract of the reference's Flip, where the bit is there. No condition but what the chip's block holds. -/
namespace Go.Proofs.YtdiocjneakfdgaaGreatDoor
open Go.RowKit
end Go.Proofs.YtdiocjneakfdgaaGreatDoor

/- The contract of the program's Flip. No condition but that the chip is there. -/
namespace Go.Proofs.YtdiocjneakfdgaaGreatDoor
open Go.RowKit
def Ch.flipBad (S : Ch) (b k t : Int) : Prop := b < 0 ∨ (S.bs.length : Int) ≤ b ∨ k < 0 ∨ 7 < k ∨ t < 0 ∨ 2063 < t
instance (S : Ch) (b k t : Int) : Decidable (S.flipBad b k t) := by unfold Ch.flipBad; exact inferInstance
def Ch.flip (S : Ch) (b k t : Int) : Ch × Int := if S.flipBad b k t then (S, 1) else ({ S with bs := putPage S.bs b.toNat k.toNat (NM.fl (pageOf S.bs b.toNat k.toNat) t.toNat) }, 0)
end Go.Proofs.YtdiocjneakfdgaaGreatDoor

