/- Append of bytes in a region that draws its order: what is kept. No condition. -/
import Derived.Test.YtdiocjneakfdgaaGreatDoorQCore
namespace Go.Proofs.YtdiocjneakfdgaaGreatDoor
open Go.RowKit
end Go.Proofs.YtdiocjneakfdgaaGreatDoor

