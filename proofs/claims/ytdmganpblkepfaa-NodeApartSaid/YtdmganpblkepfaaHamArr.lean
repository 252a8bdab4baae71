/- The data as an array in a block of its own: what loading, storing, and comparing it whole leave. No condition. -/
import Derived.Test.YtdmganpblkepfaaProg
import Derived.Test.YtdmganpblkepfaaArr
import Derived.Test.YtdmganpblkepfaaHamMath
import Derived.Deep.WholeRow
import Derived.BigFrame
namespace Go.Proofs.Ytdmganpblkepfaa
open Go.RowKit

theorem cl_zeros : Array.replicate 256 (.int .u8 0) = cl HM.zeros := by
  apply Array.toList_inj.1
  rw [cl_list]
  unfold HM.zeros bv
  rw [List.map_replicate, Array.toList_replicate]
  rfl
section
variable {w w' : World} {g B : Nat} {L L' : List UInt8}
theorem grown_setCell (w : World) (g k : Nat) (v : Value) : w.grownBy (w.setCell ⟨g, k, none⟩ v).drew (some g) :=
  ⟨rfl, rfl, rfl, by simp, fun j _ hj => Below.heap_setCell w _ v j (by simpa using hj)⟩
end
end Go.Proofs.Ytdmganpblkepfaa
