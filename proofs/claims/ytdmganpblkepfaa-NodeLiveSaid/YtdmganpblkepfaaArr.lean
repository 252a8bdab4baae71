/- Words for an array of bytes that goes by value. No condition. -/
import Derived.Test.YtdmganpblkepfaaBase
namespace Go.Proofs.Ytdmganpblkepfaa
open Go.RowKit

/-- the cells of an array of the bytes l -/
def cl (l : List UInt8) : Array Value := (bv l).toArray
/-- the value -/
def ag (l : List UInt8) : Value := .agg (cl l)
section
variable {l : List UInt8}
theorem cl_size (l : List UInt8) : (cl l).size = l.length := by simp [cl, bv]
theorem cl_list (l : List UInt8) : (cl l).toList = bv l := by simp [cl]
theorem cl_get {k : Nat} (h : k < l.length) : (cl l)[k]? = some (.int .u8 (l[k].toNat : Int)) := by
  rw [← Array.getElem?_toList, cl_list, bv_get h]
theorem cl_one (l : List UInt8) : (cl l).all (·.oneCell') = true := Array.all_eq_true_iff_forall_mem.2 fun v hv => bv_one (l := l) (by simpa [cl] using hv)
theorem cl_set (k : Nat) (b : UInt8) : (cl l).setIfInBounds k (.int .u8 (b.toNat : Int)) = cl (l.set k b) := by
  apply Array.toList_inj.1
  rw [Array.toList_setIfInBounds, cl_list, cl_list]
  simp [bv, List.map_set]
end
end Go.Proofs.Ytdmganpblkepfaa
