/- The contracts of pack's Nums: it answers the bytes, one behind the other, in new memory. Condition: no more than a million bytes. -/
import Derived.Test.YtdmganpblkepfaaPackNum
namespace Go.Proofs.Ytdmganpblkepfaa
open Go.RowKit

/-- numbers as values -/
def uv (zs : List Nat) : List Value := zs.map fun n : Nat => Value.int .u64 (n : Int)
theorem uv_length (zs : List Nat) : (uv zs).length = zs.length := by simp [uv]
theorem uv_get {zs : List Nat} {k : Nat} (h : k < zs.length) : (uv zs)[k]? = some (.int .u64 (zs[k] : Int)) := by simp [uv, h]
theorem flat_numB (K : Nat) (zs : List Nat) : (zs.flatMap (numB K)).length = K * zs.length := by
  induction zs with
  | nil => rfl
  | cons n zs ih => rw [List.flatMap_cons, List.length_append, ih, numB_length, List.length_cons, Nat.mul_succ, Nat.add_comm]

end Go.Proofs.Ytdmganpblkepfaa
