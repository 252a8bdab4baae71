/- The type of byte slices at this program: what append and string ask of it. No condition. -/
import Derived.Test.YtnclefdlmbkjmaaDoorProg
import Derived.Test.YtnclefdlmbkjmaaDoorMem
namespace Go.Proofs.YtnclefdlmbkjmaaDoor
open Go.RowKit

theorem byteTys : OneCell Tryd.prog 24 5 (.int .u8 0) 1 := OneCell.mk' Tryd.underlying24 (by kernel_rfl) (by decide)
theorem str_of {w : World} {B : Nat} {v : Value} {l : List UInt8} (h : Bytes w B v l) : (convert 24 9 v).run Tryd.prog w = .ok (.string ⟨l.toArray⟩) w :=
  run_str byteTys Tryd.underlying5 Tryd.underlying9 h
end Go.Proofs.YtnclefdlmbkjmaaDoor
