/- The type of byte slices at this program: what append and string ask of it. No condition. -/
import Derived.Test.YtdmganpblkepfaaProg
import Derived.Test.YtdmganpblkepfaaMem
namespace Go.Proofs.Ytdmganpblkepfaa
open Go.RowKit

theorem byteTys : OneCell Try.prog 23 5 (.int .u8 0) 1 := OneCell.mk' Try.underlying23 (by kernel_rfl) (by decide)
theorem str_of {w : World} {B : Nat} {v : Value} {l : List UInt8} (h : Bytes w B v l) : (convert 23 9 v).run Try.prog w = .ok (.string ⟨l.toArray⟩) w :=
  run_str byteTys Try.underlying5 Try.underlying9 h
end Go.Proofs.Ytdmganpblkepfaa
