/- The contracts of node's Write: a node's bytes. No condition but that the body is there. -/
import Derived.Test.YticigjkaangkmaaQCore
import Derived.Deep.RegionHeld3
import Derived.Deep.QuietTactic
import Derived.BigQuiet
namespace Go.Proofs.Yticigjkaangkmaa
open Go.RowKit
/-- a node's bytes -/
def nb (k e : Nat) (l : List UInt8) : List UInt8 := numB 1 k ++ (numB 8 e ++ l)
theorem nb_length (k e : Nat) (l : List UInt8) : (nb k e l).length = 9 + l.length := by
  simp only [nb, List.length_append, numB_length]; omega
def nodeA (k : Int) (e : Nat) (v : Value) : Array Value := #[.int .i64 k, .int .u64 (e : Int), v]
end Go.Proofs.Yticigjkaangkmaa

