/-
  NARROWER THAN 'FOR EVERY INPUT', by the rows' own cells (each row's printed sentence says how): DiskWorn: laid · DiskMends: laid · DiskApart: laid · DiskOrder: laid.
  DERIVED. THE GIVEN ROWS OF THIS SEAT. 4 by the template 'for every input the law returns true; each argument reads behind the call as it read before'; 0 by the template 'total and deterministic' (their statements: YtaafelhjcmgkdaaDoorTotals.lean).
  GIVEN WITH THE SEED: the statements are not yours to turn. If you find one false, say at which input.
  Laid BY PROGRAM, IN A SANDBOX (cutbox-rows.mjs): the forced cells as the released guide's own fill.sh prints them over the translation 0b6bfdd1e46578e7… (all of the seat's roots in one cut). By AI agents, Wed Nov 11 2026. No macro, syntax, notation, axiom, sorry.
-/
import Derived.Test.YtaafelhjcmgkdaaDoorChecked
import GoSem.Claim
import GoSem.ClaimJoined
import GoSem.ClaimMapViews
import Derived.JoinedTies
import Derived.KernelRfl
namespace Go.Proofs.YtaafelhjcmgkdaaDoor
/- THE CELL 'sum', in the pinned program and in every row, IS THE sha256 OF THE DUMP (.gsa) THAT YtaafelhjcmgkdaaDoorProg.lean LOADS. Nothing in Lean hashes anything: it is a label: what it is worth is what the hold of that sum in a sandbox is worth. -/
noncomputable def Tryd.pinned : Pinned := { name := "ytaafelhjcmgkdaadoor", sum := "0b6bfdd1e46578e70b94870537fafc8c74cf7c5452a978b06918a6741ec112ba", checked := Tryd.checked }
namespace Rows
def none {H : Type} : Left H := { results := [], args := [] }

/- WHAT THE LISTED PACKAGE-LEVEL VARIABLES READ AS WHEN THE CALL BEGINS. Each datum BY PROGRAM (the guide's laid-datum.mjs) off the statement by which the dump's own 'gosem.cut.vars' lays the variable. In a bare row this is a premise. The card (YtaafelhjcmgkdaaDoorCards.lean) ties it to the program's text. -/
def laid_keelson_crc_nibbles {H : Type} : DataW H := .agg [.lit (.int .u32 0), .lit (.int .u32 498536548), .lit (.int .u32 997073096), .lit (.int .u32 651767980), .lit (.int .u32 1994146192), .lit (.int .u32 1802195444), .lit (.int .u32 1303535960), .lit (.int .u32 1342533948), .lit (.int .u32 3988292384), .lit (.int .u32 4027552580), .lit (.int .u32 3604390888), .lit (.int .u32 3412177804), .lit (.int .u32 2607071920), .lit (.int .u32 2262029012), .lit (.int .u32 2685067896), .lit (.int .u32 3183342108)]

/-- 'keelsonlaw07.DiskWorn': WHATEVER THE INPUT: true; the input reads as it did. -/
def diskWornSpec : ChangeSpec := { name := "diskWorn", fn := fun _ => fun
  | [d] => { results := [.lit (.bool true)], args := [d] }
  | _ => none }
def diskWornRow : OpenClaim := { program := "ytaafelhjcmgkdaadoor", sum := "0b6bfdd1e46578e70b94870537fafc8c74cf7c5452a978b06918a6741ec112ba", func := "keelson/keelsonlaw07.DiskWorn", spec := "diskWorn", unfollowed := true, recurses := true, named := ["keelson/crc.nibbles"], apart := false, laid := [("keelson/crc.nibbles", laid_keelson_crc_nibbles)] }
def DiskWornSaid : Prop := diskWornRow.holds Tryd.pinned (OpenSpec.ofChange diskWornSpec)

/-- ITS FALSE NEIGHBOUR: 'it returns false'. Refute it at one input. -/
def diskWornWrong : ChangeSpec := { name := "diskWorn", fn := fun _ => fun
  | [d] => { results := [.lit (.bool false)], args := [d] }
  | _ => none }
def DiskWornWrongFalsely : Prop := diskWornRow.holds Tryd.pinned (OpenSpec.ofChange diskWornWrong)

/-- 'keelsonlaw07.DiskMends': WHATEVER THE INPUT: true; the input reads as it did. -/
def diskMendsSpec : ChangeSpec := { name := "diskMends", fn := fun _ => fun
  | [d1, d2] => { results := [.lit (.bool true)], args := [d1, d2] }
  | _ => none }
def diskMendsRow : OpenClaim := { program := "ytaafelhjcmgkdaadoor", sum := "0b6bfdd1e46578e70b94870537fafc8c74cf7c5452a978b06918a6741ec112ba", func := "keelson/keelsonlaw07.DiskMends", spec := "diskMends", unfollowed := true, recurses := true, named := ["keelson/crc.nibbles"], apart := false, laid := [("keelson/crc.nibbles", laid_keelson_crc_nibbles)] }
def DiskMendsSaid : Prop := diskMendsRow.holds Tryd.pinned (OpenSpec.ofChange diskMendsSpec)

/-- ITS FALSE NEIGHBOUR: 'it returns false'. Refute it at one input. -/
def diskMendsWrong : ChangeSpec := { name := "diskMends", fn := fun _ => fun
  | [d1, d2] => { results := [.lit (.bool false)], args := [d1, d2] }
  | _ => none }
def DiskMendsWrongFalsely : Prop := diskMendsRow.holds Tryd.pinned (OpenSpec.ofChange diskMendsWrong)

/-- 'keelsonlaw07.DiskApart': WHATEVER THE INPUT: true; the input reads as it did. -/
def diskApartSpec : ChangeSpec := { name := "diskApart", fn := fun _ => fun
  | [d1, d2, d3] => { results := [.lit (.bool true)], args := [d1, d2, d3] }
  | _ => none }
def diskApartRow : OpenClaim := { program := "ytaafelhjcmgkdaadoor", sum := "0b6bfdd1e46578e70b94870537fafc8c74cf7c5452a978b06918a6741ec112ba", func := "keelson/keelsonlaw07.DiskApart", spec := "diskApart", unfollowed := true, recurses := true, named := ["keelson/crc.nibbles"], apart := false, laid := [("keelson/crc.nibbles", laid_keelson_crc_nibbles)] }
def DiskApartSaid : Prop := diskApartRow.holds Tryd.pinned (OpenSpec.ofChange diskApartSpec)

/-- ITS FALSE NEIGHBOUR: 'it returns false'. Refute it at one input. -/
def diskApartWrong : ChangeSpec := { name := "diskApart", fn := fun _ => fun
  | [d1, d2, d3] => { results := [.lit (.bool false)], args := [d1, d2, d3] }
  | _ => none }
def DiskApartWrongFalsely : Prop := diskApartRow.holds Tryd.pinned (OpenSpec.ofChange diskApartWrong)

/-- 'keelsonlaw07.DiskOrder': WHATEVER THE INPUT: true; the input reads as it did. -/
def diskOrderSpec : ChangeSpec := { name := "diskOrder", fn := fun _ => fun
  | [d1, d2] => { results := [.lit (.bool true)], args := [d1, d2] }
  | _ => none }
def diskOrderRow : OpenClaim := { program := "ytaafelhjcmgkdaadoor", sum := "0b6bfdd1e46578e70b94870537fafc8c74cf7c5452a978b06918a6741ec112ba", func := "keelson/keelsonlaw07.DiskOrder", spec := "diskOrder", unfollowed := true, recurses := true, named := ["keelson/crc.nibbles"], apart := false, laid := [("keelson/crc.nibbles", laid_keelson_crc_nibbles)] }
def DiskOrderSaid : Prop := diskOrderRow.holds Tryd.pinned (OpenSpec.ofChange diskOrderSpec)

/-- ITS FALSE NEIGHBOUR: 'it returns false'. Refute it at one input. -/
def diskOrderWrong : ChangeSpec := { name := "diskOrder", fn := fun _ => fun
  | [d1, d2] => { results := [.lit (.bool false)], args := [d1, d2] }
  | _ => none }
def DiskOrderWrongFalsely : Prop := diskOrderRow.holds Tryd.pinned (OpenSpec.ofChange diskOrderWrong)

/- THE SECOND FORM. 'bulk': how many values and letters a reading holds, each counted each time it is reached (what is shared counts as often as it is met; a slice's spare places count too). A statement '..UptoSaid' is the law's where the arguments, and the package variables that the reading takes, are together of bulk at most 1048576: NARROWER than '..Said'. Prove '..Said' where nothing that the law and all that it calls make is longer than what came in: it says more and counts as full. Else prove '..UptoSaid'. A law counts once. -/
mutual
def uptoBulk {H : Type} : DataW H → Nat
  | .lit (.string bytes) => bytes.length + 1
  | .lit _ => 1
  | .nil => 1
  | .ptr d => uptoBulk d + 1
  | .slice elems spare => uptoBulkAll elems + uptoBulkAll spare + 1
  | .agg parts => uptoBulkAll parts + 1
  | .iface _ d => uptoBulk d + 1
  | .map entries => uptoBulkEntries entries + 1
  | .held _ => 1
def uptoBulkAll {H : Type} : List (DataW H) → Nat
  | [] => 0
  | d :: r => uptoBulk d + uptoBulkAll r
def uptoBulkEntries {H : Type} : List (Lit × DataW H) → Nat
  | [] => 0
  | x :: r => uptoBulkEntry x + uptoBulkEntries r
def uptoBulkEntry {H : Type} : Lit × DataW H → Nat
  | (.string bytes, d) => bytes.length + uptoBulk d + 1
  | (_, d) => uptoBulk d + 1
 end
def uptoSmall : (H : Type) → List (DataW H) → Bool := fun _ ds => decide (uptoBulkAll ds ≤ 1048576)
def OpenSpec.upto (s : _root_.Go.ChangeSpec) : _root_.Go.OpenSpec := { _root_.Go.OpenSpec.ofChange s with cond := some uptoSmall }

/-- 'keelsonlaw07.DiskWorn', WHERE WHAT IT READS IS OF BULK AT MOST 1048576: true; the input reads as it did. -/
def diskWornUptoRow : OpenClaim := { program := "ytaafelhjcmgkdaadoor", sum := "0b6bfdd1e46578e70b94870537fafc8c74cf7c5452a978b06918a6741ec112ba", func := "keelson/keelsonlaw07.DiskWorn", spec := "diskWorn", unfollowed := true, recurses := true, named := ["keelson/crc.nibbles"], apart := false, laid := [("keelson/crc.nibbles", laid_keelson_crc_nibbles)], narrowed := true }
def DiskWornUptoSaid : Prop := diskWornUptoRow.holds Tryd.pinned (OpenSpec.upto diskWornSpec)

/-- 'keelsonlaw07.DiskMends', WHERE WHAT IT READS IS OF BULK AT MOST 1048576: true; the input reads as it did. -/
def diskMendsUptoRow : OpenClaim := { program := "ytaafelhjcmgkdaadoor", sum := "0b6bfdd1e46578e70b94870537fafc8c74cf7c5452a978b06918a6741ec112ba", func := "keelson/keelsonlaw07.DiskMends", spec := "diskMends", unfollowed := true, recurses := true, named := ["keelson/crc.nibbles"], apart := false, laid := [("keelson/crc.nibbles", laid_keelson_crc_nibbles)], narrowed := true }
def DiskMendsUptoSaid : Prop := diskMendsUptoRow.holds Tryd.pinned (OpenSpec.upto diskMendsSpec)

/-- 'keelsonlaw07.DiskApart', WHERE WHAT IT READS IS OF BULK AT MOST 1048576: true; the input reads as it did. -/
def diskApartUptoRow : OpenClaim := { program := "ytaafelhjcmgkdaadoor", sum := "0b6bfdd1e46578e70b94870537fafc8c74cf7c5452a978b06918a6741ec112ba", func := "keelson/keelsonlaw07.DiskApart", spec := "diskApart", unfollowed := true, recurses := true, named := ["keelson/crc.nibbles"], apart := false, laid := [("keelson/crc.nibbles", laid_keelson_crc_nibbles)], narrowed := true }
def DiskApartUptoSaid : Prop := diskApartUptoRow.holds Tryd.pinned (OpenSpec.upto diskApartSpec)

/-- 'keelsonlaw07.DiskOrder', WHERE WHAT IT READS IS OF BULK AT MOST 1048576: true; the input reads as it did. -/
def diskOrderUptoRow : OpenClaim := { program := "ytaafelhjcmgkdaadoor", sum := "0b6bfdd1e46578e70b94870537fafc8c74cf7c5452a978b06918a6741ec112ba", func := "keelson/keelsonlaw07.DiskOrder", spec := "diskOrder", unfollowed := true, recurses := true, named := ["keelson/crc.nibbles"], apart := false, laid := [("keelson/crc.nibbles", laid_keelson_crc_nibbles)], narrowed := true }
def DiskOrderUptoSaid : Prop := diskOrderUptoRow.holds Tryd.pinned (OpenSpec.upto diskOrderSpec)

end Rows
end Go.Proofs.YtaafelhjcmgkdaaDoor
