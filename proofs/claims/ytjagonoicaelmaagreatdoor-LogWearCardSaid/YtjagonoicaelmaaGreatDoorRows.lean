/-
  NARROWER THAN 'FOR EVERY INPUT', by the rows' own cells (each row's printed sentence says how): LogPlays: laid · LogWear: laid · LogEmpty: laid · LogMends: laid · LogFull: laid · LogRoom: laid.
  DERIVED. THE GIVEN ROWS OF THIS SEAT. 6 by the template 'for every input the law returns true; each argument reads behind the call as it read before'; 0 by the template 'total and deterministic' (their statements: YtjagonoicaelmaaGreatDoorTotals.lean).
  GIVEN WITH THE SEED: the statements are not yours to turn. If you find one false, say at which input.
  Laid BY PROGRAM, IN A SANDBOX (cutbox-rows.mjs): the forced cells as the released guide's own fill.sh prints them over the translation 98e2c87741fea829… (all of the seat's roots in one cut). By AI agents, Wed Nov 11 2026. No macro, syntax, notation, axiom, sorry.
-/
import Derived.Test.YtjagonoicaelmaaGreatDoorChecked
import GoSem.Claim
import GoSem.ClaimJoined
import GoSem.ClaimMapViews
import Derived.JoinedTies
import Derived.KernelRfl
namespace Go.Proofs.YtjagonoicaelmaaGreatDoor
/- THE CELL 'sum', in the pinned program and in every row, IS THE sha256 OF THE DUMP (.gsa) THAT YtjagonoicaelmaaGreatDoorProg.lean LOADS. Nothing in Lean hashes anything: it is a label: what it is worth is what the hold of that sum in a sandbox is worth. -/
noncomputable def Tryz.pinned : Pinned := { name := "ytjagonoicaelmaagreatdoor", sum := "98e2c87741fea829e6d1c88893024d74340df9d41e1ddc1e541aff48e523f1f2", checked := Tryz.checked }
namespace Rows
def none {H : Type} : Left H := { results := [], args := [] }

/- WHAT THE LISTED PACKAGE-LEVEL VARIABLES READ AS WHEN THE CALL BEGINS. Each datum BY PROGRAM (the guide's laid-datum.mjs) off the statement by which the dump's own 'gosem.cut.vars' lays the variable. In a bare row this is a premise. The card (YtjagonoicaelmaaGreatDoorCards.lean) ties it to the program's text. -/
def laid_keelson_crc_nibbles {H : Type} : DataW H := .agg [.lit (.int .u32 0), .lit (.int .u32 498536548), .lit (.int .u32 997073096), .lit (.int .u32 651767980), .lit (.int .u32 1994146192), .lit (.int .u32 1802195444), .lit (.int .u32 1303535960), .lit (.int .u32 1342533948), .lit (.int .u32 3988292384), .lit (.int .u32 4027552580), .lit (.int .u32 3604390888), .lit (.int .u32 3412177804), .lit (.int .u32 2607071920), .lit (.int .u32 2262029012), .lit (.int .u32 2685067896), .lit (.int .u32 3183342108)]

/-- 'keelsonlaw08.LogPlays': WHATEVER THE INPUT: true; the input reads as it did. -/
def logPlaysSpec : ChangeSpec := { name := "logPlays", fn := fun _ => fun
  | [d1, d2, d3] => { results := [.lit (.bool true)], args := [d1, d2, d3] }
  | _ => none }
def logPlaysRow : OpenClaim := { program := "ytjagonoicaelmaagreatdoor", sum := "98e2c87741fea829e6d1c88893024d74340df9d41e1ddc1e541aff48e523f1f2", func := "keelson/keelsonlaw08.LogPlays", spec := "logPlays", inPlace := ["internal/bytealg.MakeNoZero"], unfollowed := true, recurses := true, named := ["keelson/crc.nibbles"], apart := false, laid := [("keelson/crc.nibbles", laid_keelson_crc_nibbles)] }
def LogPlaysSaid : Prop := logPlaysRow.holds Tryz.pinned (OpenSpec.ofChange logPlaysSpec)

/-- ITS FALSE NEIGHBOUR: 'it returns false'. Refute it at one input. -/
def logPlaysWrong : ChangeSpec := { name := "logPlays", fn := fun _ => fun
  | [d1, d2, d3] => { results := [.lit (.bool false)], args := [d1, d2, d3] }
  | _ => none }
def LogPlaysWrongFalsely : Prop := logPlaysRow.holds Tryz.pinned (OpenSpec.ofChange logPlaysWrong)

/-- 'keelsonlaw08.LogWear': WHATEVER THE INPUT: true; the input reads as it did. -/
def logWearSpec : ChangeSpec := { name := "logWear", fn := fun _ => fun
  | [d] => { results := [.lit (.bool true)], args := [d] }
  | _ => none }
def logWearRow : OpenClaim := { program := "ytjagonoicaelmaagreatdoor", sum := "98e2c87741fea829e6d1c88893024d74340df9d41e1ddc1e541aff48e523f1f2", func := "keelson/keelsonlaw08.LogWear", spec := "logWear", inPlace := ["internal/bytealg.MakeNoZero"], unfollowed := true, recurses := true, named := ["keelson/crc.nibbles"], apart := false, laid := [("keelson/crc.nibbles", laid_keelson_crc_nibbles)] }
def LogWearSaid : Prop := logWearRow.holds Tryz.pinned (OpenSpec.ofChange logWearSpec)

/-- ITS FALSE NEIGHBOUR: 'it returns false'. Refute it at one input. -/
def logWearWrong : ChangeSpec := { name := "logWear", fn := fun _ => fun
  | [d] => { results := [.lit (.bool false)], args := [d] }
  | _ => none }
def LogWearWrongFalsely : Prop := logWearRow.holds Tryz.pinned (OpenSpec.ofChange logWearWrong)

/-- 'keelsonlaw08.LogEmpty': WHATEVER THE INPUT: true; the input reads as it did. -/
def logEmptySpec : ChangeSpec := { name := "logEmpty", fn := fun _ => fun
  | [d1, d2] => { results := [.lit (.bool true)], args := [d1, d2] }
  | _ => none }
def logEmptyRow : OpenClaim := { program := "ytjagonoicaelmaagreatdoor", sum := "98e2c87741fea829e6d1c88893024d74340df9d41e1ddc1e541aff48e523f1f2", func := "keelson/keelsonlaw08.LogEmpty", spec := "logEmpty", inPlace := ["internal/bytealg.MakeNoZero"], unfollowed := true, recurses := true, named := ["keelson/crc.nibbles"], apart := false, laid := [("keelson/crc.nibbles", laid_keelson_crc_nibbles)] }
def LogEmptySaid : Prop := logEmptyRow.holds Tryz.pinned (OpenSpec.ofChange logEmptySpec)

/-- ITS FALSE NEIGHBOUR: 'it returns false'. Refute it at one input. -/
def logEmptyWrong : ChangeSpec := { name := "logEmpty", fn := fun _ => fun
  | [d1, d2] => { results := [.lit (.bool false)], args := [d1, d2] }
  | _ => none }
def LogEmptyWrongFalsely : Prop := logEmptyRow.holds Tryz.pinned (OpenSpec.ofChange logEmptyWrong)

/-- 'keelsonlaw08.LogMends': WHATEVER THE INPUT: true; the input reads as it did. -/
def logMendsSpec : ChangeSpec := { name := "logMends", fn := fun _ => fun
  | [d1, d2] => { results := [.lit (.bool true)], args := [d1, d2] }
  | _ => none }
def logMendsRow : OpenClaim := { program := "ytjagonoicaelmaagreatdoor", sum := "98e2c87741fea829e6d1c88893024d74340df9d41e1ddc1e541aff48e523f1f2", func := "keelson/keelsonlaw08.LogMends", spec := "logMends", inPlace := ["internal/bytealg.MakeNoZero"], unfollowed := true, recurses := true, named := ["keelson/crc.nibbles"], apart := false, laid := [("keelson/crc.nibbles", laid_keelson_crc_nibbles)] }
def LogMendsSaid : Prop := logMendsRow.holds Tryz.pinned (OpenSpec.ofChange logMendsSpec)

/-- ITS FALSE NEIGHBOUR: 'it returns false'. Refute it at one input. -/
def logMendsWrong : ChangeSpec := { name := "logMends", fn := fun _ => fun
  | [d1, d2] => { results := [.lit (.bool false)], args := [d1, d2] }
  | _ => none }
def LogMendsWrongFalsely : Prop := logMendsRow.holds Tryz.pinned (OpenSpec.ofChange logMendsWrong)

/-- 'keelsonlaw08.LogFull': WHATEVER THE INPUT: true; the input reads as it did. -/
def logFullSpec : ChangeSpec := { name := "logFull", fn := fun _ => fun
  | [d1, d2] => { results := [.lit (.bool true)], args := [d1, d2] }
  | _ => none }
def logFullRow : OpenClaim := { program := "ytjagonoicaelmaagreatdoor", sum := "98e2c87741fea829e6d1c88893024d74340df9d41e1ddc1e541aff48e523f1f2", func := "keelson/keelsonlaw08.LogFull", spec := "logFull", inPlace := ["internal/bytealg.MakeNoZero"], unfollowed := true, recurses := true, named := ["keelson/crc.nibbles"], apart := false, laid := [("keelson/crc.nibbles", laid_keelson_crc_nibbles)] }
def LogFullSaid : Prop := logFullRow.holds Tryz.pinned (OpenSpec.ofChange logFullSpec)

/-- ITS FALSE NEIGHBOUR: 'it returns false'. Refute it at one input. -/
def logFullWrong : ChangeSpec := { name := "logFull", fn := fun _ => fun
  | [d1, d2] => { results := [.lit (.bool false)], args := [d1, d2] }
  | _ => none }
def LogFullWrongFalsely : Prop := logFullRow.holds Tryz.pinned (OpenSpec.ofChange logFullWrong)

/-- 'keelsonlaw08.LogRoom': WHATEVER THE INPUT: true; the input reads as it did. -/
def logRoomSpec : ChangeSpec := { name := "logRoom", fn := fun _ => fun
  | [d] => { results := [.lit (.bool true)], args := [d] }
  | _ => none }
def logRoomRow : OpenClaim := { program := "ytjagonoicaelmaagreatdoor", sum := "98e2c87741fea829e6d1c88893024d74340df9d41e1ddc1e541aff48e523f1f2", func := "keelson/keelsonlaw08.LogRoom", spec := "logRoom", inPlace := ["internal/bytealg.MakeNoZero"], unfollowed := true, recurses := true, named := ["keelson/crc.nibbles"], apart := false, laid := [("keelson/crc.nibbles", laid_keelson_crc_nibbles)] }
def LogRoomSaid : Prop := logRoomRow.holds Tryz.pinned (OpenSpec.ofChange logRoomSpec)

/-- ITS FALSE NEIGHBOUR: 'it returns false'. Refute it at one input. -/
def logRoomWrong : ChangeSpec := { name := "logRoom", fn := fun _ => fun
  | [d] => { results := [.lit (.bool false)], args := [d] }
  | _ => none }
def LogRoomWrongFalsely : Prop := logRoomRow.holds Tryz.pinned (OpenSpec.ofChange logRoomWrong)

/- THE SECOND FORM. 'bulk': how many values and letters a reading holds, each counted each time it is reached (what is shared counts as often as it is met; a slice's spare places count too). A statement '..UptoSaid' is the law's where the arguments, and the package variables that the reading takes, are together of bulk at most 1048576: NARROWER than '..Said'. Prove '..Said' where nothing that the law and all that it calls make is longer than what came in: it says more and counts as full. Else prove '..UptoSaid'. A law counts once. -/
mutual
def uptoBulk {H : Type} : DataW H → Nat
  | .lit (.string bytes) => bytes.length + 1
  | .lit _ => 1
  | .nil => 1
  | .ptr d => uptoBulk d + 1
  | .slice elems spare => uptoBulkAll elems + uptoBulkAll spare + 1
  | .agg parts => uptoBulkAll parts + 1
  | .iface _ d => uptoBulk d + 1
  | .map entries => uptoBulkEntries entries + 1
  | .held _ => 1
def uptoBulkAll {H : Type} : List (DataW H) → Nat
  | [] => 0
  | d :: r => uptoBulk d + uptoBulkAll r
def uptoBulkEntries {H : Type} : List (Lit × DataW H) → Nat
  | [] => 0
  | x :: r => uptoBulkEntry x + uptoBulkEntries r
def uptoBulkEntry {H : Type} : Lit × DataW H → Nat
  | (.string bytes, d) => bytes.length + uptoBulk d + 1
  | (_, d) => uptoBulk d + 1
 end
def uptoSmall : (H : Type) → List (DataW H) → Bool := fun _ ds => decide (uptoBulkAll ds ≤ 1048576)
def OpenSpec.upto (s : _root_.Go.ChangeSpec) : _root_.Go.OpenSpec := { _root_.Go.OpenSpec.ofChange s with cond := some uptoSmall }

/-- 'keelsonlaw08.LogPlays', WHERE WHAT IT READS IS OF BULK AT MOST 1048576: true; the input reads as it did. -/
def logPlaysUptoRow : OpenClaim := { program := "ytjagonoicaelmaagreatdoor", sum := "98e2c87741fea829e6d1c88893024d74340df9d41e1ddc1e541aff48e523f1f2", func := "keelson/keelsonlaw08.LogPlays", spec := "logPlays", inPlace := ["internal/bytealg.MakeNoZero"], unfollowed := true, recurses := true, named := ["keelson/crc.nibbles"], apart := false, laid := [("keelson/crc.nibbles", laid_keelson_crc_nibbles)], narrowed := true }
def LogPlaysUptoSaid : Prop := logPlaysUptoRow.holds Tryz.pinned (OpenSpec.upto logPlaysSpec)

/-- 'keelsonlaw08.LogWear', WHERE WHAT IT READS IS OF BULK AT MOST 1048576: true; the input reads as it did. -/
def logWearUptoRow : OpenClaim := { program := "ytjagonoicaelmaagreatdoor", sum := "98e2c87741fea829e6d1c88893024d74340df9d41e1ddc1e541aff48e523f1f2", func := "keelson/keelsonlaw08.LogWear", spec := "logWear", inPlace := ["internal/bytealg.MakeNoZero"], unfollowed := true, recurses := true, named := ["keelson/crc.nibbles"], apart := false, laid := [("keelson/crc.nibbles", laid_keelson_crc_nibbles)], narrowed := true }
def LogWearUptoSaid : Prop := logWearUptoRow.holds Tryz.pinned (OpenSpec.upto logWearSpec)

/-- 'keelsonlaw08.LogEmpty', WHERE WHAT IT READS IS OF BULK AT MOST 1048576: true; the input reads as it did. -/
def logEmptyUptoRow : OpenClaim := { program := "ytjagonoicaelmaagreatdoor", sum := "98e2c87741fea829e6d1c88893024d74340df9d41e1ddc1e541aff48e523f1f2", func := "keelson/keelsonlaw08.LogEmpty", spec := "logEmpty", inPlace := ["internal/bytealg.MakeNoZero"], unfollowed := true, recurses := true, named := ["keelson/crc.nibbles"], apart := false, laid := [("keelson/crc.nibbles", laid_keelson_crc_nibbles)], narrowed := true }
def LogEmptyUptoSaid : Prop := logEmptyUptoRow.holds Tryz.pinned (OpenSpec.upto logEmptySpec)

/-- 'keelsonlaw08.LogMends', WHERE WHAT IT READS IS OF BULK AT MOST 1048576: true; the input reads as it did. -/
def logMendsUptoRow : OpenClaim := { program := "ytjagonoicaelmaagreatdoor", sum := "98e2c87741fea829e6d1c88893024d74340df9d41e1ddc1e541aff48e523f1f2", func := "keelson/keelsonlaw08.LogMends", spec := "logMends", inPlace := ["internal/bytealg.MakeNoZero"], unfollowed := true, recurses := true, named := ["keelson/crc.nibbles"], apart := false, laid := [("keelson/crc.nibbles", laid_keelson_crc_nibbles)], narrowed := true }
def LogMendsUptoSaid : Prop := logMendsUptoRow.holds Tryz.pinned (OpenSpec.upto logMendsSpec)

/-- 'keelsonlaw08.LogFull', WHERE WHAT IT READS IS OF BULK AT MOST 1048576: true; the input reads as it did. -/
def logFullUptoRow : OpenClaim := { program := "ytjagonoicaelmaagreatdoor", sum := "98e2c87741fea829e6d1c88893024d74340df9d41e1ddc1e541aff48e523f1f2", func := "keelson/keelsonlaw08.LogFull", spec := "logFull", inPlace := ["internal/bytealg.MakeNoZero"], unfollowed := true, recurses := true, named := ["keelson/crc.nibbles"], apart := false, laid := [("keelson/crc.nibbles", laid_keelson_crc_nibbles)], narrowed := true }
def LogFullUptoSaid : Prop := logFullUptoRow.holds Tryz.pinned (OpenSpec.upto logFullSpec)

/-- 'keelsonlaw08.LogRoom', WHERE WHAT IT READS IS OF BULK AT MOST 1048576: true; the input reads as it did. -/
def logRoomUptoRow : OpenClaim := { program := "ytjagonoicaelmaagreatdoor", sum := "98e2c87741fea829e6d1c88893024d74340df9d41e1ddc1e541aff48e523f1f2", func := "keelson/keelsonlaw08.LogRoom", spec := "logRoom", inPlace := ["internal/bytealg.MakeNoZero"], unfollowed := true, recurses := true, named := ["keelson/crc.nibbles"], apart := false, laid := [("keelson/crc.nibbles", laid_keelson_crc_nibbles)], narrowed := true }
def LogRoomUptoSaid : Prop := logRoomUptoRow.holds Tryz.pinned (OpenSpec.upto logRoomSpec)

end Rows
end Go.Proofs.YtjagonoicaelmaaGreatDoor
