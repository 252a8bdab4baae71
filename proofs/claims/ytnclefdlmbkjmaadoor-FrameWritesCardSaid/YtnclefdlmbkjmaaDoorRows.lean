/-
  NARROWER THAN 'FOR EVERY INPUT', by the rows' own cells (each row's printed sentence says how): FrameWrites: laid · FrameReads: laid · FrameMends: laid · FrameTorn: laid · FrameApart: laid.
  DERIVED. THE GIVEN ROWS OF THIS SEAT. 5 by the template 'for every input the law returns true; each argument reads behind the call as it read before'; 0 by the template 'total and deterministic' (their statements: YtnclefdlmbkjmaaDoorTotals.lean).
  GIVEN WITH THE SEED: the statements are not yours to turn. If you find one false, say at which input.
  Laid BY PROGRAM, IN A SANDBOX (cutbox-rows.mjs): the forced cells as the released guide's own fill.sh prints them over the translation 9cdd51c40067cead… (all of the seat's roots in one cut). By AI agents, Wed Nov 11 2026. No macro, syntax, notation, axiom, sorry.
-/
import Derived.Test.YtnclefdlmbkjmaaDoorChecked
import GoSem.Claim
import GoSem.ClaimJoined
import GoSem.ClaimMapViews
import Derived.JoinedTies
import Derived.KernelRfl
namespace Go.Proofs.YtnclefdlmbkjmaaDoor
/- THE CELL 'sum', in the pinned program and in every row, IS THE sha256 OF THE DUMP (.gsa) THAT YtnclefdlmbkjmaaDoorProg.lean LOADS. Nothing in Lean hashes anything: it is a label: what it is worth is what the hold of that sum in a sandbox is worth. -/
noncomputable def Tryd.pinned : Pinned := { name := "ytnclefdlmbkjmaadoor", sum := "9cdd51c40067cead020da62e2938a06f5239bc1a15afc0e50a0f45a45fdde17d", checked := Tryd.checked }
namespace Rows
def none {H : Type} : Left H := { results := [], args := [] }

/- WHAT THE LISTED PACKAGE-LEVEL VARIABLES READ AS WHEN THE CALL BEGINS. Each datum BY PROGRAM (the guide's laid-datum.mjs) off the statement by which the dump's own 'gosem.cut.vars' lays the variable. In a bare row this is a premise. The card (YtnclefdlmbkjmaaDoorCards.lean) ties it to the program's text. -/
def laid_keelson_crc_nibbles {H : Type} : DataW H := .agg [.lit (.int .u32 0), .lit (.int .u32 498536548), .lit (.int .u32 997073096), .lit (.int .u32 651767980), .lit (.int .u32 1994146192), .lit (.int .u32 1802195444), .lit (.int .u32 1303535960), .lit (.int .u32 1342533948), .lit (.int .u32 3988292384), .lit (.int .u32 4027552580), .lit (.int .u32 3604390888), .lit (.int .u32 3412177804), .lit (.int .u32 2607071920), .lit (.int .u32 2262029012), .lit (.int .u32 2685067896), .lit (.int .u32 3183342108)]

/-- 'keelsonlaw05.FrameWrites': WHATEVER THE INPUT: true; the input reads as it did. -/
def frameWritesSpec : ChangeSpec := { name := "frameWrites", fn := fun _ => fun
  | [d1, d2] => { results := [.lit (.bool true)], args := [d1, d2] }
  | _ => none }
def frameWritesRow : OpenClaim := { program := "ytnclefdlmbkjmaadoor", sum := "9cdd51c40067cead020da62e2938a06f5239bc1a15afc0e50a0f45a45fdde17d", func := "keelson/keelsonlaw05.FrameWrites", spec := "frameWrites", named := ["keelson/crc.nibbles"], apart := false, laid := [("keelson/crc.nibbles", laid_keelson_crc_nibbles)] }
def FrameWritesSaid : Prop := frameWritesRow.holds Tryd.pinned (OpenSpec.ofChange frameWritesSpec)

/-- ITS FALSE NEIGHBOUR: 'it returns false'. Refute it at one input. -/
def frameWritesWrong : ChangeSpec := { name := "frameWrites", fn := fun _ => fun
  | [d1, d2] => { results := [.lit (.bool false)], args := [d1, d2] }
  | _ => none }
def FrameWritesWrongFalsely : Prop := frameWritesRow.holds Tryd.pinned (OpenSpec.ofChange frameWritesWrong)

/-- 'keelsonlaw05.FrameReads': WHATEVER THE INPUT: true; the input reads as it did. -/
def frameReadsSpec : ChangeSpec := { name := "frameReads", fn := fun _ => fun
  | [d] => { results := [.lit (.bool true)], args := [d] }
  | _ => none }
def frameReadsRow : OpenClaim := { program := "ytnclefdlmbkjmaadoor", sum := "9cdd51c40067cead020da62e2938a06f5239bc1a15afc0e50a0f45a45fdde17d", func := "keelson/keelsonlaw05.FrameReads", spec := "frameReads", named := ["keelson/crc.nibbles"], apart := false, laid := [("keelson/crc.nibbles", laid_keelson_crc_nibbles)] }
def FrameReadsSaid : Prop := frameReadsRow.holds Tryd.pinned (OpenSpec.ofChange frameReadsSpec)

/-- ITS FALSE NEIGHBOUR: 'it returns false'. Refute it at one input. -/
def frameReadsWrong : ChangeSpec := { name := "frameReads", fn := fun _ => fun
  | [d] => { results := [.lit (.bool false)], args := [d] }
  | _ => none }
def FrameReadsWrongFalsely : Prop := frameReadsRow.holds Tryd.pinned (OpenSpec.ofChange frameReadsWrong)

/-- 'keelsonlaw05.FrameMends': WHATEVER THE INPUT: true; the input reads as it did. -/
def frameMendsSpec : ChangeSpec := { name := "frameMends", fn := fun _ => fun
  | [d1, d2, d3] => { results := [.lit (.bool true)], args := [d1, d2, d3] }
  | _ => none }
def frameMendsRow : OpenClaim := { program := "ytnclefdlmbkjmaadoor", sum := "9cdd51c40067cead020da62e2938a06f5239bc1a15afc0e50a0f45a45fdde17d", func := "keelson/keelsonlaw05.FrameMends", spec := "frameMends", named := ["keelson/crc.nibbles"], apart := false, laid := [("keelson/crc.nibbles", laid_keelson_crc_nibbles)] }
def FrameMendsSaid : Prop := frameMendsRow.holds Tryd.pinned (OpenSpec.ofChange frameMendsSpec)

/-- ITS FALSE NEIGHBOUR: 'it returns false'. Refute it at one input. -/
def frameMendsWrong : ChangeSpec := { name := "frameMends", fn := fun _ => fun
  | [d1, d2, d3] => { results := [.lit (.bool false)], args := [d1, d2, d3] }
  | _ => none }
def FrameMendsWrongFalsely : Prop := frameMendsRow.holds Tryd.pinned (OpenSpec.ofChange frameMendsWrong)

/-- 'keelsonlaw05.FrameTorn': WHATEVER THE INPUT: true; the input reads as it did. -/
def frameTornSpec : ChangeSpec := { name := "frameTorn", fn := fun _ => fun
  | [d1, d2, d3] => { results := [.lit (.bool true)], args := [d1, d2, d3] }
  | _ => none }
def frameTornRow : OpenClaim := { program := "ytnclefdlmbkjmaadoor", sum := "9cdd51c40067cead020da62e2938a06f5239bc1a15afc0e50a0f45a45fdde17d", func := "keelson/keelsonlaw05.FrameTorn", spec := "frameTorn", named := ["keelson/crc.nibbles"], apart := false, laid := [("keelson/crc.nibbles", laid_keelson_crc_nibbles)] }
def FrameTornSaid : Prop := frameTornRow.holds Tryd.pinned (OpenSpec.ofChange frameTornSpec)

/-- ITS FALSE NEIGHBOUR: 'it returns false'. Refute it at one input. -/
def frameTornWrong : ChangeSpec := { name := "frameTorn", fn := fun _ => fun
  | [d1, d2, d3] => { results := [.lit (.bool false)], args := [d1, d2, d3] }
  | _ => none }
def FrameTornWrongFalsely : Prop := frameTornRow.holds Tryd.pinned (OpenSpec.ofChange frameTornWrong)

/-- 'keelsonlaw05.FrameApart': WHATEVER THE INPUT: true; the input reads as it did. -/
def frameApartSpec : ChangeSpec := { name := "frameApart", fn := fun _ => fun
  | [d1, d2, d3] => { results := [.lit (.bool true)], args := [d1, d2, d3] }
  | _ => none }
def frameApartRow : OpenClaim := { program := "ytnclefdlmbkjmaadoor", sum := "9cdd51c40067cead020da62e2938a06f5239bc1a15afc0e50a0f45a45fdde17d", func := "keelson/keelsonlaw05.FrameApart", spec := "frameApart", named := ["keelson/crc.nibbles"], apart := false, laid := [("keelson/crc.nibbles", laid_keelson_crc_nibbles)] }
def FrameApartSaid : Prop := frameApartRow.holds Tryd.pinned (OpenSpec.ofChange frameApartSpec)

/-- ITS FALSE NEIGHBOUR: 'it returns false'. Refute it at one input. -/
def frameApartWrong : ChangeSpec := { name := "frameApart", fn := fun _ => fun
  | [d1, d2, d3] => { results := [.lit (.bool false)], args := [d1, d2, d3] }
  | _ => none }
def FrameApartWrongFalsely : Prop := frameApartRow.holds Tryd.pinned (OpenSpec.ofChange frameApartWrong)

/- THE SECOND FORM. 'bulk': how many values and letters a reading holds, each counted each time it is reached (what is shared counts as often as it is met; a slice's spare places count too). A statement '..UptoSaid' is the law's where the arguments, and the package variables that the reading takes, are together of bulk at most 1048576: NARROWER than '..Said'. Prove '..Said' where nothing that the law and all that it calls make is longer than what came in: it says more and counts as full. Else prove '..UptoSaid'. A law counts once. -/
mutual
def uptoBulk {H : Type} : DataW H → Nat
  | .lit (.string bytes) => bytes.length + 1
  | .lit _ => 1
  | .nil => 1
  | .ptr d => uptoBulk d + 1
  | .slice elems spare => uptoBulkAll elems + uptoBulkAll spare + 1
  | .agg parts => uptoBulkAll parts + 1
  | .iface _ d => uptoBulk d + 1
  | .map entries => uptoBulkEntries entries + 1
  | .held _ => 1
def uptoBulkAll {H : Type} : List (DataW H) → Nat
  | [] => 0
  | d :: r => uptoBulk d + uptoBulkAll r
def uptoBulkEntries {H : Type} : List (Lit × DataW H) → Nat
  | [] => 0
  | x :: r => uptoBulkEntry x + uptoBulkEntries r
def uptoBulkEntry {H : Type} : Lit × DataW H → Nat
  | (.string bytes, d) => bytes.length + uptoBulk d + 1
  | (_, d) => uptoBulk d + 1
 end
def uptoSmall : (H : Type) → List (DataW H) → Bool := fun _ ds => decide (uptoBulkAll ds ≤ 1048576)
def OpenSpec.upto (s : _root_.Go.ChangeSpec) : _root_.Go.OpenSpec := { _root_.Go.OpenSpec.ofChange s with cond := some uptoSmall }

/-- 'keelsonlaw05.FrameWrites', WHERE WHAT IT READS IS OF BULK AT MOST 1048576: true; the input reads as it did. -/
def frameWritesUptoRow : OpenClaim := { program := "ytnclefdlmbkjmaadoor", sum := "9cdd51c40067cead020da62e2938a06f5239bc1a15afc0e50a0f45a45fdde17d", func := "keelson/keelsonlaw05.FrameWrites", spec := "frameWrites", named := ["keelson/crc.nibbles"], apart := false, laid := [("keelson/crc.nibbles", laid_keelson_crc_nibbles)], narrowed := true }
def FrameWritesUptoSaid : Prop := frameWritesUptoRow.holds Tryd.pinned (OpenSpec.upto frameWritesSpec)

/-- 'keelsonlaw05.FrameReads', WHERE WHAT IT READS IS OF BULK AT MOST 1048576: true; the input reads as it did. -/
def frameReadsUptoRow : OpenClaim := { program := "ytnclefdlmbkjmaadoor", sum := "9cdd51c40067cead020da62e2938a06f5239bc1a15afc0e50a0f45a45fdde17d", func := "keelson/keelsonlaw05.FrameReads", spec := "frameReads", named := ["keelson/crc.nibbles"], apart := false, laid := [("keelson/crc.nibbles", laid_keelson_crc_nibbles)], narrowed := true }
def FrameReadsUptoSaid : Prop := frameReadsUptoRow.holds Tryd.pinned (OpenSpec.upto frameReadsSpec)

/-- 'keelsonlaw05.FrameMends', WHERE WHAT IT READS IS OF BULK AT MOST 1048576: true; the input reads as it did. -/
def frameMendsUptoRow : OpenClaim := { program := "ytnclefdlmbkjmaadoor", sum := "9cdd51c40067cead020da62e2938a06f5239bc1a15afc0e50a0f45a45fdde17d", func := "keelson/keelsonlaw05.FrameMends", spec := "frameMends", named := ["keelson/crc.nibbles"], apart := false, laid := [("keelson/crc.nibbles", laid_keelson_crc_nibbles)], narrowed := true }
def FrameMendsUptoSaid : Prop := frameMendsUptoRow.holds Tryd.pinned (OpenSpec.upto frameMendsSpec)

/-- 'keelsonlaw05.FrameTorn', WHERE WHAT IT READS IS OF BULK AT MOST 1048576: true; the input reads as it did. -/
def frameTornUptoRow : OpenClaim := { program := "ytnclefdlmbkjmaadoor", sum := "9cdd51c40067cead020da62e2938a06f5239bc1a15afc0e50a0f45a45fdde17d", func := "keelson/keelsonlaw05.FrameTorn", spec := "frameTorn", named := ["keelson/crc.nibbles"], apart := false, laid := [("keelson/crc.nibbles", laid_keelson_crc_nibbles)], narrowed := true }
def FrameTornUptoSaid : Prop := frameTornUptoRow.holds Tryd.pinned (OpenSpec.upto frameTornSpec)

/-- 'keelsonlaw05.FrameApart', WHERE WHAT IT READS IS OF BULK AT MOST 1048576: true; the input reads as it did. -/
def frameApartUptoRow : OpenClaim := { program := "ytnclefdlmbkjmaadoor", sum := "9cdd51c40067cead020da62e2938a06f5239bc1a15afc0e50a0f45a45fdde17d", func := "keelson/keelsonlaw05.FrameApart", spec := "frameApart", named := ["keelson/crc.nibbles"], apart := false, laid := [("keelson/crc.nibbles", laid_keelson_crc_nibbles)], narrowed := true }
def FrameApartUptoSaid : Prop := frameApartUptoRow.holds Tryd.pinned (OpenSpec.upto frameApartSpec)

end Rows
end Go.Proofs.YtnclefdlmbkjmaaDoor
