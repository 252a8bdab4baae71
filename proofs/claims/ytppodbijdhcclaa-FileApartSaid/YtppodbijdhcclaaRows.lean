/-
  No cell of these rows narrows 'for every input' (looked for: loops, veiled, ifaces, maps, wideKeys, modest, calm, conditions, laid).
  DERIVED. THE GIVEN ROWS OF THIS SEAT. 9 by the template 'for every input the law returns true; each argument reads behind the call as it read before'; 0 by the template 'total and deterministic' (their statements: YtppodbijdhcclaaTotals.lean).
  GIVEN WITH THE SEED: the statements are not yours to turn. If you find one false, say at which input.
  Laid BY PROGRAM, IN A SANDBOX (cutbox-rows.mjs): the forced cells as the released guide's own fill.sh prints them over the translation 3b4f346b4cfd696b… (all of the seat's roots in one cut). By AI agents, Wed Nov 11 2026. No macro, syntax, notation, axiom, sorry.
-/
import Derived.Test.YtppodbijdhcclaaChecked
import GoSem.Claim
import GoSem.ClaimJoined
import GoSem.ClaimMapViews
import Derived.JoinedTies
import Derived.KernelRfl
namespace Go.Proofs.Ytppodbijdhcclaa
/- THE CELL 'sum', in the pinned program and in every row, IS THE sha256 OF THE DUMP (.gsa) THAT YtppodbijdhcclaaProg.lean LOADS. Nothing in Lean hashes anything: it is a label: what it is worth is what the hold of that sum in a sandbox is worth. -/
noncomputable def Try.pinned : Pinned := { name := "ytppodbijdhcclaa", sum := "3b4f346b4cfd696b63f1d315744181cad458dc0e035b01f677ad8ba7bb37a7ff", checked := Try.checked }
namespace Rows
def none {H : Type} : Left H := { results := [], args := [] }

/-- 'keelsonlaw19.CachePlays': WHATEVER THE INPUT: true; the input reads as it did. -/
def cachePlaysSpec : ChangeSpec := { name := "cachePlays", fn := fun _ => fun
  | [d1, d2, d3] => { results := [.lit (.bool true)], args := [d1, d2, d3] }
  | _ => none }
def cachePlaysRow : OpenClaim := { program := "ytppodbijdhcclaa", sum := "3b4f346b4cfd696b63f1d315744181cad458dc0e035b01f677ad8ba7bb37a7ff", func := "keelson/keelsonlaw19.CachePlays", spec := "cachePlays", unfollowed := true, recurses := true, apart := false }
def CachePlaysSaid : Prop := cachePlaysRow.holds Try.pinned (OpenSpec.ofChange cachePlaysSpec)

/-- ITS FALSE NEIGHBOUR: 'it returns false'. Refute it at one input. -/
def cachePlaysWrong : ChangeSpec := { name := "cachePlays", fn := fun _ => fun
  | [d1, d2, d3] => { results := [.lit (.bool false)], args := [d1, d2, d3] }
  | _ => none }
def CachePlaysWrongFalsely : Prop := cachePlaysRow.holds Try.pinned (OpenSpec.ofChange cachePlaysWrong)

/-- 'keelsonlaw19.CacheKept': WHATEVER THE INPUT: true; the input reads as it did. -/
def cacheKeptSpec : ChangeSpec := { name := "cacheKept", fn := fun _ => fun
  | [d1, d2] => { results := [.lit (.bool true)], args := [d1, d2] }
  | _ => none }
def cacheKeptRow : OpenClaim := { program := "ytppodbijdhcclaa", sum := "3b4f346b4cfd696b63f1d315744181cad458dc0e035b01f677ad8ba7bb37a7ff", func := "keelson/keelsonlaw19.CacheKept", spec := "cacheKept", unfollowed := true, recurses := true, apart := false }
def CacheKeptSaid : Prop := cacheKeptRow.holds Try.pinned (OpenSpec.ofChange cacheKeptSpec)

/-- ITS FALSE NEIGHBOUR: 'it returns false'. Refute it at one input. -/
def cacheKeptWrong : ChangeSpec := { name := "cacheKept", fn := fun _ => fun
  | [d1, d2] => { results := [.lit (.bool false)], args := [d1, d2] }
  | _ => none }
def CacheKeptWrongFalsely : Prop := cacheKeptRow.holds Try.pinned (OpenSpec.ofChange cacheKeptWrong)

/-- 'keelsonlaw19.CacheAtOnce': WHATEVER THE INPUT: true; the input reads as it did. -/
def cacheAtOnceSpec : ChangeSpec := { name := "cacheAtOnce", fn := fun _ => fun
  | [d] => { results := [.lit (.bool true)], args := [d] }
  | _ => none }
def cacheAtOnceRow : OpenClaim := { program := "ytppodbijdhcclaa", sum := "3b4f346b4cfd696b63f1d315744181cad458dc0e035b01f677ad8ba7bb37a7ff", func := "keelson/keelsonlaw19.CacheAtOnce", spec := "cacheAtOnce", unfollowed := true, recurses := true, apart := false }
def CacheAtOnceSaid : Prop := cacheAtOnceRow.holds Try.pinned (OpenSpec.ofChange cacheAtOnceSpec)

/-- ITS FALSE NEIGHBOUR: 'it returns false'. Refute it at one input. -/
def cacheAtOnceWrong : ChangeSpec := { name := "cacheAtOnce", fn := fun _ => fun
  | [d] => { results := [.lit (.bool false)], args := [d] }
  | _ => none }
def CacheAtOnceWrongFalsely : Prop := cacheAtOnceRow.holds Try.pinned (OpenSpec.ofChange cacheAtOnceWrong)

/-- 'keelsonlaw19.CacheRoom': WHATEVER THE INPUT: true; the input reads as it did. -/
def cacheRoomSpec : ChangeSpec := { name := "cacheRoom", fn := fun _ => fun
  | [d1, d2, d3] => { results := [.lit (.bool true)], args := [d1, d2, d3] }
  | _ => none }
def cacheRoomRow : OpenClaim := { program := "ytppodbijdhcclaa", sum := "3b4f346b4cfd696b63f1d315744181cad458dc0e035b01f677ad8ba7bb37a7ff", func := "keelson/keelsonlaw19.CacheRoom", spec := "cacheRoom", unfollowed := true, recurses := true, apart := false }
def CacheRoomSaid : Prop := cacheRoomRow.holds Try.pinned (OpenSpec.ofChange cacheRoomSpec)

/-- ITS FALSE NEIGHBOUR: 'it returns false'. Refute it at one input. -/
def cacheRoomWrong : ChangeSpec := { name := "cacheRoom", fn := fun _ => fun
  | [d1, d2, d3] => { results := [.lit (.bool false)], args := [d1, d2, d3] }
  | _ => none }
def CacheRoomWrongFalsely : Prop := cacheRoomRow.holds Try.pinned (OpenSpec.ofChange cacheRoomWrong)

/-- 'keelsonlaw20.FilePlays': WHATEVER THE INPUT: true; the input reads as it did. -/
def filePlaysSpec : ChangeSpec := { name := "filePlays", fn := fun _ => fun
  | [d1, d2, d3] => { results := [.lit (.bool true)], args := [d1, d2, d3] }
  | _ => none }
def filePlaysRow : OpenClaim := { program := "ytppodbijdhcclaa", sum := "3b4f346b4cfd696b63f1d315744181cad458dc0e035b01f677ad8ba7bb37a7ff", func := "keelson/keelsonlaw20.FilePlays", spec := "filePlays", inPlace := ["internal/bytealg.IndexByteString", "internal/bytealg.IndexString"], unfollowed := true, recurses := true, named := ["internal/bytealg.MaxLen"], apart := false }
def FilePlaysSaid : Prop := filePlaysRow.holds Try.pinned (OpenSpec.ofChange filePlaysSpec)

/-- ITS FALSE NEIGHBOUR: 'it returns false'. Refute it at one input. -/
def filePlaysWrong : ChangeSpec := { name := "filePlays", fn := fun _ => fun
  | [d1, d2, d3] => { results := [.lit (.bool false)], args := [d1, d2, d3] }
  | _ => none }
def FilePlaysWrongFalsely : Prop := filePlaysRow.holds Try.pinned (OpenSpec.ofChange filePlaysWrong)

/-- 'keelsonlaw20.FileBack': WHATEVER THE INPUT: true; the input reads as it did. -/
def fileBackSpec : ChangeSpec := { name := "fileBack", fn := fun _ => fun
  | [d1, d2, d3] => { results := [.lit (.bool true)], args := [d1, d2, d3] }
  | _ => none }
def fileBackRow : OpenClaim := { program := "ytppodbijdhcclaa", sum := "3b4f346b4cfd696b63f1d315744181cad458dc0e035b01f677ad8ba7bb37a7ff", func := "keelson/keelsonlaw20.FileBack", spec := "fileBack", inPlace := ["internal/bytealg.IndexByteString", "internal/bytealg.IndexString"], unfollowed := true, recurses := true, named := ["internal/bytealg.MaxLen"], apart := false }
def FileBackSaid : Prop := fileBackRow.holds Try.pinned (OpenSpec.ofChange fileBackSpec)

/-- ITS FALSE NEIGHBOUR: 'it returns false'. Refute it at one input. -/
def fileBackWrong : ChangeSpec := { name := "fileBack", fn := fun _ => fun
  | [d1, d2, d3] => { results := [.lit (.bool false)], args := [d1, d2, d3] }
  | _ => none }
def FileBackWrongFalsely : Prop := fileBackRow.holds Try.pinned (OpenSpec.ofChange fileBackWrong)

/-- 'keelsonlaw20.FileParts': WHATEVER THE INPUT: true; the input reads as it did. -/
def filePartsSpec : ChangeSpec := { name := "fileParts", fn := fun _ => fun
  | [d1, d2, d3] => { results := [.lit (.bool true)], args := [d1, d2, d3] }
  | _ => none }
def filePartsRow : OpenClaim := { program := "ytppodbijdhcclaa", sum := "3b4f346b4cfd696b63f1d315744181cad458dc0e035b01f677ad8ba7bb37a7ff", func := "keelson/keelsonlaw20.FileParts", spec := "fileParts", inPlace := ["internal/bytealg.IndexByteString", "internal/bytealg.IndexString"], unfollowed := true, recurses := true, named := ["internal/bytealg.MaxLen"], apart := false }
def FilePartsSaid : Prop := filePartsRow.holds Try.pinned (OpenSpec.ofChange filePartsSpec)

/-- ITS FALSE NEIGHBOUR: 'it returns false'. Refute it at one input. -/
def filePartsWrong : ChangeSpec := { name := "fileParts", fn := fun _ => fun
  | [d1, d2, d3] => { results := [.lit (.bool false)], args := [d1, d2, d3] }
  | _ => none }
def FilePartsWrongFalsely : Prop := filePartsRow.holds Try.pinned (OpenSpec.ofChange filePartsWrong)

/-- 'keelsonlaw20.FileApart': WHATEVER THE INPUT: true; the input reads as it did. -/
def fileApartSpec : ChangeSpec := { name := "fileApart", fn := fun _ => fun
  | [d1, d2] => { results := [.lit (.bool true)], args := [d1, d2] }
  | _ => none }
def fileApartRow : OpenClaim := { program := "ytppodbijdhcclaa", sum := "3b4f346b4cfd696b63f1d315744181cad458dc0e035b01f677ad8ba7bb37a7ff", func := "keelson/keelsonlaw20.FileApart", spec := "fileApart", inPlace := ["internal/bytealg.IndexByteString", "internal/bytealg.IndexString"], unfollowed := true, recurses := true, named := ["internal/bytealg.MaxLen"], apart := false }
def FileApartSaid : Prop := fileApartRow.holds Try.pinned (OpenSpec.ofChange fileApartSpec)

/-- ITS FALSE NEIGHBOUR: 'it returns false'. Refute it at one input. -/
def fileApartWrong : ChangeSpec := { name := "fileApart", fn := fun _ => fun
  | [d1, d2] => { results := [.lit (.bool false)], args := [d1, d2] }
  | _ => none }
def FileApartWrongFalsely : Prop := fileApartRow.holds Try.pinned (OpenSpec.ofChange fileApartWrong)

/-- 'keelsonlaw20.FileShrinks': WHATEVER THE INPUT: true; the input reads as it did. -/
def fileShrinksSpec : ChangeSpec := { name := "fileShrinks", fn := fun _ => fun
  | [d1, d2, d3] => { results := [.lit (.bool true)], args := [d1, d2, d3] }
  | _ => none }
def fileShrinksRow : OpenClaim := { program := "ytppodbijdhcclaa", sum := "3b4f346b4cfd696b63f1d315744181cad458dc0e035b01f677ad8ba7bb37a7ff", func := "keelson/keelsonlaw20.FileShrinks", spec := "fileShrinks", inPlace := ["internal/bytealg.IndexByteString", "internal/bytealg.IndexString"], unfollowed := true, recurses := true, named := ["internal/bytealg.MaxLen"], apart := false }
def FileShrinksSaid : Prop := fileShrinksRow.holds Try.pinned (OpenSpec.ofChange fileShrinksSpec)

/-- ITS FALSE NEIGHBOUR: 'it returns false'. Refute it at one input. -/
def fileShrinksWrong : ChangeSpec := { name := "fileShrinks", fn := fun _ => fun
  | [d1, d2, d3] => { results := [.lit (.bool false)], args := [d1, d2, d3] }
  | _ => none }
def FileShrinksWrongFalsely : Prop := fileShrinksRow.holds Try.pinned (OpenSpec.ofChange fileShrinksWrong)

/- THE SECOND FORM. 'bulk': how many values and letters a reading holds, each counted each time it is reached (what is shared counts as often as it is met; a slice's spare places count too). A statement '..UptoSaid' is the law's where the arguments, and the package variables that the reading takes, are together of bulk at most 1048576: NARROWER than '..Said'. Prove '..Said' where nothing that the law and all that it calls make is longer than what came in: it says more and counts as full. Else prove '..UptoSaid'. A law counts once. -/
mutual
def uptoBulk {H : Type} : DataW H → Nat
  | .lit (.string bytes) => bytes.length + 1
  | .lit _ => 1
  | .nil => 1
  | .ptr d => uptoBulk d + 1
  | .slice elems spare => uptoBulkAll elems + uptoBulkAll spare + 1
  | .agg parts => uptoBulkAll parts + 1
  | .iface _ d => uptoBulk d + 1
  | .map entries => uptoBulkEntries entries + 1
  | .held _ => 1
def uptoBulkAll {H : Type} : List (DataW H) → Nat
  | [] => 0
  | d :: r => uptoBulk d + uptoBulkAll r
def uptoBulkEntries {H : Type} : List (Lit × DataW H) → Nat
  | [] => 0
  | x :: r => uptoBulkEntry x + uptoBulkEntries r
def uptoBulkEntry {H : Type} : Lit × DataW H → Nat
  | (.string bytes, d) => bytes.length + uptoBulk d + 1
  | (_, d) => uptoBulk d + 1
 end
def uptoSmall : (H : Type) → List (DataW H) → Bool := fun _ ds => decide (uptoBulkAll ds ≤ 1048576)
def OpenSpec.upto (s : _root_.Go.ChangeSpec) : _root_.Go.OpenSpec := { _root_.Go.OpenSpec.ofChange s with cond := some uptoSmall }

/-- 'keelsonlaw19.CachePlays', WHERE WHAT IT READS IS OF BULK AT MOST 1048576: true; the input reads as it did. -/
def cachePlaysUptoRow : OpenClaim := { program := "ytppodbijdhcclaa", sum := "3b4f346b4cfd696b63f1d315744181cad458dc0e035b01f677ad8ba7bb37a7ff", func := "keelson/keelsonlaw19.CachePlays", spec := "cachePlays", unfollowed := true, recurses := true, apart := false, narrowed := true }
def CachePlaysUptoSaid : Prop := cachePlaysUptoRow.holds Try.pinned (OpenSpec.upto cachePlaysSpec)

/-- 'keelsonlaw19.CacheKept', WHERE WHAT IT READS IS OF BULK AT MOST 1048576: true; the input reads as it did. -/
def cacheKeptUptoRow : OpenClaim := { program := "ytppodbijdhcclaa", sum := "3b4f346b4cfd696b63f1d315744181cad458dc0e035b01f677ad8ba7bb37a7ff", func := "keelson/keelsonlaw19.CacheKept", spec := "cacheKept", unfollowed := true, recurses := true, apart := false, narrowed := true }
def CacheKeptUptoSaid : Prop := cacheKeptUptoRow.holds Try.pinned (OpenSpec.upto cacheKeptSpec)

/-- 'keelsonlaw19.CacheAtOnce', WHERE WHAT IT READS IS OF BULK AT MOST 1048576: true; the input reads as it did. -/
def cacheAtOnceUptoRow : OpenClaim := { program := "ytppodbijdhcclaa", sum := "3b4f346b4cfd696b63f1d315744181cad458dc0e035b01f677ad8ba7bb37a7ff", func := "keelson/keelsonlaw19.CacheAtOnce", spec := "cacheAtOnce", unfollowed := true, recurses := true, apart := false, narrowed := true }
def CacheAtOnceUptoSaid : Prop := cacheAtOnceUptoRow.holds Try.pinned (OpenSpec.upto cacheAtOnceSpec)

/-- 'keelsonlaw19.CacheRoom', WHERE WHAT IT READS IS OF BULK AT MOST 1048576: true; the input reads as it did. -/
def cacheRoomUptoRow : OpenClaim := { program := "ytppodbijdhcclaa", sum := "3b4f346b4cfd696b63f1d315744181cad458dc0e035b01f677ad8ba7bb37a7ff", func := "keelson/keelsonlaw19.CacheRoom", spec := "cacheRoom", unfollowed := true, recurses := true, apart := false, narrowed := true }
def CacheRoomUptoSaid : Prop := cacheRoomUptoRow.holds Try.pinned (OpenSpec.upto cacheRoomSpec)

/-- 'keelsonlaw20.FilePlays', WHERE WHAT IT READS IS OF BULK AT MOST 1048576: true; the input reads as it did. -/
def filePlaysUptoRow : OpenClaim := { program := "ytppodbijdhcclaa", sum := "3b4f346b4cfd696b63f1d315744181cad458dc0e035b01f677ad8ba7bb37a7ff", func := "keelson/keelsonlaw20.FilePlays", spec := "filePlays", inPlace := ["internal/bytealg.IndexByteString", "internal/bytealg.IndexString"], unfollowed := true, recurses := true, named := ["internal/bytealg.MaxLen"], apart := false, narrowed := true }
def FilePlaysUptoSaid : Prop := filePlaysUptoRow.holds Try.pinned (OpenSpec.upto filePlaysSpec)

/-- 'keelsonlaw20.FileBack', WHERE WHAT IT READS IS OF BULK AT MOST 1048576: true; the input reads as it did. -/
def fileBackUptoRow : OpenClaim := { program := "ytppodbijdhcclaa", sum := "3b4f346b4cfd696b63f1d315744181cad458dc0e035b01f677ad8ba7bb37a7ff", func := "keelson/keelsonlaw20.FileBack", spec := "fileBack", inPlace := ["internal/bytealg.IndexByteString", "internal/bytealg.IndexString"], unfollowed := true, recurses := true, named := ["internal/bytealg.MaxLen"], apart := false, narrowed := true }
def FileBackUptoSaid : Prop := fileBackUptoRow.holds Try.pinned (OpenSpec.upto fileBackSpec)

/-- 'keelsonlaw20.FileParts', WHERE WHAT IT READS IS OF BULK AT MOST 1048576: true; the input reads as it did. -/
def filePartsUptoRow : OpenClaim := { program := "ytppodbijdhcclaa", sum := "3b4f346b4cfd696b63f1d315744181cad458dc0e035b01f677ad8ba7bb37a7ff", func := "keelson/keelsonlaw20.FileParts", spec := "fileParts", inPlace := ["internal/bytealg.IndexByteString", "internal/bytealg.IndexString"], unfollowed := true, recurses := true, named := ["internal/bytealg.MaxLen"], apart := false, narrowed := true }
def FilePartsUptoSaid : Prop := filePartsUptoRow.holds Try.pinned (OpenSpec.upto filePartsSpec)

/-- 'keelsonlaw20.FileApart', WHERE WHAT IT READS IS OF BULK AT MOST 1048576: true; the input reads as it did. -/
def fileApartUptoRow : OpenClaim := { program := "ytppodbijdhcclaa", sum := "3b4f346b4cfd696b63f1d315744181cad458dc0e035b01f677ad8ba7bb37a7ff", func := "keelson/keelsonlaw20.FileApart", spec := "fileApart", inPlace := ["internal/bytealg.IndexByteString", "internal/bytealg.IndexString"], unfollowed := true, recurses := true, named := ["internal/bytealg.MaxLen"], apart := false, narrowed := true }
def FileApartUptoSaid : Prop := fileApartUptoRow.holds Try.pinned (OpenSpec.upto fileApartSpec)

/-- 'keelsonlaw20.FileShrinks', WHERE WHAT IT READS IS OF BULK AT MOST 1048576: true; the input reads as it did. -/
def fileShrinksUptoRow : OpenClaim := { program := "ytppodbijdhcclaa", sum := "3b4f346b4cfd696b63f1d315744181cad458dc0e035b01f677ad8ba7bb37a7ff", func := "keelson/keelsonlaw20.FileShrinks", spec := "fileShrinks", inPlace := ["internal/bytealg.IndexByteString", "internal/bytealg.IndexString"], unfollowed := true, recurses := true, named := ["internal/bytealg.MaxLen"], apart := false, narrowed := true }
def FileShrinksUptoSaid : Prop := fileShrinksUptoRow.holds Try.pinned (OpenSpec.upto fileShrinksSpec)

end Rows
end Go.Proofs.Ytppodbijdhcclaa
