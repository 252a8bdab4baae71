/-
  No cell of these rows narrows 'for every input' (looked for: loops, veiled, ifaces, maps, wideKeys, modest, calm, conditions, laid).
  DERIVED. THE GIVEN ROWS OF THIS SEAT. 6 by the template 'for every input the law returns true; each argument reads behind the call as it read before'; 0 by the template 'total and deterministic' (their statements: YtkpojlnfagonbaaTotals.lean).
  GIVEN WITH THE SEED: the statements are not yours to turn. If you find one false, say at which input.
  Laid BY PROGRAM, IN A SANDBOX (cutbox-rows.mjs): the forced cells as the released guide's own fill.sh prints them over the translation 4859fbfcebe00249… (all of the seat's roots in one cut). By AI agents, Wed Nov 11 2026. No macro, syntax, notation, axiom, sorry.
-/
import Derived.Test.YtkpojlnfagonbaaChecked
import GoSem.Claim
import GoSem.ClaimJoined
import GoSem.ClaimMapViews
import Derived.JoinedTies
import Derived.KernelRfl
namespace Go.Proofs.Ytkpojlnfagonbaa
/- THE CELL 'sum', in the pinned program and in every row, IS THE sha256 OF THE DUMP (.gsa) THAT YtkpojlnfagonbaaProg.lean LOADS. Nothing in Lean hashes anything: it is a label: what it is worth is what the hold of that sum in a sandbox is worth. -/
noncomputable def Try.pinned : Pinned := { name := "ytkpojlnfagonbaa", sum := "4859fbfcebe002496f2d340b74df2f221ed1ea33ff0f98753609d836ac8804bd", checked := Try.checked }
namespace Rows
def none {H : Type} : Left H := { results := [], args := [] }

/-- 'keelsonlaw18.InodeEntries': WHATEVER THE INPUT: true; the input reads as it did. -/
def inodeEntriesSpec : ChangeSpec := { name := "inodeEntries", fn := fun _ => fun
  | [d1, d2, d3] => { results := [.lit (.bool true)], args := [d1, d2, d3] }
  | _ => none }
def inodeEntriesRow : OpenClaim := { program := "ytkpojlnfagonbaa", sum := "4859fbfcebe002496f2d340b74df2f221ed1ea33ff0f98753609d836ac8804bd", func := "keelson/keelsonlaw18.InodeEntries", spec := "inodeEntries", inPlace := ["internal/bytealg.IndexByteString", "internal/bytealg.IndexString", "slices.overlaps[keelson/api.Entry]"], unfollowed := true, recurses := true, named := ["internal/bytealg.MaxLen"], apart := false }
def InodeEntriesSaid : Prop := inodeEntriesRow.holds Try.pinned (OpenSpec.ofChange inodeEntriesSpec)

/-- ITS FALSE NEIGHBOUR: 'it returns false'. Refute it at one input. -/
def inodeEntriesWrong : ChangeSpec := { name := "inodeEntries", fn := fun _ => fun
  | [d1, d2, d3] => { results := [.lit (.bool false)], args := [d1, d2, d3] }
  | _ => none }
def InodeEntriesWrongFalsely : Prop := inodeEntriesRow.holds Try.pinned (OpenSpec.ofChange inodeEntriesWrong)

/-- 'keelsonlaw18.InodeFull': WHATEVER THE INPUT: true; the input reads as it did. -/
def inodeFullSpec : ChangeSpec := { name := "inodeFull", fn := fun _ => fun
  | [d1, d2] => { results := [.lit (.bool true)], args := [d1, d2] }
  | _ => none }
def inodeFullRow : OpenClaim := { program := "ytkpojlnfagonbaa", sum := "4859fbfcebe002496f2d340b74df2f221ed1ea33ff0f98753609d836ac8804bd", func := "keelson/keelsonlaw18.InodeFull", spec := "inodeFull", inPlace := ["internal/bytealg.IndexByteString", "internal/bytealg.IndexString", "slices.overlaps[keelson/api.Entry]"], unfollowed := true, recurses := true, named := ["internal/bytealg.MaxLen"], apart := false }
def InodeFullSaid : Prop := inodeFullRow.holds Try.pinned (OpenSpec.ofChange inodeFullSpec)

/-- ITS FALSE NEIGHBOUR: 'it returns false'. Refute it at one input. -/
def inodeFullWrong : ChangeSpec := { name := "inodeFull", fn := fun _ => fun
  | [d1, d2] => { results := [.lit (.bool false)], args := [d1, d2] }
  | _ => none }
def InodeFullWrongFalsely : Prop := inodeFullRow.holds Try.pinned (OpenSpec.ofChange inodeFullWrong)

/-- 'keelsonlaw19.CachePlays': WHATEVER THE INPUT: true; the input reads as it did. -/
def cachePlaysSpec : ChangeSpec := { name := "cachePlays", fn := fun _ => fun
  | [d1, d2, d3] => { results := [.lit (.bool true)], args := [d1, d2, d3] }
  | _ => none }
def cachePlaysRow : OpenClaim := { program := "ytkpojlnfagonbaa", sum := "4859fbfcebe002496f2d340b74df2f221ed1ea33ff0f98753609d836ac8804bd", func := "keelson/keelsonlaw19.CachePlays", spec := "cachePlays", unfollowed := true, recurses := true, apart := false }
def CachePlaysSaid : Prop := cachePlaysRow.holds Try.pinned (OpenSpec.ofChange cachePlaysSpec)

/-- ITS FALSE NEIGHBOUR: 'it returns false'. Refute it at one input. -/
def cachePlaysWrong : ChangeSpec := { name := "cachePlays", fn := fun _ => fun
  | [d1, d2, d3] => { results := [.lit (.bool false)], args := [d1, d2, d3] }
  | _ => none }
def CachePlaysWrongFalsely : Prop := cachePlaysRow.holds Try.pinned (OpenSpec.ofChange cachePlaysWrong)

/-- 'keelsonlaw19.CacheKept': WHATEVER THE INPUT: true; the input reads as it did. -/
def cacheKeptSpec : ChangeSpec := { name := "cacheKept", fn := fun _ => fun
  | [d1, d2] => { results := [.lit (.bool true)], args := [d1, d2] }
  | _ => none }
def cacheKeptRow : OpenClaim := { program := "ytkpojlnfagonbaa", sum := "4859fbfcebe002496f2d340b74df2f221ed1ea33ff0f98753609d836ac8804bd", func := "keelson/keelsonlaw19.CacheKept", spec := "cacheKept", unfollowed := true, recurses := true, apart := false }
def CacheKeptSaid : Prop := cacheKeptRow.holds Try.pinned (OpenSpec.ofChange cacheKeptSpec)

/-- ITS FALSE NEIGHBOUR: 'it returns false'. Refute it at one input. -/
def cacheKeptWrong : ChangeSpec := { name := "cacheKept", fn := fun _ => fun
  | [d1, d2] => { results := [.lit (.bool false)], args := [d1, d2] }
  | _ => none }
def CacheKeptWrongFalsely : Prop := cacheKeptRow.holds Try.pinned (OpenSpec.ofChange cacheKeptWrong)

/-- 'keelsonlaw19.CacheAtOnce': WHATEVER THE INPUT: true; the input reads as it did. -/
def cacheAtOnceSpec : ChangeSpec := { name := "cacheAtOnce", fn := fun _ => fun
  | [d] => { results := [.lit (.bool true)], args := [d] }
  | _ => none }
def cacheAtOnceRow : OpenClaim := { program := "ytkpojlnfagonbaa", sum := "4859fbfcebe002496f2d340b74df2f221ed1ea33ff0f98753609d836ac8804bd", func := "keelson/keelsonlaw19.CacheAtOnce", spec := "cacheAtOnce", unfollowed := true, recurses := true, apart := false }
def CacheAtOnceSaid : Prop := cacheAtOnceRow.holds Try.pinned (OpenSpec.ofChange cacheAtOnceSpec)

/-- ITS FALSE NEIGHBOUR: 'it returns false'. Refute it at one input. -/
def cacheAtOnceWrong : ChangeSpec := { name := "cacheAtOnce", fn := fun _ => fun
  | [d] => { results := [.lit (.bool false)], args := [d] }
  | _ => none }
def CacheAtOnceWrongFalsely : Prop := cacheAtOnceRow.holds Try.pinned (OpenSpec.ofChange cacheAtOnceWrong)

/-- 'keelsonlaw19.CacheRoom': WHATEVER THE INPUT: true; the input reads as it did. -/
def cacheRoomSpec : ChangeSpec := { name := "cacheRoom", fn := fun _ => fun
  | [d1, d2, d3] => { results := [.lit (.bool true)], args := [d1, d2, d3] }
  | _ => none }
def cacheRoomRow : OpenClaim := { program := "ytkpojlnfagonbaa", sum := "4859fbfcebe002496f2d340b74df2f221ed1ea33ff0f98753609d836ac8804bd", func := "keelson/keelsonlaw19.CacheRoom", spec := "cacheRoom", unfollowed := true, recurses := true, apart := false }
def CacheRoomSaid : Prop := cacheRoomRow.holds Try.pinned (OpenSpec.ofChange cacheRoomSpec)

/-- ITS FALSE NEIGHBOUR: 'it returns false'. Refute it at one input. -/
def cacheRoomWrong : ChangeSpec := { name := "cacheRoom", fn := fun _ => fun
  | [d1, d2, d3] => { results := [.lit (.bool false)], args := [d1, d2, d3] }
  | _ => none }
def CacheRoomWrongFalsely : Prop := cacheRoomRow.holds Try.pinned (OpenSpec.ofChange cacheRoomWrong)

/- THE SECOND FORM. 'bulk': how many values and letters a reading holds, each counted each time it is reached (what is shared counts as often as it is met; a slice's spare places count too). A statement '..UptoSaid' is the law's where the arguments, and the package variables that the reading takes, are together of bulk at most 1048576: NARROWER than '..Said'. Prove '..Said' where nothing that the law and all that it calls make is longer than what came in: it says more and counts as full. Else prove '..UptoSaid'. A law counts once. -/
mutual
def uptoBulk {H : Type} : DataW H → Nat
  | .lit (.string bytes) => bytes.length + 1
  | .lit _ => 1
  | .nil => 1
  | .ptr d => uptoBulk d + 1
  | .slice elems spare => uptoBulkAll elems + uptoBulkAll spare + 1
  | .agg parts => uptoBulkAll parts + 1
  | .iface _ d => uptoBulk d + 1
  | .map entries => uptoBulkEntries entries + 1
  | .held _ => 1
def uptoBulkAll {H : Type} : List (DataW H) → Nat
  | [] => 0
  | d :: r => uptoBulk d + uptoBulkAll r
def uptoBulkEntries {H : Type} : List (Lit × DataW H) → Nat
  | [] => 0
  | x :: r => uptoBulkEntry x + uptoBulkEntries r
def uptoBulkEntry {H : Type} : Lit × DataW H → Nat
  | (.string bytes, d) => bytes.length + uptoBulk d + 1
  | (_, d) => uptoBulk d + 1
 end
def uptoSmall : (H : Type) → List (DataW H) → Bool := fun _ ds => decide (uptoBulkAll ds ≤ 1048576)
def OpenSpec.upto (s : _root_.Go.ChangeSpec) : _root_.Go.OpenSpec := { _root_.Go.OpenSpec.ofChange s with cond := some uptoSmall }

/-- 'keelsonlaw18.InodeEntries', WHERE WHAT IT READS IS OF BULK AT MOST 1048576: true; the input reads as it did. -/
def inodeEntriesUptoRow : OpenClaim := { program := "ytkpojlnfagonbaa", sum := "4859fbfcebe002496f2d340b74df2f221ed1ea33ff0f98753609d836ac8804bd", func := "keelson/keelsonlaw18.InodeEntries", spec := "inodeEntries", inPlace := ["internal/bytealg.IndexByteString", "internal/bytealg.IndexString", "slices.overlaps[keelson/api.Entry]"], unfollowed := true, recurses := true, named := ["internal/bytealg.MaxLen"], apart := false, narrowed := true }
def InodeEntriesUptoSaid : Prop := inodeEntriesUptoRow.holds Try.pinned (OpenSpec.upto inodeEntriesSpec)

/-- 'keelsonlaw18.InodeFull', WHERE WHAT IT READS IS OF BULK AT MOST 1048576: true; the input reads as it did. -/
def inodeFullUptoRow : OpenClaim := { program := "ytkpojlnfagonbaa", sum := "4859fbfcebe002496f2d340b74df2f221ed1ea33ff0f98753609d836ac8804bd", func := "keelson/keelsonlaw18.InodeFull", spec := "inodeFull", inPlace := ["internal/bytealg.IndexByteString", "internal/bytealg.IndexString", "slices.overlaps[keelson/api.Entry]"], unfollowed := true, recurses := true, named := ["internal/bytealg.MaxLen"], apart := false, narrowed := true }
def InodeFullUptoSaid : Prop := inodeFullUptoRow.holds Try.pinned (OpenSpec.upto inodeFullSpec)

/-- 'keelsonlaw19.CachePlays', WHERE WHAT IT READS IS OF BULK AT MOST 1048576: true; the input reads as it did. -/
def cachePlaysUptoRow : OpenClaim := { program := "ytkpojlnfagonbaa", sum := "4859fbfcebe002496f2d340b74df2f221ed1ea33ff0f98753609d836ac8804bd", func := "keelson/keelsonlaw19.CachePlays", spec := "cachePlays", unfollowed := true, recurses := true, apart := false, narrowed := true }
def CachePlaysUptoSaid : Prop := cachePlaysUptoRow.holds Try.pinned (OpenSpec.upto cachePlaysSpec)

/-- 'keelsonlaw19.CacheKept', WHERE WHAT IT READS IS OF BULK AT MOST 1048576: true; the input reads as it did. -/
def cacheKeptUptoRow : OpenClaim := { program := "ytkpojlnfagonbaa", sum := "4859fbfcebe002496f2d340b74df2f221ed1ea33ff0f98753609d836ac8804bd", func := "keelson/keelsonlaw19.CacheKept", spec := "cacheKept", unfollowed := true, recurses := true, apart := false, narrowed := true }
def CacheKeptUptoSaid : Prop := cacheKeptUptoRow.holds Try.pinned (OpenSpec.upto cacheKeptSpec)

/-- 'keelsonlaw19.CacheAtOnce', WHERE WHAT IT READS IS OF BULK AT MOST 1048576: true; the input reads as it did. -/
def cacheAtOnceUptoRow : OpenClaim := { program := "ytkpojlnfagonbaa", sum := "4859fbfcebe002496f2d340b74df2f221ed1ea33ff0f98753609d836ac8804bd", func := "keelson/keelsonlaw19.CacheAtOnce", spec := "cacheAtOnce", unfollowed := true, recurses := true, apart := false, narrowed := true }
def CacheAtOnceUptoSaid : Prop := cacheAtOnceUptoRow.holds Try.pinned (OpenSpec.upto cacheAtOnceSpec)

/-- 'keelsonlaw19.CacheRoom', WHERE WHAT IT READS IS OF BULK AT MOST 1048576: true; the input reads as it did. -/
def cacheRoomUptoRow : OpenClaim := { program := "ytkpojlnfagonbaa", sum := "4859fbfcebe002496f2d340b74df2f221ed1ea33ff0f98753609d836ac8804bd", func := "keelson/keelsonlaw19.CacheRoom", spec := "cacheRoom", unfollowed := true, recurses := true, apart := false, narrowed := true }
def CacheRoomUptoSaid : Prop := cacheRoomUptoRow.holds Try.pinned (OpenSpec.upto cacheRoomSpec)

end Rows
end Go.Proofs.Ytkpojlnfagonbaa
