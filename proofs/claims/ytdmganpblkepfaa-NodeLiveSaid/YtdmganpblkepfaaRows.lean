/-
  No cell of these rows narrows 'for every input' (looked for: loops, veiled, ifaces, maps, wideKeys, modest, calm, conditions, laid).
  DERIVED. THE GIVEN ROWS OF THIS SEAT. 9 by the template 'for every input the law returns true; each argument reads behind the call as it read before'; 0 by the template 'total and deterministic' (their statements: YtdmganpblkepfaaTotals.lean).
  GIVEN WITH THE SEED: the statements are not yours to turn. If you find one false, say at which input.
  Laid BY PROGRAM, IN A SANDBOX (cutbox-rows.mjs): the forced cells as the released guide's own fill.sh prints them over the translation b6d9cc2a265196f3… (all of the seat's roots in one cut). By AI agents, Wed Nov 11 2026. No macro, syntax, notation, axiom, sorry.
-/
import Derived.Test.YtdmganpblkepfaaChecked
import GoSem.Claim
import GoSem.ClaimJoined
import GoSem.ClaimMapViews
import Derived.JoinedTies
import Derived.KernelRfl
namespace Go.Proofs.Ytdmganpblkepfaa
/- THE CELL 'sum', in the pinned program and in every row, IS THE sha256 OF THE DUMP (.gsa) THAT YtdmganpblkepfaaProg.lean LOADS. Nothing in Lean hashes anything: it is a label: what it is worth is what the hold of that sum in a sandbox is worth. -/
noncomputable def Try.pinned : Pinned := { name := "ytdmganpblkepfaa", sum := "b6d9cc2a265196f34f0dae29158a4ad40a91a1b47a84f26537a90d9ca4f1ce85", checked := Try.checked }
namespace Rows
def none {H : Type} : Left H := { results := [], args := [] }

/-- 'keelsonlaw09.NodeWrites': WHATEVER THE INPUT: true; the input reads as it did. -/
def nodeWritesSpec : ChangeSpec := { name := "nodeWrites", fn := fun _ => fun
  | [d] => { results := [.lit (.bool true)], args := [d] }
  | _ => none }
def nodeWritesRow : OpenClaim := { program := "ytdmganpblkepfaa", sum := "b6d9cc2a265196f34f0dae29158a4ad40a91a1b47a84f26537a90d9ca4f1ce85", func := "keelson/keelsonlaw09.NodeWrites", spec := "nodeWrites", apart := false }
def NodeWritesSaid : Prop := nodeWritesRow.holds Try.pinned (OpenSpec.ofChange nodeWritesSpec)

/-- ITS FALSE NEIGHBOUR: 'it returns false'. Refute it at one input. -/
def nodeWritesWrong : ChangeSpec := { name := "nodeWrites", fn := fun _ => fun
  | [d] => { results := [.lit (.bool false)], args := [d] }
  | _ => none }
def NodeWritesWrongFalsely : Prop := nodeWritesRow.holds Try.pinned (OpenSpec.ofChange nodeWritesWrong)

/-- 'keelsonlaw09.NodeReads': WHATEVER THE INPUT: true; the input reads as it did. -/
def nodeReadsSpec : ChangeSpec := { name := "nodeReads", fn := fun _ => fun
  | [d] => { results := [.lit (.bool true)], args := [d] }
  | _ => none }
def nodeReadsRow : OpenClaim := { program := "ytdmganpblkepfaa", sum := "b6d9cc2a265196f34f0dae29158a4ad40a91a1b47a84f26537a90d9ca4f1ce85", func := "keelson/keelsonlaw09.NodeReads", spec := "nodeReads", apart := false }
def NodeReadsSaid : Prop := nodeReadsRow.holds Try.pinned (OpenSpec.ofChange nodeReadsSpec)

/-- ITS FALSE NEIGHBOUR: 'it returns false'. Refute it at one input. -/
def nodeReadsWrong : ChangeSpec := { name := "nodeReads", fn := fun _ => fun
  | [d] => { results := [.lit (.bool false)], args := [d] }
  | _ => none }
def NodeReadsWrongFalsely : Prop := nodeReadsRow.holds Try.pinned (OpenSpec.ofChange nodeReadsWrong)

/-- 'keelsonlaw09.NodeCommits': WHATEVER THE INPUT: true; the input reads as it did. -/
def nodeCommitsSpec : ChangeSpec := { name := "nodeCommits", fn := fun _ => fun
  | [d1, d2] => { results := [.lit (.bool true)], args := [d1, d2] }
  | _ => none }
def nodeCommitsRow : OpenClaim := { program := "ytdmganpblkepfaa", sum := "b6d9cc2a265196f34f0dae29158a4ad40a91a1b47a84f26537a90d9ca4f1ce85", func := "keelson/keelsonlaw09.NodeCommits", spec := "nodeCommits", apart := false }
def NodeCommitsSaid : Prop := nodeCommitsRow.holds Try.pinned (OpenSpec.ofChange nodeCommitsSpec)

/-- ITS FALSE NEIGHBOUR: 'it returns false'. Refute it at one input. -/
def nodeCommitsWrong : ChangeSpec := { name := "nodeCommits", fn := fun _ => fun
  | [d1, d2] => { results := [.lit (.bool false)], args := [d1, d2] }
  | _ => none }
def NodeCommitsWrongFalsely : Prop := nodeCommitsRow.holds Try.pinned (OpenSpec.ofChange nodeCommitsWrong)

/-- 'keelsonlaw09.NodeLive': WHATEVER THE INPUT: true; the input reads as it did. -/
def nodeLiveSpec : ChangeSpec := { name := "nodeLive", fn := fun _ => fun
  | [d1, d2, d3] => { results := [.lit (.bool true)], args := [d1, d2, d3] }
  | _ => none }
def nodeLiveRow : OpenClaim := { program := "ytdmganpblkepfaa", sum := "b6d9cc2a265196f34f0dae29158a4ad40a91a1b47a84f26537a90d9ca4f1ce85", func := "keelson/keelsonlaw09.NodeLive", spec := "nodeLive", apart := false }
def NodeLiveSaid : Prop := nodeLiveRow.holds Try.pinned (OpenSpec.ofChange nodeLiveSpec)

/-- ITS FALSE NEIGHBOUR: 'it returns false'. Refute it at one input. -/
def nodeLiveWrong : ChangeSpec := { name := "nodeLive", fn := fun _ => fun
  | [d1, d2, d3] => { results := [.lit (.bool false)], args := [d1, d2, d3] }
  | _ => none }
def NodeLiveWrongFalsely : Prop := nodeLiveRow.holds Try.pinned (OpenSpec.ofChange nodeLiveWrong)

/-- 'keelsonlaw09.NodeApart': WHATEVER THE INPUT: true; the input reads as it did. -/
def nodeApartSpec : ChangeSpec := { name := "nodeApart", fn := fun _ => fun
  | [d1, d2, d3, d4] => { results := [.lit (.bool true)], args := [d1, d2, d3, d4] }
  | _ => none }
def nodeApartRow : OpenClaim := { program := "ytdmganpblkepfaa", sum := "b6d9cc2a265196f34f0dae29158a4ad40a91a1b47a84f26537a90d9ca4f1ce85", func := "keelson/keelsonlaw09.NodeApart", spec := "nodeApart", apart := false }
def NodeApartSaid : Prop := nodeApartRow.holds Try.pinned (OpenSpec.ofChange nodeApartSpec)

/-- ITS FALSE NEIGHBOUR: 'it returns false'. Refute it at one input. -/
def nodeApartWrong : ChangeSpec := { name := "nodeApart", fn := fun _ => fun
  | [d1, d2, d3, d4] => { results := [.lit (.bool false)], args := [d1, d2, d3, d4] }
  | _ => none }
def NodeApartWrongFalsely : Prop := nodeApartRow.holds Try.pinned (OpenSpec.ofChange nodeApartWrong)

/-- 'keelsonlaw10.WearVictims': WHATEVER THE INPUT: true; the input reads as it did. -/
def wearVictimsSpec : ChangeSpec := { name := "wearVictims", fn := fun _ => fun
  | [d] => { results := [.lit (.bool true)], args := [d] }
  | _ => none }
def wearVictimsRow : OpenClaim := { program := "ytdmganpblkepfaa", sum := "b6d9cc2a265196f34f0dae29158a4ad40a91a1b47a84f26537a90d9ca4f1ce85", func := "keelson/keelsonlaw10.WearVictims", spec := "wearVictims", unfollowed := true, recurses := true, apart := false }
def WearVictimsSaid : Prop := wearVictimsRow.holds Try.pinned (OpenSpec.ofChange wearVictimsSpec)

/-- ITS FALSE NEIGHBOUR: 'it returns false'. Refute it at one input. -/
def wearVictimsWrong : ChangeSpec := { name := "wearVictims", fn := fun _ => fun
  | [d] => { results := [.lit (.bool false)], args := [d] }
  | _ => none }
def WearVictimsWrongFalsely : Prop := wearVictimsRow.holds Try.pinned (OpenSpec.ofChange wearVictimsWrong)

/-- 'keelsonlaw10.WearRoom': WHATEVER THE INPUT: true; the input reads as it did. -/
def wearRoomSpec : ChangeSpec := { name := "wearRoom", fn := fun _ => fun
  | [d1, d2] => { results := [.lit (.bool true)], args := [d1, d2] }
  | _ => none }
def wearRoomRow : OpenClaim := { program := "ytdmganpblkepfaa", sum := "b6d9cc2a265196f34f0dae29158a4ad40a91a1b47a84f26537a90d9ca4f1ce85", func := "keelson/keelsonlaw10.WearRoom", spec := "wearRoom", unfollowed := true, recurses := true, apart := false }
def WearRoomSaid : Prop := wearRoomRow.holds Try.pinned (OpenSpec.ofChange wearRoomSpec)

/-- ITS FALSE NEIGHBOUR: 'it returns false'. Refute it at one input. -/
def wearRoomWrong : ChangeSpec := { name := "wearRoom", fn := fun _ => fun
  | [d1, d2] => { results := [.lit (.bool false)], args := [d1, d2] }
  | _ => none }
def WearRoomWrongFalsely : Prop := wearRoomRow.holds Try.pinned (OpenSpec.ofChange wearRoomWrong)

/-- 'keelsonlaw10.WearEven': WHATEVER THE INPUT: true; the input reads as it did. -/
def wearEvenSpec : ChangeSpec := { name := "wearEven", fn := fun _ => fun
  | [d1, d2] => { results := [.lit (.bool true)], args := [d1, d2] }
  | _ => none }
def wearEvenRow : OpenClaim := { program := "ytdmganpblkepfaa", sum := "b6d9cc2a265196f34f0dae29158a4ad40a91a1b47a84f26537a90d9ca4f1ce85", func := "keelson/keelsonlaw10.WearEven", spec := "wearEven", unfollowed := true, recurses := true, apart := false }
def WearEvenSaid : Prop := wearEvenRow.holds Try.pinned (OpenSpec.ofChange wearEvenSpec)

/-- ITS FALSE NEIGHBOUR: 'it returns false'. Refute it at one input. -/
def wearEvenWrong : ChangeSpec := { name := "wearEven", fn := fun _ => fun
  | [d1, d2] => { results := [.lit (.bool false)], args := [d1, d2] }
  | _ => none }
def WearEvenWrongFalsely : Prop := wearEvenRow.holds Try.pinned (OpenSpec.ofChange wearEvenWrong)

/-- 'keelsonlaw10.WearOrder': WHATEVER THE INPUT: true; the input reads as it did. -/
def wearOrderSpec : ChangeSpec := { name := "wearOrder", fn := fun _ => fun
  | [d1, d2] => { results := [.lit (.bool true)], args := [d1, d2] }
  | _ => none }
def wearOrderRow : OpenClaim := { program := "ytdmganpblkepfaa", sum := "b6d9cc2a265196f34f0dae29158a4ad40a91a1b47a84f26537a90d9ca4f1ce85", func := "keelson/keelsonlaw10.WearOrder", spec := "wearOrder", unfollowed := true, recurses := true, apart := false }
def WearOrderSaid : Prop := wearOrderRow.holds Try.pinned (OpenSpec.ofChange wearOrderSpec)

/-- ITS FALSE NEIGHBOUR: 'it returns false'. Refute it at one input. -/
def wearOrderWrong : ChangeSpec := { name := "wearOrder", fn := fun _ => fun
  | [d1, d2] => { results := [.lit (.bool false)], args := [d1, d2] }
  | _ => none }
def WearOrderWrongFalsely : Prop := wearOrderRow.holds Try.pinned (OpenSpec.ofChange wearOrderWrong)

/- THE SECOND FORM. 'bulk': how many values and letters a reading holds, each counted each time it is reached (what is shared counts as often as it is met; a slice's spare places count too). A statement '..UptoSaid' is the law's where the arguments, and the package variables that the reading takes, are together of bulk at most 1048576: NARROWER than '..Said'. Prove '..Said' where nothing that the law and all that it calls make is longer than what came in: it says more and counts as full. Else prove '..UptoSaid'. A law counts once. -/
mutual
def uptoBulk {H : Type} : DataW H → Nat
  | .lit (.string bytes) => bytes.length + 1
  | .lit _ => 1
  | .nil => 1
  | .ptr d => uptoBulk d + 1
  | .slice elems spare => uptoBulkAll elems + uptoBulkAll spare + 1
  | .agg parts => uptoBulkAll parts + 1
  | .iface _ d => uptoBulk d + 1
  | .map entries => uptoBulkEntries entries + 1
  | .held _ => 1
def uptoBulkAll {H : Type} : List (DataW H) → Nat
  | [] => 0
  | d :: r => uptoBulk d + uptoBulkAll r
def uptoBulkEntries {H : Type} : List (Lit × DataW H) → Nat
  | [] => 0
  | x :: r => uptoBulkEntry x + uptoBulkEntries r
def uptoBulkEntry {H : Type} : Lit × DataW H → Nat
  | (.string bytes, d) => bytes.length + uptoBulk d + 1
  | (_, d) => uptoBulk d + 1
 end
def uptoSmall : (H : Type) → List (DataW H) → Bool := fun _ ds => decide (uptoBulkAll ds ≤ 1048576)
def OpenSpec.upto (s : _root_.Go.ChangeSpec) : _root_.Go.OpenSpec := { _root_.Go.OpenSpec.ofChange s with cond := some uptoSmall }

/-- 'keelsonlaw09.NodeWrites', WHERE WHAT IT READS IS OF BULK AT MOST 1048576: true; the input reads as it did. -/
def nodeWritesUptoRow : OpenClaim := { program := "ytdmganpblkepfaa", sum := "b6d9cc2a265196f34f0dae29158a4ad40a91a1b47a84f26537a90d9ca4f1ce85", func := "keelson/keelsonlaw09.NodeWrites", spec := "nodeWrites", apart := false, narrowed := true }
def NodeWritesUptoSaid : Prop := nodeWritesUptoRow.holds Try.pinned (OpenSpec.upto nodeWritesSpec)

/-- 'keelsonlaw09.NodeReads', WHERE WHAT IT READS IS OF BULK AT MOST 1048576: true; the input reads as it did. -/
def nodeReadsUptoRow : OpenClaim := { program := "ytdmganpblkepfaa", sum := "b6d9cc2a265196f34f0dae29158a4ad40a91a1b47a84f26537a90d9ca4f1ce85", func := "keelson/keelsonlaw09.NodeReads", spec := "nodeReads", apart := false, narrowed := true }
def NodeReadsUptoSaid : Prop := nodeReadsUptoRow.holds Try.pinned (OpenSpec.upto nodeReadsSpec)

/-- 'keelsonlaw09.NodeCommits', WHERE WHAT IT READS IS OF BULK AT MOST 1048576: true; the input reads as it did. -/
def nodeCommitsUptoRow : OpenClaim := { program := "ytdmganpblkepfaa", sum := "b6d9cc2a265196f34f0dae29158a4ad40a91a1b47a84f26537a90d9ca4f1ce85", func := "keelson/keelsonlaw09.NodeCommits", spec := "nodeCommits", apart := false, narrowed := true }
def NodeCommitsUptoSaid : Prop := nodeCommitsUptoRow.holds Try.pinned (OpenSpec.upto nodeCommitsSpec)

/-- 'keelsonlaw09.NodeLive', WHERE WHAT IT READS IS OF BULK AT MOST 1048576: true; the input reads as it did. -/
def nodeLiveUptoRow : OpenClaim := { program := "ytdmganpblkepfaa", sum := "b6d9cc2a265196f34f0dae29158a4ad40a91a1b47a84f26537a90d9ca4f1ce85", func := "keelson/keelsonlaw09.NodeLive", spec := "nodeLive", apart := false, narrowed := true }
def NodeLiveUptoSaid : Prop := nodeLiveUptoRow.holds Try.pinned (OpenSpec.upto nodeLiveSpec)

/-- 'keelsonlaw09.NodeApart', WHERE WHAT IT READS IS OF BULK AT MOST 1048576: true; the input reads as it did. -/
def nodeApartUptoRow : OpenClaim := { program := "ytdmganpblkepfaa", sum := "b6d9cc2a265196f34f0dae29158a4ad40a91a1b47a84f26537a90d9ca4f1ce85", func := "keelson/keelsonlaw09.NodeApart", spec := "nodeApart", apart := false, narrowed := true }
def NodeApartUptoSaid : Prop := nodeApartUptoRow.holds Try.pinned (OpenSpec.upto nodeApartSpec)

/-- 'keelsonlaw10.WearVictims', WHERE WHAT IT READS IS OF BULK AT MOST 1048576: true; the input reads as it did. -/
def wearVictimsUptoRow : OpenClaim := { program := "ytdmganpblkepfaa", sum := "b6d9cc2a265196f34f0dae29158a4ad40a91a1b47a84f26537a90d9ca4f1ce85", func := "keelson/keelsonlaw10.WearVictims", spec := "wearVictims", unfollowed := true, recurses := true, apart := false, narrowed := true }
def WearVictimsUptoSaid : Prop := wearVictimsUptoRow.holds Try.pinned (OpenSpec.upto wearVictimsSpec)

/-- 'keelsonlaw10.WearRoom', WHERE WHAT IT READS IS OF BULK AT MOST 1048576: true; the input reads as it did. -/
def wearRoomUptoRow : OpenClaim := { program := "ytdmganpblkepfaa", sum := "b6d9cc2a265196f34f0dae29158a4ad40a91a1b47a84f26537a90d9ca4f1ce85", func := "keelson/keelsonlaw10.WearRoom", spec := "wearRoom", unfollowed := true, recurses := true, apart := false, narrowed := true }
def WearRoomUptoSaid : Prop := wearRoomUptoRow.holds Try.pinned (OpenSpec.upto wearRoomSpec)

/-- 'keelsonlaw10.WearEven', WHERE WHAT IT READS IS OF BULK AT MOST 1048576: true; the input reads as it did. -/
def wearEvenUptoRow : OpenClaim := { program := "ytdmganpblkepfaa", sum := "b6d9cc2a265196f34f0dae29158a4ad40a91a1b47a84f26537a90d9ca4f1ce85", func := "keelson/keelsonlaw10.WearEven", spec := "wearEven", unfollowed := true, recurses := true, apart := false, narrowed := true }
def WearEvenUptoSaid : Prop := wearEvenUptoRow.holds Try.pinned (OpenSpec.upto wearEvenSpec)

/-- 'keelsonlaw10.WearOrder', WHERE WHAT IT READS IS OF BULK AT MOST 1048576: true; the input reads as it did. -/
def wearOrderUptoRow : OpenClaim := { program := "ytdmganpblkepfaa", sum := "b6d9cc2a265196f34f0dae29158a4ad40a91a1b47a84f26537a90d9ca4f1ce85", func := "keelson/keelsonlaw10.WearOrder", spec := "wearOrder", unfollowed := true, recurses := true, apart := false, narrowed := true }
def WearOrderUptoSaid : Prop := wearOrderUptoRow.holds Try.pinned (OpenSpec.upto wearOrderSpec)

end Rows
end Go.Proofs.Ytdmganpblkepfaa
