/-
  DERIVED. GIVEN WITH THE SEED: THE CARDS: each row of YtaafelhjcmgkdaaGreatDoorRows.lean that lists a variable, with what it lists TIED to the program's text (the seventh form; the later family's looks); each row that meets fmt, with fmt's text TOLD by the authors' own Lean function (tested against real Go, not proved from fmt's source: count such statements apart). THE CARD IS WHAT COUNTS. Prove the row's statement (the work); the ties are given (YtaafelhjcmgkdaaGreatDoorTie.lean); close each card by the builder's one call (the guide's Derived/Test/ToyasCard.lean, 'card_holds'). Laid BY PROGRAM, IN A SANDBOX (cutbox-door.mjs). By AI agents, Wed Nov 11 2026. No macro, syntax, notation, axiom, sorry.
-/
import Derived.Test.YtaafelhjcmgkdaaGreatDoorRows
import GoSem.ClaimSeven
namespace Go.Proofs.YtaafelhjcmgkdaaGreatDoor
namespace Rows

/-- THE TIED CARD OF 'keelsonlaw07.DiskPlays'. -/
def diskPlaysCard : Claim7 := { stood := { row := diskPlaysRow, standIns := [], harness := (true, "88cdfb75edac358a26fa9b891a3776a72773ee8530f970d15bc8b13a46e54492"), looks := false }, kinds := [], alts := [], laidByText := true, laidKinds := [.data], laidTests := true, laidLooks := .later }
def DiskPlaysCardSaid : Prop := Claim7.holds Tryz.pinned (.plain (OpenSpec.ofChange diskPlaysSpec)) diskPlaysCard

/-- THE TIED CARD OF 'keelsonlaw07.DiskCuts'. -/
def diskCutsCard : Claim7 := { stood := { row := diskCutsRow, standIns := [], harness := (true, "88cdfb75edac358a26fa9b891a3776a72773ee8530f970d15bc8b13a46e54492"), looks := false }, kinds := [], alts := [], laidByText := true, laidKinds := [.data], laidTests := true, laidLooks := .later }
def DiskCutsCardSaid : Prop := Claim7.holds Tryz.pinned (.plain (OpenSpec.ofChange diskCutsSpec)) diskCutsCard

/-- THE SECOND FORM's CARD OF 'keelsonlaw07.DiskPlays'. -/
def diskPlaysUptoCard : Claim7 := { stood := { row := diskPlaysUptoRow, standIns := [], harness := (true, "88cdfb75edac358a26fa9b891a3776a72773ee8530f970d15bc8b13a46e54492"), looks := false }, kinds := [], alts := [], laidByText := true, laidKinds := [.data], laidTests := true, laidLooks := .later }
def DiskPlaysUptoCardSaid : Prop := Claim7.holds Tryz.pinned (.plain (OpenSpec.upto diskPlaysSpec)) diskPlaysUptoCard

/-- THE SECOND FORM's CARD OF 'keelsonlaw07.DiskCuts'. -/
def diskCutsUptoCard : Claim7 := { stood := { row := diskCutsUptoRow, standIns := [], harness := (true, "88cdfb75edac358a26fa9b891a3776a72773ee8530f970d15bc8b13a46e54492"), looks := false }, kinds := [], alts := [], laidByText := true, laidKinds := [.data], laidTests := true, laidLooks := .later }
def DiskCutsUptoCardSaid : Prop := Claim7.holds Tryz.pinned (.plain (OpenSpec.upto diskCutsSpec)) diskCutsUptoCard
end Rows
end Go.Proofs.YtaafelhjcmgkdaaGreatDoor
