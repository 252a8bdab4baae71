/-
  DERIVED. GIVEN WITH THE SEED: THE CARDS: each row of YtjagonoicaelmaaGreatDoorRows.lean that lists a variable, with what it lists TIED to the program's text (the seventh form; the later family's looks); each row that meets fmt, with fmt's text TOLD by the authors' own Lean function (tested against real Go, not proved from fmt's source: count such statements apart). THE CARD IS WHAT COUNTS. Prove the row's statement (the work); the ties are given (YtjagonoicaelmaaGreatDoorTie.lean); close each card by the builder's one call (the guide's Derived/Test/ToyasCard.lean, 'card_holds'). Laid BY PROGRAM, IN A SANDBOX (cutbox-door.mjs). By AI agents, Wed Nov 11 2026. No macro, syntax, notation, axiom, sorry.
-/
import Derived.Test.YtjagonoicaelmaaGreatDoorRows
import GoSem.ClaimSeven
namespace Go.Proofs.YtjagonoicaelmaaGreatDoor
namespace Rows

/-- THE TIED CARD OF 'keelsonlaw08.LogPlays'. -/
def logPlaysCard : Claim7 := { stood := { row := logPlaysRow, standIns := [], harness := (true, "9c7c2e0f4e32b33959efc814eb5be23cc4a174dc2f5f70f8e21ed6cd14bc61c6"), looks := false }, kinds := [], alts := [], laidByText := true, laidKinds := [.data], laidTests := true, laidLooks := .later }
def LogPlaysCardSaid : Prop := Claim7.holds Tryz.pinned (.plain (OpenSpec.ofChange logPlaysSpec)) logPlaysCard

/-- THE TIED CARD OF 'keelsonlaw08.LogWear'. -/
def logWearCard : Claim7 := { stood := { row := logWearRow, standIns := [], harness := (true, "9c7c2e0f4e32b33959efc814eb5be23cc4a174dc2f5f70f8e21ed6cd14bc61c6"), looks := false }, kinds := [], alts := [], laidByText := true, laidKinds := [.data], laidTests := true, laidLooks := .later }
def LogWearCardSaid : Prop := Claim7.holds Tryz.pinned (.plain (OpenSpec.ofChange logWearSpec)) logWearCard

/-- THE TIED CARD OF 'keelsonlaw08.LogEmpty'. -/
def logEmptyCard : Claim7 := { stood := { row := logEmptyRow, standIns := [], harness := (true, "9c7c2e0f4e32b33959efc814eb5be23cc4a174dc2f5f70f8e21ed6cd14bc61c6"), looks := false }, kinds := [], alts := [], laidByText := true, laidKinds := [.data], laidTests := true, laidLooks := .later }
def LogEmptyCardSaid : Prop := Claim7.holds Tryz.pinned (.plain (OpenSpec.ofChange logEmptySpec)) logEmptyCard

/-- THE TIED CARD OF 'keelsonlaw08.LogMends'. -/
def logMendsCard : Claim7 := { stood := { row := logMendsRow, standIns := [], harness := (true, "9c7c2e0f4e32b33959efc814eb5be23cc4a174dc2f5f70f8e21ed6cd14bc61c6"), looks := false }, kinds := [], alts := [], laidByText := true, laidKinds := [.data], laidTests := true, laidLooks := .later }
def LogMendsCardSaid : Prop := Claim7.holds Tryz.pinned (.plain (OpenSpec.ofChange logMendsSpec)) logMendsCard

/-- THE TIED CARD OF 'keelsonlaw08.LogFull'. -/
def logFullCard : Claim7 := { stood := { row := logFullRow, standIns := [], harness := (true, "9c7c2e0f4e32b33959efc814eb5be23cc4a174dc2f5f70f8e21ed6cd14bc61c6"), looks := false }, kinds := [], alts := [], laidByText := true, laidKinds := [.data], laidTests := true, laidLooks := .later }
def LogFullCardSaid : Prop := Claim7.holds Tryz.pinned (.plain (OpenSpec.ofChange logFullSpec)) logFullCard

/-- THE TIED CARD OF 'keelsonlaw08.LogRoom'. -/
def logRoomCard : Claim7 := { stood := { row := logRoomRow, standIns := [], harness := (true, "9c7c2e0f4e32b33959efc814eb5be23cc4a174dc2f5f70f8e21ed6cd14bc61c6"), looks := false }, kinds := [], alts := [], laidByText := true, laidKinds := [.data], laidTests := true, laidLooks := .later }
def LogRoomCardSaid : Prop := Claim7.holds Tryz.pinned (.plain (OpenSpec.ofChange logRoomSpec)) logRoomCard

/-- THE SECOND FORM's CARD OF 'keelsonlaw08.LogPlays'. -/
def logPlaysUptoCard : Claim7 := { stood := { row := logPlaysUptoRow, standIns := [], harness := (true, "9c7c2e0f4e32b33959efc814eb5be23cc4a174dc2f5f70f8e21ed6cd14bc61c6"), looks := false }, kinds := [], alts := [], laidByText := true, laidKinds := [.data], laidTests := true, laidLooks := .later }
def LogPlaysUptoCardSaid : Prop := Claim7.holds Tryz.pinned (.plain (OpenSpec.upto logPlaysSpec)) logPlaysUptoCard

/-- THE SECOND FORM's CARD OF 'keelsonlaw08.LogWear'. -/
def logWearUptoCard : Claim7 := { stood := { row := logWearUptoRow, standIns := [], harness := (true, "9c7c2e0f4e32b33959efc814eb5be23cc4a174dc2f5f70f8e21ed6cd14bc61c6"), looks := false }, kinds := [], alts := [], laidByText := true, laidKinds := [.data], laidTests := true, laidLooks := .later }
def LogWearUptoCardSaid : Prop := Claim7.holds Tryz.pinned (.plain (OpenSpec.upto logWearSpec)) logWearUptoCard

/-- THE SECOND FORM's CARD OF 'keelsonlaw08.LogEmpty'. -/
def logEmptyUptoCard : Claim7 := { stood := { row := logEmptyUptoRow, standIns := [], harness := (true, "9c7c2e0f4e32b33959efc814eb5be23cc4a174dc2f5f70f8e21ed6cd14bc61c6"), looks := false }, kinds := [], alts := [], laidByText := true, laidKinds := [.data], laidTests := true, laidLooks := .later }
def LogEmptyUptoCardSaid : Prop := Claim7.holds Tryz.pinned (.plain (OpenSpec.upto logEmptySpec)) logEmptyUptoCard

/-- THE SECOND FORM's CARD OF 'keelsonlaw08.LogMends'. -/
def logMendsUptoCard : Claim7 := { stood := { row := logMendsUptoRow, standIns := [], harness := (true, "9c7c2e0f4e32b33959efc814eb5be23cc4a174dc2f5f70f8e21ed6cd14bc61c6"), looks := false }, kinds := [], alts := [], laidByText := true, laidKinds := [.data], laidTests := true, laidLooks := .later }
def LogMendsUptoCardSaid : Prop := Claim7.holds Tryz.pinned (.plain (OpenSpec.upto logMendsSpec)) logMendsUptoCard

/-- THE SECOND FORM's CARD OF 'keelsonlaw08.LogFull'. -/
def logFullUptoCard : Claim7 := { stood := { row := logFullUptoRow, standIns := [], harness := (true, "9c7c2e0f4e32b33959efc814eb5be23cc4a174dc2f5f70f8e21ed6cd14bc61c6"), looks := false }, kinds := [], alts := [], laidByText := true, laidKinds := [.data], laidTests := true, laidLooks := .later }
def LogFullUptoCardSaid : Prop := Claim7.holds Tryz.pinned (.plain (OpenSpec.upto logFullSpec)) logFullUptoCard

/-- THE SECOND FORM's CARD OF 'keelsonlaw08.LogRoom'. -/
def logRoomUptoCard : Claim7 := { stood := { row := logRoomUptoRow, standIns := [], harness := (true, "9c7c2e0f4e32b33959efc814eb5be23cc4a174dc2f5f70f8e21ed6cd14bc61c6"), looks := false }, kinds := [], alts := [], laidByText := true, laidKinds := [.data], laidTests := true, laidLooks := .later }
def LogRoomUptoCardSaid : Prop := Claim7.holds Tryz.pinned (.plain (OpenSpec.upto logRoomSpec)) logRoomUptoCard
end Rows
end Go.Proofs.YtjagonoicaelmaaGreatDoor
