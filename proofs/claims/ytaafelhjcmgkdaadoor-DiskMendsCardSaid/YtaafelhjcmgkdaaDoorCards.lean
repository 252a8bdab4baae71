/-
  DERIVED. GIVEN WITH THE SEED: THE CARDS: each row of YtaafelhjcmgkdaaDoorRows.lean that lists a variable, with what it lists TIED to the program's text (the seventh form; the later family's looks); each row that meets fmt, with fmt's text TOLD by the authors' own Lean function (tested against real Go, not proved from fmt's source: count such statements apart). THE CARD IS WHAT COUNTS. Prove the row's statement (the work); the ties are given (YtaafelhjcmgkdaaDoorTie.lean); close each card by the builder's one call (the guide's Derived/Test/ToyasCard.lean, 'card_holds'). Laid BY PROGRAM, IN A SANDBOX (cutbox-door.mjs). By AI agents, Wed Nov 11 2026. No macro, syntax, notation, axiom, sorry.
-/
import Derived.Test.YtaafelhjcmgkdaaDoorRows
import GoSem.ClaimSeven
namespace Go.Proofs.YtaafelhjcmgkdaaDoor
namespace Rows

/-- THE TIED CARD OF 'keelsonlaw07.DiskWorn'. -/
def diskWornCard : Claim7 := { stood := { row := diskWornRow, standIns := [], harness := (true, "708a1d3dcf306c5ab66743b45daefe53216964c84f0749bbd3db12d00a06d0d7"), looks := false }, kinds := [], alts := [], laidByText := true, laidKinds := [.data], laidTests := true, laidLooks := .later }
def DiskWornCardSaid : Prop := Claim7.holds Tryd.pinned (.plain (OpenSpec.ofChange diskWornSpec)) diskWornCard

/-- THE TIED CARD OF 'keelsonlaw07.DiskMends'. -/
def diskMendsCard : Claim7 := { stood := { row := diskMendsRow, standIns := [], harness := (true, "708a1d3dcf306c5ab66743b45daefe53216964c84f0749bbd3db12d00a06d0d7"), looks := false }, kinds := [], alts := [], laidByText := true, laidKinds := [.data], laidTests := true, laidLooks := .later }
def DiskMendsCardSaid : Prop := Claim7.holds Tryd.pinned (.plain (OpenSpec.ofChange diskMendsSpec)) diskMendsCard

/-- THE TIED CARD OF 'keelsonlaw07.DiskApart'. -/
def diskApartCard : Claim7 := { stood := { row := diskApartRow, standIns := [], harness := (true, "708a1d3dcf306c5ab66743b45daefe53216964c84f0749bbd3db12d00a06d0d7"), looks := false }, kinds := [], alts := [], laidByText := true, laidKinds := [.data], laidTests := true, laidLooks := .later }
def DiskApartCardSaid : Prop := Claim7.holds Tryd.pinned (.plain (OpenSpec.ofChange diskApartSpec)) diskApartCard

/-- THE TIED CARD OF 'keelsonlaw07.DiskOrder'. -/
def diskOrderCard : Claim7 := { stood := { row := diskOrderRow, standIns := [], harness := (true, "708a1d3dcf306c5ab66743b45daefe53216964c84f0749bbd3db12d00a06d0d7"), looks := false }, kinds := [], alts := [], laidByText := true, laidKinds := [.data], laidTests := true, laidLooks := .later }
def DiskOrderCardSaid : Prop := Claim7.holds Tryd.pinned (.plain (OpenSpec.ofChange diskOrderSpec)) diskOrderCard

/-- THE SECOND FORM's CARD OF 'keelsonlaw07.DiskWorn'. -/
def diskWornUptoCard : Claim7 := { stood := { row := diskWornUptoRow, standIns := [], harness := (true, "708a1d3dcf306c5ab66743b45daefe53216964c84f0749bbd3db12d00a06d0d7"), looks := false }, kinds := [], alts := [], laidByText := true, laidKinds := [.data], laidTests := true, laidLooks := .later }
def DiskWornUptoCardSaid : Prop := Claim7.holds Tryd.pinned (.plain (OpenSpec.upto diskWornSpec)) diskWornUptoCard

/-- THE SECOND FORM's CARD OF 'keelsonlaw07.DiskMends'. -/
def diskMendsUptoCard : Claim7 := { stood := { row := diskMendsUptoRow, standIns := [], harness := (true, "708a1d3dcf306c5ab66743b45daefe53216964c84f0749bbd3db12d00a06d0d7"), looks := false }, kinds := [], alts := [], laidByText := true, laidKinds := [.data], laidTests := true, laidLooks := .later }
def DiskMendsUptoCardSaid : Prop := Claim7.holds Tryd.pinned (.plain (OpenSpec.upto diskMendsSpec)) diskMendsUptoCard

/-- THE SECOND FORM's CARD OF 'keelsonlaw07.DiskApart'. -/
def diskApartUptoCard : Claim7 := { stood := { row := diskApartUptoRow, standIns := [], harness := (true, "708a1d3dcf306c5ab66743b45daefe53216964c84f0749bbd3db12d00a06d0d7"), looks := false }, kinds := [], alts := [], laidByText := true, laidKinds := [.data], laidTests := true, laidLooks := .later }
def DiskApartUptoCardSaid : Prop := Claim7.holds Tryd.pinned (.plain (OpenSpec.upto diskApartSpec)) diskApartUptoCard

/-- THE SECOND FORM's CARD OF 'keelsonlaw07.DiskOrder'. -/
def diskOrderUptoCard : Claim7 := { stood := { row := diskOrderUptoRow, standIns := [], harness := (true, "708a1d3dcf306c5ab66743b45daefe53216964c84f0749bbd3db12d00a06d0d7"), looks := false }, kinds := [], alts := [], laidByText := true, laidKinds := [.data], laidTests := true, laidLooks := .later }
def DiskOrderUptoCardSaid : Prop := Claim7.holds Tryd.pinned (.plain (OpenSpec.upto diskOrderSpec)) diskOrderUptoCard
end Rows
end Go.Proofs.YtaafelhjcmgkdaaDoor
