/-
  DERIVED. GIVEN WITH THE SEED: THE CARDS: each row of YtnemlbnmnijghaaDoorRows.lean that lists a variable, with what it lists TIED to the program's text (the seventh form; the later family's looks); each row that meets fmt, with fmt's text TOLD by the authors' own Lean function (tested against real Go, not proved from fmt's source: count such statements apart). THE CARD IS WHAT COUNTS. Prove the row's statement (the work); the ties are given (YtnemlbnmnijghaaDoorTie.lean); close each card by the builder's one call (the guide's Derived/Test/ToyasCard.lean, 'card_holds'). Laid BY PROGRAM, IN A SANDBOX (cutbox-door.mjs). By AI agents, Wed Nov 11 2026. No macro, syntax, notation, axiom, sorry.
-/
import Derived.Test.YtnemlbnmnijghaaDoorRows
import GoSem.ClaimSeven
namespace Go.Proofs.YtnemlbnmnijghaaDoor
namespace Rows

/-- THE TIED CARD OF 'keelsonlaw06.BbtPlays'. -/
def bbtPlaysCard : Claim7 := { stood := { row := bbtPlaysRow, standIns := [], harness := (true, "6edfd7b7ab0fdeace78ea7fbcae6a26c3ca8ef8dd87db473c2387b42003e78d3"), looks := false }, kinds := [], alts := [], laidByText := true, laidKinds := [.data], laidTests := true, laidLooks := .later }
def BbtPlaysCardSaid : Prop := Claim7.holds Tryd.pinned (.plain (OpenSpec.ofChange bbtPlaysSpec)) bbtPlaysCard

/-- THE TIED CARD OF 'keelsonlaw06.BbtCuts'. -/
def bbtCutsCard : Claim7 := { stood := { row := bbtCutsRow, standIns := [], harness := (true, "6edfd7b7ab0fdeace78ea7fbcae6a26c3ca8ef8dd87db473c2387b42003e78d3"), looks := false }, kinds := [], alts := [], laidByText := true, laidKinds := [.data], laidTests := true, laidLooks := .later }
def BbtCutsCardSaid : Prop := Claim7.holds Tryd.pinned (.plain (OpenSpec.ofChange bbtCutsSpec)) bbtCutsCard

/-- THE TIED CARD OF 'keelsonlaw06.BbtFlips'. -/
def bbtFlipsCard : Claim7 := { stood := { row := bbtFlipsRow, standIns := [], harness := (true, "6edfd7b7ab0fdeace78ea7fbcae6a26c3ca8ef8dd87db473c2387b42003e78d3"), looks := false }, kinds := [], alts := [], laidByText := true, laidKinds := [.data], laidTests := true, laidLooks := .later }
def BbtFlipsCardSaid : Prop := Claim7.holds Tryd.pinned (.plain (OpenSpec.ofChange bbtFlipsSpec)) bbtFlipsCard

/-- THE TIED CARD OF 'keelsonlaw06.BbtNone'. -/
def bbtNoneCard : Claim7 := { stood := { row := bbtNoneRow, standIns := [], harness := (true, "6edfd7b7ab0fdeace78ea7fbcae6a26c3ca8ef8dd87db473c2387b42003e78d3"), looks := false }, kinds := [], alts := [], laidByText := true, laidKinds := [.data], laidTests := true, laidLooks := .later }
def BbtNoneCardSaid : Prop := Claim7.holds Tryd.pinned (.plain (OpenSpec.ofChange bbtNoneSpec)) bbtNoneCard

/-- THE TIED CARD OF 'keelsonlaw06.BbtApart'. -/
def bbtApartCard : Claim7 := { stood := { row := bbtApartRow, standIns := [], harness := (true, "6edfd7b7ab0fdeace78ea7fbcae6a26c3ca8ef8dd87db473c2387b42003e78d3"), looks := false }, kinds := [], alts := [], laidByText := true, laidKinds := [.data], laidTests := true, laidLooks := .later }
def BbtApartCardSaid : Prop := Claim7.holds Tryd.pinned (.plain (OpenSpec.ofChange bbtApartSpec)) bbtApartCard

/-- THE TIED CARD OF 'keelsonlaw07.DiskWorn'. -/
def diskWornCard : Claim7 := { stood := { row := diskWornRow, standIns := [], harness := (true, "6edfd7b7ab0fdeace78ea7fbcae6a26c3ca8ef8dd87db473c2387b42003e78d3"), looks := false }, kinds := [], alts := [], laidByText := true, laidKinds := [.data], laidTests := true, laidLooks := .later }
def DiskWornCardSaid : Prop := Claim7.holds Tryd.pinned (.plain (OpenSpec.ofChange diskWornSpec)) diskWornCard

/-- THE TIED CARD OF 'keelsonlaw07.DiskMends'. -/
def diskMendsCard : Claim7 := { stood := { row := diskMendsRow, standIns := [], harness := (true, "6edfd7b7ab0fdeace78ea7fbcae6a26c3ca8ef8dd87db473c2387b42003e78d3"), looks := false }, kinds := [], alts := [], laidByText := true, laidKinds := [.data], laidTests := true, laidLooks := .later }
def DiskMendsCardSaid : Prop := Claim7.holds Tryd.pinned (.plain (OpenSpec.ofChange diskMendsSpec)) diskMendsCard

/-- THE TIED CARD OF 'keelsonlaw07.DiskApart'. -/
def diskApartCard : Claim7 := { stood := { row := diskApartRow, standIns := [], harness := (true, "6edfd7b7ab0fdeace78ea7fbcae6a26c3ca8ef8dd87db473c2387b42003e78d3"), looks := false }, kinds := [], alts := [], laidByText := true, laidKinds := [.data], laidTests := true, laidLooks := .later }
def DiskApartCardSaid : Prop := Claim7.holds Tryd.pinned (.plain (OpenSpec.ofChange diskApartSpec)) diskApartCard

/-- THE TIED CARD OF 'keelsonlaw07.DiskOrder'. -/
def diskOrderCard : Claim7 := { stood := { row := diskOrderRow, standIns := [], harness := (true, "6edfd7b7ab0fdeace78ea7fbcae6a26c3ca8ef8dd87db473c2387b42003e78d3"), looks := false }, kinds := [], alts := [], laidByText := true, laidKinds := [.data], laidTests := true, laidLooks := .later }
def DiskOrderCardSaid : Prop := Claim7.holds Tryd.pinned (.plain (OpenSpec.ofChange diskOrderSpec)) diskOrderCard

/-- THE SECOND FORM's CARD OF 'keelsonlaw06.BbtPlays'. -/
def bbtPlaysUptoCard : Claim7 := { stood := { row := bbtPlaysUptoRow, standIns := [], harness := (true, "6edfd7b7ab0fdeace78ea7fbcae6a26c3ca8ef8dd87db473c2387b42003e78d3"), looks := false }, kinds := [], alts := [], laidByText := true, laidKinds := [.data], laidTests := true, laidLooks := .later }
def BbtPlaysUptoCardSaid : Prop := Claim7.holds Tryd.pinned (.plain (OpenSpec.upto bbtPlaysSpec)) bbtPlaysUptoCard

/-- THE SECOND FORM's CARD OF 'keelsonlaw06.BbtCuts'. -/
def bbtCutsUptoCard : Claim7 := { stood := { row := bbtCutsUptoRow, standIns := [], harness := (true, "6edfd7b7ab0fdeace78ea7fbcae6a26c3ca8ef8dd87db473c2387b42003e78d3"), looks := false }, kinds := [], alts := [], laidByText := true, laidKinds := [.data], laidTests := true, laidLooks := .later }
def BbtCutsUptoCardSaid : Prop := Claim7.holds Tryd.pinned (.plain (OpenSpec.upto bbtCutsSpec)) bbtCutsUptoCard

/-- THE SECOND FORM's CARD OF 'keelsonlaw06.BbtFlips'. -/
def bbtFlipsUptoCard : Claim7 := { stood := { row := bbtFlipsUptoRow, standIns := [], harness := (true, "6edfd7b7ab0fdeace78ea7fbcae6a26c3ca8ef8dd87db473c2387b42003e78d3"), looks := false }, kinds := [], alts := [], laidByText := true, laidKinds := [.data], laidTests := true, laidLooks := .later }
def BbtFlipsUptoCardSaid : Prop := Claim7.holds Tryd.pinned (.plain (OpenSpec.upto bbtFlipsSpec)) bbtFlipsUptoCard

/-- THE SECOND FORM's CARD OF 'keelsonlaw06.BbtNone'. -/
def bbtNoneUptoCard : Claim7 := { stood := { row := bbtNoneUptoRow, standIns := [], harness := (true, "6edfd7b7ab0fdeace78ea7fbcae6a26c3ca8ef8dd87db473c2387b42003e78d3"), looks := false }, kinds := [], alts := [], laidByText := true, laidKinds := [.data], laidTests := true, laidLooks := .later }
def BbtNoneUptoCardSaid : Prop := Claim7.holds Tryd.pinned (.plain (OpenSpec.upto bbtNoneSpec)) bbtNoneUptoCard

/-- THE SECOND FORM's CARD OF 'keelsonlaw06.BbtApart'. -/
def bbtApartUptoCard : Claim7 := { stood := { row := bbtApartUptoRow, standIns := [], harness := (true, "6edfd7b7ab0fdeace78ea7fbcae6a26c3ca8ef8dd87db473c2387b42003e78d3"), looks := false }, kinds := [], alts := [], laidByText := true, laidKinds := [.data], laidTests := true, laidLooks := .later }
def BbtApartUptoCardSaid : Prop := Claim7.holds Tryd.pinned (.plain (OpenSpec.upto bbtApartSpec)) bbtApartUptoCard

/-- THE SECOND FORM's CARD OF 'keelsonlaw07.DiskWorn'. -/
def diskWornUptoCard : Claim7 := { stood := { row := diskWornUptoRow, standIns := [], harness := (true, "6edfd7b7ab0fdeace78ea7fbcae6a26c3ca8ef8dd87db473c2387b42003e78d3"), looks := false }, kinds := [], alts := [], laidByText := true, laidKinds := [.data], laidTests := true, laidLooks := .later }
def DiskWornUptoCardSaid : Prop := Claim7.holds Tryd.pinned (.plain (OpenSpec.upto diskWornSpec)) diskWornUptoCard

/-- THE SECOND FORM's CARD OF 'keelsonlaw07.DiskMends'. -/
def diskMendsUptoCard : Claim7 := { stood := { row := diskMendsUptoRow, standIns := [], harness := (true, "6edfd7b7ab0fdeace78ea7fbcae6a26c3ca8ef8dd87db473c2387b42003e78d3"), looks := false }, kinds := [], alts := [], laidByText := true, laidKinds := [.data], laidTests := true, laidLooks := .later }
def DiskMendsUptoCardSaid : Prop := Claim7.holds Tryd.pinned (.plain (OpenSpec.upto diskMendsSpec)) diskMendsUptoCard

/-- THE SECOND FORM's CARD OF 'keelsonlaw07.DiskApart'. -/
def diskApartUptoCard : Claim7 := { stood := { row := diskApartUptoRow, standIns := [], harness := (true, "6edfd7b7ab0fdeace78ea7fbcae6a26c3ca8ef8dd87db473c2387b42003e78d3"), looks := false }, kinds := [], alts := [], laidByText := true, laidKinds := [.data], laidTests := true, laidLooks := .later }
def DiskApartUptoCardSaid : Prop := Claim7.holds Tryd.pinned (.plain (OpenSpec.upto diskApartSpec)) diskApartUptoCard

/-- THE SECOND FORM's CARD OF 'keelsonlaw07.DiskOrder'. -/
def diskOrderUptoCard : Claim7 := { stood := { row := diskOrderUptoRow, standIns := [], harness := (true, "6edfd7b7ab0fdeace78ea7fbcae6a26c3ca8ef8dd87db473c2387b42003e78d3"), looks := false }, kinds := [], alts := [], laidByText := true, laidKinds := [.data], laidTests := true, laidLooks := .later }
def DiskOrderUptoCardSaid : Prop := Claim7.holds Tryd.pinned (.plain (OpenSpec.upto diskOrderSpec)) diskOrderUptoCard
end Rows
end Go.Proofs.YtnemlbnmnijghaaDoor
