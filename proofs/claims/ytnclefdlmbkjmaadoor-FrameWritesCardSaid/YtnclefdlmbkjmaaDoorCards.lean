/-
  DERIVED. GIVEN WITH THE SEED: THE CARDS: each row of YtnclefdlmbkjmaaDoorRows.lean that lists a variable, with what it lists TIED to the program's text (the seventh form; the later family's looks); each row that meets fmt, with fmt's text TOLD by the authors' own Lean function (tested against real Go, not proved from fmt's source: count such statements apart). THE CARD IS WHAT COUNTS. Prove the row's statement (the work); the ties are given (YtnclefdlmbkjmaaDoorTie.lean); close each card by the builder's one call (the guide's Derived/Test/ToyasCard.lean, 'card_holds'). Laid BY PROGRAM, IN A SANDBOX (cutbox-door.mjs). By AI agents, Wed Nov 11 2026. No macro, syntax, notation, axiom, sorry.
-/
import Derived.Test.YtnclefdlmbkjmaaDoorRows
import GoSem.ClaimSeven
namespace Go.Proofs.YtnclefdlmbkjmaaDoor
namespace Rows

/-- THE TIED CARD OF 'keelsonlaw05.FrameWrites'. -/
def frameWritesCard : Claim7 := { stood := { row := frameWritesRow, standIns := [], harness := (true, "2f6fc77e3b97bb3c87bcd6e5be117ef4557f2317e2bbc9d86068be81adaa9b83"), looks := false }, kinds := [], alts := [], laidByText := true, laidKinds := [.data], laidTests := true, laidLooks := .later }
def FrameWritesCardSaid : Prop := Claim7.holds Tryd.pinned (.plain (OpenSpec.ofChange frameWritesSpec)) frameWritesCard

/-- THE TIED CARD OF 'keelsonlaw05.FrameReads'. -/
def frameReadsCard : Claim7 := { stood := { row := frameReadsRow, standIns := [], harness := (true, "2f6fc77e3b97bb3c87bcd6e5be117ef4557f2317e2bbc9d86068be81adaa9b83"), looks := false }, kinds := [], alts := [], laidByText := true, laidKinds := [.data], laidTests := true, laidLooks := .later }
def FrameReadsCardSaid : Prop := Claim7.holds Tryd.pinned (.plain (OpenSpec.ofChange frameReadsSpec)) frameReadsCard

/-- THE TIED CARD OF 'keelsonlaw05.FrameMends'. -/
def frameMendsCard : Claim7 := { stood := { row := frameMendsRow, standIns := [], harness := (true, "2f6fc77e3b97bb3c87bcd6e5be117ef4557f2317e2bbc9d86068be81adaa9b83"), looks := false }, kinds := [], alts := [], laidByText := true, laidKinds := [.data], laidTests := true, laidLooks := .later }
def FrameMendsCardSaid : Prop := Claim7.holds Tryd.pinned (.plain (OpenSpec.ofChange frameMendsSpec)) frameMendsCard

/-- THE TIED CARD OF 'keelsonlaw05.FrameTorn'. -/
def frameTornCard : Claim7 := { stood := { row := frameTornRow, standIns := [], harness := (true, "2f6fc77e3b97bb3c87bcd6e5be117ef4557f2317e2bbc9d86068be81adaa9b83"), looks := false }, kinds := [], alts := [], laidByText := true, laidKinds := [.data], laidTests := true, laidLooks := .later }
def FrameTornCardSaid : Prop := Claim7.holds Tryd.pinned (.plain (OpenSpec.ofChange frameTornSpec)) frameTornCard

/-- THE TIED CARD OF 'keelsonlaw05.FrameApart'. -/
def frameApartCard : Claim7 := { stood := { row := frameApartRow, standIns := [], harness := (true, "2f6fc77e3b97bb3c87bcd6e5be117ef4557f2317e2bbc9d86068be81adaa9b83"), looks := false }, kinds := [], alts := [], laidByText := true, laidKinds := [.data], laidTests := true, laidLooks := .later }
def FrameApartCardSaid : Prop := Claim7.holds Tryd.pinned (.plain (OpenSpec.ofChange frameApartSpec)) frameApartCard

/-- THE SECOND FORM's CARD OF 'keelsonlaw05.FrameWrites'. -/
def frameWritesUptoCard : Claim7 := { stood := { row := frameWritesUptoRow, standIns := [], harness := (true, "2f6fc77e3b97bb3c87bcd6e5be117ef4557f2317e2bbc9d86068be81adaa9b83"), looks := false }, kinds := [], alts := [], laidByText := true, laidKinds := [.data], laidTests := true, laidLooks := .later }
def FrameWritesUptoCardSaid : Prop := Claim7.holds Tryd.pinned (.plain (OpenSpec.upto frameWritesSpec)) frameWritesUptoCard

/-- THE SECOND FORM's CARD OF 'keelsonlaw05.FrameReads'. -/
def frameReadsUptoCard : Claim7 := { stood := { row := frameReadsUptoRow, standIns := [], harness := (true, "2f6fc77e3b97bb3c87bcd6e5be117ef4557f2317e2bbc9d86068be81adaa9b83"), looks := false }, kinds := [], alts := [], laidByText := true, laidKinds := [.data], laidTests := true, laidLooks := .later }
def FrameReadsUptoCardSaid : Prop := Claim7.holds Tryd.pinned (.plain (OpenSpec.upto frameReadsSpec)) frameReadsUptoCard

/-- THE SECOND FORM's CARD OF 'keelsonlaw05.FrameMends'. -/
def frameMendsUptoCard : Claim7 := { stood := { row := frameMendsUptoRow, standIns := [], harness := (true, "2f6fc77e3b97bb3c87bcd6e5be117ef4557f2317e2bbc9d86068be81adaa9b83"), looks := false }, kinds := [], alts := [], laidByText := true, laidKinds := [.data], laidTests := true, laidLooks := .later }
def FrameMendsUptoCardSaid : Prop := Claim7.holds Tryd.pinned (.plain (OpenSpec.upto frameMendsSpec)) frameMendsUptoCard

/-- THE SECOND FORM's CARD OF 'keelsonlaw05.FrameTorn'. -/
def frameTornUptoCard : Claim7 := { stood := { row := frameTornUptoRow, standIns := [], harness := (true, "2f6fc77e3b97bb3c87bcd6e5be117ef4557f2317e2bbc9d86068be81adaa9b83"), looks := false }, kinds := [], alts := [], laidByText := true, laidKinds := [.data], laidTests := true, laidLooks := .later }
def FrameTornUptoCardSaid : Prop := Claim7.holds Tryd.pinned (.plain (OpenSpec.upto frameTornSpec)) frameTornUptoCard

/-- THE SECOND FORM's CARD OF 'keelsonlaw05.FrameApart'. -/
def frameApartUptoCard : Claim7 := { stood := { row := frameApartUptoRow, standIns := [], harness := (true, "2f6fc77e3b97bb3c87bcd6e5be117ef4557f2317e2bbc9d86068be81adaa9b83"), looks := false }, kinds := [], alts := [], laidByText := true, laidKinds := [.data], laidTests := true, laidLooks := .later }
def FrameApartUptoCardSaid : Prop := Claim7.holds Tryd.pinned (.plain (OpenSpec.upto frameApartSpec)) frameApartUptoCard
end Rows
end Go.Proofs.YtnclefdlmbkjmaaDoor
