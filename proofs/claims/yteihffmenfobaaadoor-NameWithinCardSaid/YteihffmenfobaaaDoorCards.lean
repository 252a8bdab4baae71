/-
  DERIVED. GIVEN WITH THE SEED: THE CARDS: each row of YteihffmenfobaaaDoorRows.lean that lists a variable, with what it lists TIED to the program's text (the seventh form; the later family's looks); each row that meets fmt, with fmt's text TOLD by the authors' own Lean function (tested against real Go, not proved from fmt's source: count such statements apart). THE CARD IS WHAT COUNTS. Prove the row's statement (the work); the ties are given (YteihffmenfobaaaDoorTie.lean); close each card by the builder's one call (the guide's Derived/Test/ToyasCard.lean, 'card_holds'). Laid BY PROGRAM, IN A SANDBOX (cutbox-door.mjs). By AI agents, Wed Nov 11 2026. No macro, syntax, notation, axiom, sorry.
-/
import Derived.Test.YteihffmenfobaaaDoorRows
import GoSem.ClaimSeven
namespace Go.Proofs.YteihffmenfobaaaDoor
namespace Rows

/-- THE TIED CARD OF 'keelsonlaw17.NameSplits'. -/
def nameSplitsCard : Claim7 := { stood := { row := nameSplitsRow, standIns := [], harness := (true, "c92e0cec7d7550da6620c18df06902e49b2eff2b80c305b8f307cc3373577ab9"), looks := false }, kinds := [], alts := [], laidByText := true, laidKinds := [.data, .pinned], laidTests := true, laidLooks := .later }
def NameSplitsCardSaid : Prop := Claim7.holds Tryd.pinned (.plain (OpenSpec.ofChange nameSplitsSpec)) nameSplitsCard

/-- THE TIED CARD OF 'keelsonlaw17.NameJoins'. -/
def nameJoinsCard : Claim7 := { stood := { row := nameJoinsRow, standIns := [], harness := (true, "c92e0cec7d7550da6620c18df06902e49b2eff2b80c305b8f307cc3373577ab9"), looks := false }, kinds := [], alts := [], laidByText := true, laidKinds := [.data, .pinned], laidTests := true, laidLooks := .later }
def NameJoinsCardSaid : Prop := Claim7.holds Tryd.pinned (.plain (OpenSpec.ofChange nameJoinsSpec)) nameJoinsCard

/-- THE TIED CARD OF 'keelsonlaw17.NameWithin'. -/
def nameWithinCard : Claim7 := { stood := { row := nameWithinRow, standIns := [], harness := (true, "c92e0cec7d7550da6620c18df06902e49b2eff2b80c305b8f307cc3373577ab9"), looks := false }, kinds := [], alts := [], laidByText := true, laidKinds := [.data, .pinned], laidTests := true, laidLooks := .later }
def NameWithinCardSaid : Prop := Claim7.holds Tryd.pinned (.plain (OpenSpec.ofChange nameWithinSpec)) nameWithinCard

/-- THE TIED CARD OF 'keelsonlaw17.NameDeep'. -/
def nameDeepCard : Claim7 := { stood := { row := nameDeepRow, standIns := [], harness := (true, "c92e0cec7d7550da6620c18df06902e49b2eff2b80c305b8f307cc3373577ab9"), looks := false }, kinds := [], alts := [], laidByText := true, laidKinds := [.data, .pinned], laidTests := true, laidLooks := .later }
def NameDeepCardSaid : Prop := Claim7.holds Tryd.pinned (.plain (OpenSpec.ofChange nameDeepSpec)) nameDeepCard

/-- THE SECOND FORM's CARD OF 'keelsonlaw17.NameSplits'. -/
def nameSplitsUptoCard : Claim7 := { stood := { row := nameSplitsUptoRow, standIns := [], harness := (true, "c92e0cec7d7550da6620c18df06902e49b2eff2b80c305b8f307cc3373577ab9"), looks := false }, kinds := [], alts := [], laidByText := true, laidKinds := [.data, .pinned], laidTests := true, laidLooks := .later }
def NameSplitsUptoCardSaid : Prop := Claim7.holds Tryd.pinned (.plain (OpenSpec.upto nameSplitsSpec)) nameSplitsUptoCard

/-- THE SECOND FORM's CARD OF 'keelsonlaw17.NameJoins'. -/
def nameJoinsUptoCard : Claim7 := { stood := { row := nameJoinsUptoRow, standIns := [], harness := (true, "c92e0cec7d7550da6620c18df06902e49b2eff2b80c305b8f307cc3373577ab9"), looks := false }, kinds := [], alts := [], laidByText := true, laidKinds := [.data, .pinned], laidTests := true, laidLooks := .later }
def NameJoinsUptoCardSaid : Prop := Claim7.holds Tryd.pinned (.plain (OpenSpec.upto nameJoinsSpec)) nameJoinsUptoCard

/-- THE SECOND FORM's CARD OF 'keelsonlaw17.NameWithin'. -/
def nameWithinUptoCard : Claim7 := { stood := { row := nameWithinUptoRow, standIns := [], harness := (true, "c92e0cec7d7550da6620c18df06902e49b2eff2b80c305b8f307cc3373577ab9"), looks := false }, kinds := [], alts := [], laidByText := true, laidKinds := [.data, .pinned], laidTests := true, laidLooks := .later }
def NameWithinUptoCardSaid : Prop := Claim7.holds Tryd.pinned (.plain (OpenSpec.upto nameWithinSpec)) nameWithinUptoCard

/-- THE SECOND FORM's CARD OF 'keelsonlaw17.NameDeep'. -/
def nameDeepUptoCard : Claim7 := { stood := { row := nameDeepUptoRow, standIns := [], harness := (true, "c92e0cec7d7550da6620c18df06902e49b2eff2b80c305b8f307cc3373577ab9"), looks := false }, kinds := [], alts := [], laidByText := true, laidKinds := [.data, .pinned], laidTests := true, laidLooks := .later }
def NameDeepUptoCardSaid : Prop := Claim7.holds Tryd.pinned (.plain (OpenSpec.upto nameDeepSpec)) nameDeepUptoCard
end Rows
end Go.Proofs.YteihffmenfobaaaDoor
