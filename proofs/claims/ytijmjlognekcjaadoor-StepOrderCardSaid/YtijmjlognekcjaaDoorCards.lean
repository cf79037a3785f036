/-
  DERIVED. GIVEN WITH THE SEED: THE CARDS: each row of YtijmjlognekcjaaDoorRows.lean that lists a variable, with what it lists TIED to the program's text (the seventh form; the later family's looks); each row that meets fmt, with fmt's text TOLD by the authors' own Lean function (tested against real Go, not proved from fmt's source: count such statements apart). THE CARD IS WHAT COUNTS. Prove the row's statement (the work); the ties are given (YtijmjlognekcjaaDoorTie.lean); close each card by the builder's one call (the guide's Derived/Test/ToyasCard.lean, 'card_holds'). Laid BY PROGRAM, IN A SANDBOX (cutbox-door.mjs). By AI agents, Wed Nov 11 2026. No macro, syntax, notation, axiom, sorry.
-/
import Derived.Test.YtijmjlognekcjaaDoorRows
import GoSem.ClaimSeven
namespace Go.Proofs.YtijmjlognekcjaaDoor
namespace Rows

/-- THE TIED CARD OF 'coadjutorlaw17.StepRuns'. -/
def stepRunsCard : Claim7 := { stood := { row := stepRunsRow, standIns := [], harness := (true, "84dbc56ffae8b26e42c9ff2f042717a77df40d3f6834dd69578ae4c70a5548d9"), looks := false }, kinds := [], alts := [], laidByText := true, laidKinds := [.data, .data], laidTests := true, laidLooks := .later }
def StepRunsCardSaid : Prop := Claim7.holds Tryd.pinned (.plain (OpenSpec.ofChange stepRunsSpec)) stepRunsCard

/-- THE TIED CARD OF 'coadjutorlaw17.StepOrder'. -/
def stepOrderCard : Claim7 := { stood := { row := stepOrderRow, standIns := [], harness := (true, "84dbc56ffae8b26e42c9ff2f042717a77df40d3f6834dd69578ae4c70a5548d9"), looks := false }, kinds := [], alts := [], laidByText := true, laidKinds := [.data, .data], laidTests := true, laidLooks := .later }
def StepOrderCardSaid : Prop := Claim7.holds Tryd.pinned (.plain (OpenSpec.ofChange stepOrderSpec)) stepOrderCard

/-- THE SECOND FORM's CARD OF 'coadjutorlaw17.StepRuns'. -/
def stepRunsUptoCard : Claim7 := { stood := { row := stepRunsUptoRow, standIns := [], harness := (true, "84dbc56ffae8b26e42c9ff2f042717a77df40d3f6834dd69578ae4c70a5548d9"), looks := false }, kinds := [], alts := [], laidByText := true, laidKinds := [.data, .data], laidTests := true, laidLooks := .later }
def StepRunsUptoCardSaid : Prop := Claim7.holds Tryd.pinned (.plain (OpenSpec.upto stepRunsSpec)) stepRunsUptoCard

/-- THE SECOND FORM's CARD OF 'coadjutorlaw17.StepOrder'. -/
def stepOrderUptoCard : Claim7 := { stood := { row := stepOrderUptoRow, standIns := [], harness := (true, "84dbc56ffae8b26e42c9ff2f042717a77df40d3f6834dd69578ae4c70a5548d9"), looks := false }, kinds := [], alts := [], laidByText := true, laidKinds := [.data, .data], laidTests := true, laidLooks := .later }
def StepOrderUptoCardSaid : Prop := Claim7.holds Tryd.pinned (.plain (OpenSpec.upto stepOrderSpec)) stepOrderUptoCard
end Rows
end Go.Proofs.YtijmjlognekcjaaDoor
