/-
  DERIVED. GIVEN WITH THE SEED: THE CARDS: each row of YtkdkeokldcehhaaGreatDoorRows.lean that lists a variable, with what it lists TIED to the program's text (the seventh form; the later family's looks); each row that meets fmt, with fmt's text TOLD by the authors' own Lean function (tested against real Go, not proved from fmt's source: count such statements apart). THE CARD IS WHAT COUNTS. Prove the row's statement (the work); the ties are given (YtkdkeokldcehhaaGreatDoorTie.lean); close each card by the builder's one call (the guide's Derived/Test/ToyasCard.lean, 'card_holds'). Laid BY PROGRAM, IN A SANDBOX (cutbox-door.mjs). By AI agents, Wed Nov 11 2026. No macro, syntax, notation, axiom, sorry.
-/
import Derived.Test.YtkdkeokldcehhaaGreatDoorRows
import GoSem.ClaimSeven
namespace Go.Proofs.YtkdkeokldcehhaaGreatDoor
namespace Rows

/-- THE TIED CARD OF 'coadjutorlaw17.StepExact'. -/
def stepExactCard : Claim7 := { stood := { row := stepExactRow, standIns := [], harness := (true, "e383f1a593e63a9d439ca9797ac405b8308337cfac675d6f943c2b943db58247"), looks := false }, kinds := [], alts := [], laidByText := true, laidKinds := [.data, .data], laidTests := true, laidLooks := .later }
def StepExactCardSaid : Prop := Claim7.holds Tryz.pinned (.plain (OpenSpec.ofChange stepExactSpec)) stepExactCard

/-- THE TIED CARD OF 'coadjutorlaw18.GenExact'. -/
def genExactCard : Claim7 := { stood := { row := genExactRow, standIns := [], harness := (true, "e383f1a593e63a9d439ca9797ac405b8308337cfac675d6f943c2b943db58247"), looks := false }, kinds := [], alts := [], laidByText := true, laidKinds := [.data, .data], laidTests := true, laidLooks := .later }
def GenExactCardSaid : Prop := Claim7.holds Tryz.pinned (.plain (OpenSpec.ofChange genExactSpec)) genExactCard

/-- THE SECOND FORM's CARD OF 'coadjutorlaw17.StepExact'. -/
def stepExactUptoCard : Claim7 := { stood := { row := stepExactUptoRow, standIns := [], harness := (true, "e383f1a593e63a9d439ca9797ac405b8308337cfac675d6f943c2b943db58247"), looks := false }, kinds := [], alts := [], laidByText := true, laidKinds := [.data, .data], laidTests := true, laidLooks := .later }
def StepExactUptoCardSaid : Prop := Claim7.holds Tryz.pinned (.plain (OpenSpec.upto stepExactSpec)) stepExactUptoCard

/-- THE SECOND FORM's CARD OF 'coadjutorlaw18.GenExact'. -/
def genExactUptoCard : Claim7 := { stood := { row := genExactUptoRow, standIns := [], harness := (true, "e383f1a593e63a9d439ca9797ac405b8308337cfac675d6f943c2b943db58247"), looks := false }, kinds := [], alts := [], laidByText := true, laidKinds := [.data, .data], laidTests := true, laidLooks := .later }
def GenExactUptoCardSaid : Prop := Claim7.holds Tryz.pinned (.plain (OpenSpec.upto genExactSpec)) genExactUptoCard
end Rows
end Go.Proofs.YtkdkeokldcehhaaGreatDoor
