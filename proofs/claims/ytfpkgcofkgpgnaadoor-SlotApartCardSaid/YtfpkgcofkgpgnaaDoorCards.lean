/-
  DERIVED. GIVEN WITH THE SEED: THE CARDS: each row of YtfpkgcofkgpgnaaDoorRows.lean that lists a variable, with what it lists TIED to the program's text (the seventh form; the later family's looks); each row that meets fmt, with fmt's text TOLD by the authors' own Lean function (tested against real Go, not proved from fmt's source: count such statements apart). THE CARD IS WHAT COUNTS. Prove the row's statement (the work); the ties are given (YtfpkgcofkgpgnaaDoorTie.lean); close each card by the builder's one call (the guide's Derived/Test/ToyasCard.lean, 'card_holds'). Laid BY PROGRAM, IN A SANDBOX (cutbox-door.mjs). By AI agents, Wed Nov 11 2026. No macro, syntax, notation, axiom, sorry.
-/
import Derived.Test.YtfpkgcofkgpgnaaDoorRows
import GoSem.ClaimSeven
namespace Go.Proofs.YtfpkgcofkgpgnaaDoor
namespace Rows

/-- THE TIED CARD OF 'coadjutorlaw09.SlotApart'. -/
def slotApartCard : Claim7 := { stood := { row := slotApartRow, standIns := [], harness := (true, "96fae55277495b60c488a1cb538bbca6a26ae22a4fe5b6b80c6dbf16265df542"), looks := false }, kinds := [], alts := [], laidByText := true, laidKinds := [.data, .data], laidTests := true, laidLooks := .later }
def SlotApartCardSaid : Prop := Claim7.holds Tryd.pinned (.plain (OpenSpec.ofChange slotApartSpec)) slotApartCard

/-- THE TIED CARD OF 'coadjutorlaw09.SlotAll'. -/
def slotAllCard : Claim7 := { stood := { row := slotAllRow, standIns := [], harness := (true, "96fae55277495b60c488a1cb538bbca6a26ae22a4fe5b6b80c6dbf16265df542"), looks := false }, kinds := [], alts := [], laidByText := true, laidKinds := [.data, .data], laidTests := true, laidLooks := .later }
def SlotAllCardSaid : Prop := Claim7.holds Tryd.pinned (.plain (OpenSpec.ofChange slotAllSpec)) slotAllCard

/-- THE SECOND FORM's CARD OF 'coadjutorlaw09.SlotApart'. -/
def slotApartUptoCard : Claim7 := { stood := { row := slotApartUptoRow, standIns := [], harness := (true, "96fae55277495b60c488a1cb538bbca6a26ae22a4fe5b6b80c6dbf16265df542"), looks := false }, kinds := [], alts := [], laidByText := true, laidKinds := [.data, .data], laidTests := true, laidLooks := .later }
def SlotApartUptoCardSaid : Prop := Claim7.holds Tryd.pinned (.plain (OpenSpec.upto slotApartSpec)) slotApartUptoCard

/-- THE SECOND FORM's CARD OF 'coadjutorlaw09.SlotAll'. -/
def slotAllUptoCard : Claim7 := { stood := { row := slotAllUptoRow, standIns := [], harness := (true, "96fae55277495b60c488a1cb538bbca6a26ae22a4fe5b6b80c6dbf16265df542"), looks := false }, kinds := [], alts := [], laidByText := true, laidKinds := [.data, .data], laidTests := true, laidLooks := .later }
def SlotAllUptoCardSaid : Prop := Claim7.holds Tryd.pinned (.plain (OpenSpec.upto slotAllSpec)) slotAllUptoCard
end Rows
end Go.Proofs.YtfpkgcofkgpgnaaDoor
