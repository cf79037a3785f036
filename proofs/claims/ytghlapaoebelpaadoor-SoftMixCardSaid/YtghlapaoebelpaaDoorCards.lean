/-
  DERIVED. GIVEN WITH THE SEED: THE CARDS: each row of YtghlapaoebelpaaDoorRows.lean that lists a variable, with what it lists TIED to the program's text (the seventh form; the later family's looks); each row that meets fmt, with fmt's text TOLD by the authors' own Lean function (tested against real Go, not proved from fmt's source: count such statements apart). THE CARD IS WHAT COUNTS. Prove the row's statement (the work); the ties are given (YtghlapaoebelpaaDoorTie.lean); close each card by the builder's one call (the guide's Derived/Test/ToyasCard.lean, 'card_holds'). Laid BY PROGRAM, IN A SANDBOX (cutbox-door.mjs). By AI agents, Wed Nov 11 2026. No macro, syntax, notation, axiom, sorry.
-/
import Derived.Test.YtghlapaoebelpaaDoorRows
import GoSem.ClaimSeven
namespace Go.Proofs.YtghlapaoebelpaaDoor
namespace Rows

/-- THE TIED CARD OF 'coadjutorlaw12.SoftExact'. -/
def softExactCard : Claim7 := { stood := { row := softExactRow, standIns := [], harness := (true, "7cf797af1e80efa669e08a051adf9636c80b193381eadafc609590bb9212cfc2"), looks := false }, kinds := [], alts := [], laidByText := true, laidKinds := [.data], laidTests := true, laidLooks := .later }
def SoftExactCardSaid : Prop := Claim7.holds Tryd.pinned (.plain (OpenSpec.ofChange softExactSpec)) softExactCard

/-- THE TIED CARD OF 'coadjutorlaw12.SoftMix'. -/
def softMixCard : Claim7 := { stood := { row := softMixRow, standIns := [], harness := (true, "7cf797af1e80efa669e08a051adf9636c80b193381eadafc609590bb9212cfc2"), looks := false }, kinds := [], alts := [], laidByText := true, laidKinds := [.data], laidTests := true, laidLooks := .later }
def SoftMixCardSaid : Prop := Claim7.holds Tryd.pinned (.plain (OpenSpec.ofChange softMixSpec)) softMixCard

/-- THE TIED CARD OF 'coadjutorlaw12.SoftOrder'. -/
def softOrderCard : Claim7 := { stood := { row := softOrderRow, standIns := [], harness := (true, "7cf797af1e80efa669e08a051adf9636c80b193381eadafc609590bb9212cfc2"), looks := false }, kinds := [], alts := [], laidByText := true, laidKinds := [.data], laidTests := true, laidLooks := .later }
def SoftOrderCardSaid : Prop := Claim7.holds Tryd.pinned (.plain (OpenSpec.ofChange softOrderSpec)) softOrderCard

/-- THE TIED CARD OF 'coadjutorlaw12.SoftWithin'. -/
def softWithinCard : Claim7 := { stood := { row := softWithinRow, standIns := [], harness := (true, "7cf797af1e80efa669e08a051adf9636c80b193381eadafc609590bb9212cfc2"), looks := false }, kinds := [], alts := [], laidByText := true, laidKinds := [.data], laidTests := true, laidLooks := .later }
def SoftWithinCardSaid : Prop := Claim7.holds Tryd.pinned (.plain (OpenSpec.ofChange softWithinSpec)) softWithinCard

/-- THE TIED CARD OF 'coadjutorlaw12.SoftChosen'. -/
def softChosenCard : Claim7 := { stood := { row := softChosenRow, standIns := [], harness := (true, "7cf797af1e80efa669e08a051adf9636c80b193381eadafc609590bb9212cfc2"), looks := false }, kinds := [], alts := [], laidByText := true, laidKinds := [.data], laidTests := true, laidLooks := .later }
def SoftChosenCardSaid : Prop := Claim7.holds Tryd.pinned (.plain (OpenSpec.ofChange softChosenSpec)) softChosenCard

/-- THE SECOND FORM's CARD OF 'coadjutorlaw12.SoftExact'. -/
def softExactUptoCard : Claim7 := { stood := { row := softExactUptoRow, standIns := [], harness := (true, "7cf797af1e80efa669e08a051adf9636c80b193381eadafc609590bb9212cfc2"), looks := false }, kinds := [], alts := [], laidByText := true, laidKinds := [.data], laidTests := true, laidLooks := .later }
def SoftExactUptoCardSaid : Prop := Claim7.holds Tryd.pinned (.plain (OpenSpec.upto softExactSpec)) softExactUptoCard

/-- THE SECOND FORM's CARD OF 'coadjutorlaw12.SoftMix'. -/
def softMixUptoCard : Claim7 := { stood := { row := softMixUptoRow, standIns := [], harness := (true, "7cf797af1e80efa669e08a051adf9636c80b193381eadafc609590bb9212cfc2"), looks := false }, kinds := [], alts := [], laidByText := true, laidKinds := [.data], laidTests := true, laidLooks := .later }
def SoftMixUptoCardSaid : Prop := Claim7.holds Tryd.pinned (.plain (OpenSpec.upto softMixSpec)) softMixUptoCard

/-- THE SECOND FORM's CARD OF 'coadjutorlaw12.SoftOrder'. -/
def softOrderUptoCard : Claim7 := { stood := { row := softOrderUptoRow, standIns := [], harness := (true, "7cf797af1e80efa669e08a051adf9636c80b193381eadafc609590bb9212cfc2"), looks := false }, kinds := [], alts := [], laidByText := true, laidKinds := [.data], laidTests := true, laidLooks := .later }
def SoftOrderUptoCardSaid : Prop := Claim7.holds Tryd.pinned (.plain (OpenSpec.upto softOrderSpec)) softOrderUptoCard

/-- THE SECOND FORM's CARD OF 'coadjutorlaw12.SoftWithin'. -/
def softWithinUptoCard : Claim7 := { stood := { row := softWithinUptoRow, standIns := [], harness := (true, "7cf797af1e80efa669e08a051adf9636c80b193381eadafc609590bb9212cfc2"), looks := false }, kinds := [], alts := [], laidByText := true, laidKinds := [.data], laidTests := true, laidLooks := .later }
def SoftWithinUptoCardSaid : Prop := Claim7.holds Tryd.pinned (.plain (OpenSpec.upto softWithinSpec)) softWithinUptoCard

/-- THE SECOND FORM's CARD OF 'coadjutorlaw12.SoftChosen'. -/
def softChosenUptoCard : Claim7 := { stood := { row := softChosenUptoRow, standIns := [], harness := (true, "7cf797af1e80efa669e08a051adf9636c80b193381eadafc609590bb9212cfc2"), looks := false }, kinds := [], alts := [], laidByText := true, laidKinds := [.data], laidTests := true, laidLooks := .later }
def SoftChosenUptoCardSaid : Prop := Claim7.holds Tryd.pinned (.plain (OpenSpec.upto softChosenSpec)) softChosenUptoCard
end Rows
end Go.Proofs.YtghlapaoebelpaaDoor
