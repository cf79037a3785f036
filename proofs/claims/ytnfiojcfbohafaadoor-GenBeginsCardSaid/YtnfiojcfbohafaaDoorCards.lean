/-
  DERIVED. GIVEN WITH THE SEED: THE CARDS: each row of YtnfiojcfbohafaaDoorRows.lean that lists a variable, with what it lists TIED to the program's text (the seventh form; the later family's looks); each row that meets fmt, with fmt's text TOLD by the authors' own Lean function (tested against real Go, not proved from fmt's source: count such statements apart). THE CARD IS WHAT COUNTS. Prove the row's statement (the work); the ties are given (YtnfiojcfbohafaaDoorTie.lean); close each card by the builder's one call (the guide's Derived/Test/ToyasCard.lean, 'card_holds'). Laid BY PROGRAM, IN A SANDBOX (cutbox-door.mjs). By AI agents, Wed Nov 11 2026. No macro, syntax, notation, axiom, sorry.
-/
import Derived.Test.YtnfiojcfbohafaaDoorRows
import GoSem.ClaimSeven
namespace Go.Proofs.YtnfiojcfbohafaaDoor
namespace Rows

/-- THE TIED CARD OF 'coadjutorlaw18.GenNext'. -/
def genNextCard : Claim7 := { stood := { row := genNextRow, standIns := [], harness := (true, "4f1a91676f63154a3e24f52cdd42ce5a6a7140693667a88ddf267e7409458e82"), looks := false }, kinds := [], alts := [], laidByText := true, laidKinds := [.data, .data], laidTests := true, laidLooks := .later }
def GenNextCardSaid : Prop := Claim7.holds Tryd.pinned (.plain (OpenSpec.ofChange genNextSpec)) genNextCard

/-- THE TIED CARD OF 'coadjutorlaw18.GenBegins'. -/
def genBeginsCard : Claim7 := { stood := { row := genBeginsRow, standIns := [], harness := (true, "4f1a91676f63154a3e24f52cdd42ce5a6a7140693667a88ddf267e7409458e82"), looks := false }, kinds := [], alts := [], laidByText := true, laidKinds := [.data, .data], laidTests := true, laidLooks := .later }
def GenBeginsCardSaid : Prop := Claim7.holds Tryd.pinned (.plain (OpenSpec.ofChange genBeginsSpec)) genBeginsCard

/-- THE TIED CARD OF 'coadjutorlaw18.GenGoes'. -/
def genGoesCard : Claim7 := { stood := { row := genGoesRow, standIns := [], harness := (true, "4f1a91676f63154a3e24f52cdd42ce5a6a7140693667a88ddf267e7409458e82"), looks := false }, kinds := [], alts := [], laidByText := true, laidKinds := [.data, .data], laidTests := true, laidLooks := .later }
def GenGoesCardSaid : Prop := Claim7.holds Tryd.pinned (.plain (OpenSpec.ofChange genGoesSpec)) genGoesCard

/-- THE TIED CARD OF 'coadjutorlaw18.GenBest'. -/
def genBestCard : Claim7 := { stood := { row := genBestRow, standIns := [], harness := (true, "4f1a91676f63154a3e24f52cdd42ce5a6a7140693667a88ddf267e7409458e82"), looks := false }, kinds := [], alts := [], laidByText := true, laidKinds := [.data, .data], laidTests := true, laidLooks := .later }
def GenBestCardSaid : Prop := Claim7.holds Tryd.pinned (.plain (OpenSpec.ofChange genBestSpec)) genBestCard

/-- THE SECOND FORM's CARD OF 'coadjutorlaw18.GenNext'. -/
def genNextUptoCard : Claim7 := { stood := { row := genNextUptoRow, standIns := [], harness := (true, "4f1a91676f63154a3e24f52cdd42ce5a6a7140693667a88ddf267e7409458e82"), looks := false }, kinds := [], alts := [], laidByText := true, laidKinds := [.data, .data], laidTests := true, laidLooks := .later }
def GenNextUptoCardSaid : Prop := Claim7.holds Tryd.pinned (.plain (OpenSpec.upto genNextSpec)) genNextUptoCard

/-- THE SECOND FORM's CARD OF 'coadjutorlaw18.GenBegins'. -/
def genBeginsUptoCard : Claim7 := { stood := { row := genBeginsUptoRow, standIns := [], harness := (true, "4f1a91676f63154a3e24f52cdd42ce5a6a7140693667a88ddf267e7409458e82"), looks := false }, kinds := [], alts := [], laidByText := true, laidKinds := [.data, .data], laidTests := true, laidLooks := .later }
def GenBeginsUptoCardSaid : Prop := Claim7.holds Tryd.pinned (.plain (OpenSpec.upto genBeginsSpec)) genBeginsUptoCard

/-- THE SECOND FORM's CARD OF 'coadjutorlaw18.GenGoes'. -/
def genGoesUptoCard : Claim7 := { stood := { row := genGoesUptoRow, standIns := [], harness := (true, "4f1a91676f63154a3e24f52cdd42ce5a6a7140693667a88ddf267e7409458e82"), looks := false }, kinds := [], alts := [], laidByText := true, laidKinds := [.data, .data], laidTests := true, laidLooks := .later }
def GenGoesUptoCardSaid : Prop := Claim7.holds Tryd.pinned (.plain (OpenSpec.upto genGoesSpec)) genGoesUptoCard

/-- THE SECOND FORM's CARD OF 'coadjutorlaw18.GenBest'. -/
def genBestUptoCard : Claim7 := { stood := { row := genBestUptoRow, standIns := [], harness := (true, "4f1a91676f63154a3e24f52cdd42ce5a6a7140693667a88ddf267e7409458e82"), looks := false }, kinds := [], alts := [], laidByText := true, laidKinds := [.data, .data], laidTests := true, laidLooks := .later }
def GenBestUptoCardSaid : Prop := Claim7.holds Tryd.pinned (.plain (OpenSpec.upto genBestSpec)) genBestUptoCard
end Rows
end Go.Proofs.YtnfiojcfbohafaaDoor
