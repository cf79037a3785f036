/-
  DERIVED. GIVEN WITH THE SEED: THE CARDS: each row of YtegehfdjchmgcaaDoorRows.lean that lists a variable, with what it lists TIED to the program's text (the seventh form; the later family's looks); each row that meets fmt, with fmt's text TOLD by the authors' own Lean function (tested against real Go, not proved from fmt's source: count such statements apart). THE CARD IS WHAT COUNTS. Prove the row's statement (the work); the ties are given (YtegehfdjchmgcaaDoorTie.lean); close each card by the builder's one call (the guide's Derived/Test/ToyasCard.lean, 'card_holds'). Laid BY PROGRAM, IN A SANDBOX (cutbox-door.mjs). By AI agents, Wed Nov 11 2026. No macro, syntax, notation, axiom, sorry.
-/
import Derived.Test.YtegehfdjchmgcaaDoorRows
import GoSem.ClaimSeven
namespace Go.Proofs.YtegehfdjchmgcaaDoor
namespace Rows

/-- THE TIED CARD OF 'coadjutorlaw06.SealExact'. -/
def sealExactCard : Claim7 := { stood := { row := sealExactRow, standIns := [], harness := (true, "99a05bada6fbba8b207cb0706696eab1bd096d1be323eda6d4d544488661970e"), looks := false }, kinds := [], alts := [], laidByText := true, laidKinds := [.data, .data], laidTests := true, laidLooks := .later }
def SealExactCardSaid : Prop := Claim7.holds Tryd.pinned (.plain (OpenSpec.ofChange sealExactSpec)) sealExactCard

/-- THE TIED CARD OF 'coadjutorlaw06.SealWhole'. -/
def sealWholeCard : Claim7 := { stood := { row := sealWholeRow, standIns := [], harness := (true, "99a05bada6fbba8b207cb0706696eab1bd096d1be323eda6d4d544488661970e"), looks := false }, kinds := [], alts := [], laidByText := true, laidKinds := [.data, .data], laidTests := true, laidLooks := .later }
def SealWholeCardSaid : Prop := Claim7.holds Tryd.pinned (.plain (OpenSpec.ofChange sealWholeSpec)) sealWholeCard

/-- THE SECOND FORM's CARD OF 'coadjutorlaw06.SealExact'. -/
def sealExactUptoCard : Claim7 := { stood := { row := sealExactUptoRow, standIns := [], harness := (true, "99a05bada6fbba8b207cb0706696eab1bd096d1be323eda6d4d544488661970e"), looks := false }, kinds := [], alts := [], laidByText := true, laidKinds := [.data, .data], laidTests := true, laidLooks := .later }
def SealExactUptoCardSaid : Prop := Claim7.holds Tryd.pinned (.plain (OpenSpec.upto sealExactSpec)) sealExactUptoCard

/-- THE SECOND FORM's CARD OF 'coadjutorlaw06.SealWhole'. -/
def sealWholeUptoCard : Claim7 := { stood := { row := sealWholeUptoRow, standIns := [], harness := (true, "99a05bada6fbba8b207cb0706696eab1bd096d1be323eda6d4d544488661970e"), looks := false }, kinds := [], alts := [], laidByText := true, laidKinds := [.data, .data], laidTests := true, laidLooks := .later }
def SealWholeUptoCardSaid : Prop := Claim7.holds Tryd.pinned (.plain (OpenSpec.upto sealWholeSpec)) sealWholeUptoCard
end Rows
end Go.Proofs.YtegehfdjchmgcaaDoor
