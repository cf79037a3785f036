/-
  DERIVED. GIVEN WITH THE SEED: THE CARDS: each row of YtblgabdlpobbjaaDoorRows.lean that lists a variable, with what it lists TIED to the program's text (the seventh form; the later family's looks); each row that meets fmt, with fmt's text TOLD by the authors' own Lean function (tested against real Go, not proved from fmt's source: count such statements apart). THE CARD IS WHAT COUNTS. Prove the row's statement (the work); the ties are given (YtblgabdlpobbjaaDoorTie.lean); close each card by the builder's one call (the guide's Derived/Test/ToyasCard.lean, 'card_holds'). Laid BY PROGRAM, IN A SANDBOX (cutbox-door.mjs). By AI agents, Wed Nov 11 2026. No macro, syntax, notation, axiom, sorry.
-/
import Derived.Test.YtblgabdlpobbjaaDoorRows
import GoSem.ClaimSeven
namespace Go.Proofs.YtblgabdlpobbjaaDoor
namespace Rows

/-- THE TIED CARD OF 'coadjutorlaw07.TwinSaves'. -/
def twinSavesCard : Claim7 := { stood := { row := twinSavesRow, standIns := [], harness := (true, "d25a61589880a4a2ff76672bbe10f76f22e302e0dc887612330e39079fad978e"), looks := false }, kinds := [], alts := [], laidByText := true, laidKinds := [.data, .data], laidTests := true, laidLooks := .later }
def TwinSavesCardSaid : Prop := Claim7.holds Tryd.pinned (.plain (OpenSpec.ofChange twinSavesSpec)) twinSavesCard

/-- THE TIED CARD OF 'coadjutorlaw07.TwinTurns'. -/
def twinTurnsCard : Claim7 := { stood := { row := twinTurnsRow, standIns := [], harness := (true, "d25a61589880a4a2ff76672bbe10f76f22e302e0dc887612330e39079fad978e"), looks := false }, kinds := [], alts := [], laidByText := true, laidKinds := [.data, .data], laidTests := true, laidLooks := .later }
def TwinTurnsCardSaid : Prop := Claim7.holds Tryd.pinned (.plain (OpenSpec.ofChange twinTurnsSpec)) twinTurnsCard

/-- THE SECOND FORM's CARD OF 'coadjutorlaw07.TwinSaves'. -/
def twinSavesUptoCard : Claim7 := { stood := { row := twinSavesUptoRow, standIns := [], harness := (true, "d25a61589880a4a2ff76672bbe10f76f22e302e0dc887612330e39079fad978e"), looks := false }, kinds := [], alts := [], laidByText := true, laidKinds := [.data, .data], laidTests := true, laidLooks := .later }
def TwinSavesUptoCardSaid : Prop := Claim7.holds Tryd.pinned (.plain (OpenSpec.upto twinSavesSpec)) twinSavesUptoCard

/-- THE SECOND FORM's CARD OF 'coadjutorlaw07.TwinTurns'. -/
def twinTurnsUptoCard : Claim7 := { stood := { row := twinTurnsUptoRow, standIns := [], harness := (true, "d25a61589880a4a2ff76672bbe10f76f22e302e0dc887612330e39079fad978e"), looks := false }, kinds := [], alts := [], laidByText := true, laidKinds := [.data, .data], laidTests := true, laidLooks := .later }
def TwinTurnsUptoCardSaid : Prop := Claim7.holds Tryd.pinned (.plain (OpenSpec.upto twinTurnsSpec)) twinTurnsUptoCard
end Rows
end Go.Proofs.YtblgabdlpobbjaaDoor
