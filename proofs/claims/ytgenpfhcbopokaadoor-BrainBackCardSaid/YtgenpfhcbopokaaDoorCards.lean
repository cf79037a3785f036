/-
  DERIVED. GIVEN WITH THE SEED: THE CARDS: each row of YtgenpfhcbopokaaDoorRows.lean that lists a variable, with what it lists TIED to the program's text (the seventh form; the later family's looks); each row that meets fmt, with fmt's text TOLD by the authors' own Lean function (tested against real Go, not proved from fmt's source: count such statements apart). THE CARD IS WHAT COUNTS. Prove the row's statement (the work); the ties are given (YtgenpfhcbopokaaDoorTie.lean); close each card by the builder's one call (the guide's Derived/Test/ToyasCard.lean, 'card_holds'). Laid BY PROGRAM, IN A SANDBOX (cutbox-door.mjs). By AI agents, Wed Nov 11 2026. No macro, syntax, notation, axiom, sorry.
-/
import Derived.Test.YtgenpfhcbopokaaDoorRows
import GoSem.ClaimSeven
namespace Go.Proofs.YtgenpfhcbopokaaDoor
namespace Rows

/-- THE TIED CARD OF 'coadjutorlaw16.BrainBack'. -/
def brainBackCard : Claim7 := { stood := { row := brainBackRow, standIns := [], harness := (true, "01d6fea588dc387bd98666081dead49537c82902951f05e5e0de763a59c275f7"), looks := false }, kinds := [], alts := [], laidByText := true, laidKinds := [.data, .data], laidTests := true, laidLooks := .later }
def BrainBackCardSaid : Prop := Claim7.holds Tryd.pinned (.plain (OpenSpec.ofChange brainBackSpec)) brainBackCard

/-- THE SECOND FORM's CARD OF 'coadjutorlaw16.BrainBack'. -/
def brainBackUptoCard : Claim7 := { stood := { row := brainBackUptoRow, standIns := [], harness := (true, "01d6fea588dc387bd98666081dead49537c82902951f05e5e0de763a59c275f7"), looks := false }, kinds := [], alts := [], laidByText := true, laidKinds := [.data, .data], laidTests := true, laidLooks := .later }
def BrainBackUptoCardSaid : Prop := Claim7.holds Tryd.pinned (.plain (OpenSpec.upto brainBackSpec)) brainBackUptoCard
end Rows
end Go.Proofs.YtgenpfhcbopokaaDoor
