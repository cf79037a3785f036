/-
  DERIVED. GIVEN WITH THE SEED: THE CARDS: each row of YtlechjpaldpgnaaGreatDoorRows.lean that lists a variable, with what it lists TIED to the program's text (the seventh form; the later family's looks); each row that meets fmt, with fmt's text TOLD by the authors' own Lean function (tested against real Go, not proved from fmt's source: count such statements apart). THE CARD IS WHAT COUNTS. Prove the row's statement (the work); the ties are given (YtlechjpaldpgnaaGreatDoorTie.lean); close each card by the builder's one call (the guide's Derived/Test/ToyasCard.lean, 'card_holds'). Laid BY PROGRAM, IN A SANDBOX (cutbox-door.mjs). By AI agents, Wed Nov 11 2026. No macro, syntax, notation, axiom, sorry.
-/
import Derived.Test.YtlechjpaldpgnaaGreatDoorRows
import GoSem.ClaimSeven
namespace Go.Proofs.YtlechjpaldpgnaaGreatDoor
namespace Rows

/-- THE TIED CARD OF 'coadjutorlaw21.ParcelExact'. -/
def parcelExactCard : Claim7 := { stood := { row := parcelExactRow, standIns := [], harness := (true, "7e7175f00757354c1dd269a5a023164d53e6cda36f05ece69233c3994948c6b8"), looks := false }, kinds := [], alts := [], laidByText := true, laidKinds := [.data, .data], laidTests := true, laidLooks := .later }
def ParcelExactCardSaid : Prop := Claim7.holds Tryz.pinned (.plain (OpenSpec.ofChange parcelExactSpec)) parcelExactCard

/-- THE TIED CARD OF 'coadjutorlaw21.ParcelBuilds'. -/
def parcelBuildsCard : Claim7 := { stood := { row := parcelBuildsRow, standIns := [], harness := (true, "7e7175f00757354c1dd269a5a023164d53e6cda36f05ece69233c3994948c6b8"), looks := false }, kinds := [], alts := [], laidByText := true, laidKinds := [.data, .data], laidTests := true, laidLooks := .later }
def ParcelBuildsCardSaid : Prop := Claim7.holds Tryz.pinned (.plain (OpenSpec.ofChange parcelBuildsSpec)) parcelBuildsCard

/-- THE SECOND FORM's CARD OF 'coadjutorlaw21.ParcelExact'. -/
def parcelExactUptoCard : Claim7 := { stood := { row := parcelExactUptoRow, standIns := [], harness := (true, "7e7175f00757354c1dd269a5a023164d53e6cda36f05ece69233c3994948c6b8"), looks := false }, kinds := [], alts := [], laidByText := true, laidKinds := [.data, .data], laidTests := true, laidLooks := .later }
def ParcelExactUptoCardSaid : Prop := Claim7.holds Tryz.pinned (.plain (OpenSpec.upto parcelExactSpec)) parcelExactUptoCard

/-- THE SECOND FORM's CARD OF 'coadjutorlaw21.ParcelBuilds'. -/
def parcelBuildsUptoCard : Claim7 := { stood := { row := parcelBuildsUptoRow, standIns := [], harness := (true, "7e7175f00757354c1dd269a5a023164d53e6cda36f05ece69233c3994948c6b8"), looks := false }, kinds := [], alts := [], laidByText := true, laidKinds := [.data, .data], laidTests := true, laidLooks := .later }
def ParcelBuildsUptoCardSaid : Prop := Claim7.holds Tryz.pinned (.plain (OpenSpec.upto parcelBuildsSpec)) parcelBuildsUptoCard
end Rows
end Go.Proofs.YtlechjpaldpgnaaGreatDoor
