/-
  DERIVED. GIVEN WITH THE SEED: THE CARDS: each row of YthmpmpofhpkmjaaDoorRows.lean that lists a variable, with what it lists TIED to the program's text (the seventh form; the later family's looks); each row that meets fmt, with fmt's text TOLD by the authors' own Lean function (tested against real Go, not proved from fmt's source: count such statements apart). THE CARD IS WHAT COUNTS. Prove the row's statement (the work); the ties are given (YthmpmpofhpkmjaaDoorTie.lean); close each card by the builder's one call (the guide's Derived/Test/ToyasCard.lean, 'card_holds'). Laid BY PROGRAM, IN A SANDBOX (cutbox-door.mjs). By AI agents, Wed Nov 11 2026. No macro, syntax, notation, axiom, sorry.
-/
import Derived.Test.YthmpmpofhpkmjaaDoorRows
import GoSem.ClaimSeven
namespace Go.Proofs.YthmpmpofhpkmjaaDoor
namespace Rows

/-- THE TIED CARD OF 'coadjutorlaw02.ShaExact'. -/
def shaExactCard : Claim7 := { stood := { row := shaExactRow, standIns := [], harness := (true, "031e74d391d8ede859cfaa7092114a32175d327ce26c04fea68aa2ac075cbed2"), looks := false }, kinds := [], alts := [], laidByText := true, laidKinds := [.data, .data], laidTests := true, laidLooks := .later }
def ShaExactCardSaid : Prop := Claim7.holds Tryd.pinned (.plain (OpenSpec.ofChange shaExactSpec)) shaExactCard

/-- THE TIED CARD OF 'coadjutorlaw02.ShaTree'. -/
def shaTreeCard : Claim7 := { stood := { row := shaTreeRow, standIns := [], harness := (true, "031e74d391d8ede859cfaa7092114a32175d327ce26c04fea68aa2ac075cbed2"), looks := false }, kinds := [], alts := [], laidByText := true, laidKinds := [.data, .data], laidTests := true, laidLooks := .later }
def ShaTreeCardSaid : Prop := Claim7.holds Tryd.pinned (.plain (OpenSpec.ofChange shaTreeSpec)) shaTreeCard

/-- THE TIED CARD OF 'coadjutorlaw02.ShaText'. -/
def shaTextCard : Claim7 := { stood := { row := shaTextRow, standIns := [], harness := (true, "031e74d391d8ede859cfaa7092114a32175d327ce26c04fea68aa2ac075cbed2"), looks := false }, kinds := [], alts := [], laidByText := true, laidKinds := [.data, .data], laidTests := true, laidLooks := .later }
def ShaTextCardSaid : Prop := Claim7.holds Tryd.pinned (.plain (OpenSpec.ofChange shaTextSpec)) shaTextCard

/-- THE TIED CARD OF 'coadjutorlaw02.ShaParts'. -/
def shaPartsCard : Claim7 := { stood := { row := shaPartsRow, standIns := [], harness := (true, "031e74d391d8ede859cfaa7092114a32175d327ce26c04fea68aa2ac075cbed2"), looks := false }, kinds := [], alts := [], laidByText := true, laidKinds := [.data, .data], laidTests := true, laidLooks := .later }
def ShaPartsCardSaid : Prop := Claim7.holds Tryd.pinned (.plain (OpenSpec.ofChange shaPartsSpec)) shaPartsCard

/-- THE TIED CARD OF 'coadjutorlaw02.ShaTrees'. -/
def shaTreesCard : Claim7 := { stood := { row := shaTreesRow, standIns := [], harness := (true, "031e74d391d8ede859cfaa7092114a32175d327ce26c04fea68aa2ac075cbed2"), looks := false }, kinds := [], alts := [], laidByText := true, laidKinds := [.data, .data], laidTests := true, laidLooks := .later }
def ShaTreesCardSaid : Prop := Claim7.holds Tryd.pinned (.plain (OpenSpec.ofChange shaTreesSpec)) shaTreesCard

/-- THE SECOND FORM's CARD OF 'coadjutorlaw02.ShaExact'. -/
def shaExactUptoCard : Claim7 := { stood := { row := shaExactUptoRow, standIns := [], harness := (true, "031e74d391d8ede859cfaa7092114a32175d327ce26c04fea68aa2ac075cbed2"), looks := false }, kinds := [], alts := [], laidByText := true, laidKinds := [.data, .data], laidTests := true, laidLooks := .later }
def ShaExactUptoCardSaid : Prop := Claim7.holds Tryd.pinned (.plain (OpenSpec.upto shaExactSpec)) shaExactUptoCard

/-- THE SECOND FORM's CARD OF 'coadjutorlaw02.ShaTree'. -/
def shaTreeUptoCard : Claim7 := { stood := { row := shaTreeUptoRow, standIns := [], harness := (true, "031e74d391d8ede859cfaa7092114a32175d327ce26c04fea68aa2ac075cbed2"), looks := false }, kinds := [], alts := [], laidByText := true, laidKinds := [.data, .data], laidTests := true, laidLooks := .later }
def ShaTreeUptoCardSaid : Prop := Claim7.holds Tryd.pinned (.plain (OpenSpec.upto shaTreeSpec)) shaTreeUptoCard

/-- THE SECOND FORM's CARD OF 'coadjutorlaw02.ShaText'. -/
def shaTextUptoCard : Claim7 := { stood := { row := shaTextUptoRow, standIns := [], harness := (true, "031e74d391d8ede859cfaa7092114a32175d327ce26c04fea68aa2ac075cbed2"), looks := false }, kinds := [], alts := [], laidByText := true, laidKinds := [.data, .data], laidTests := true, laidLooks := .later }
def ShaTextUptoCardSaid : Prop := Claim7.holds Tryd.pinned (.plain (OpenSpec.upto shaTextSpec)) shaTextUptoCard

/-- THE SECOND FORM's CARD OF 'coadjutorlaw02.ShaParts'. -/
def shaPartsUptoCard : Claim7 := { stood := { row := shaPartsUptoRow, standIns := [], harness := (true, "031e74d391d8ede859cfaa7092114a32175d327ce26c04fea68aa2ac075cbed2"), looks := false }, kinds := [], alts := [], laidByText := true, laidKinds := [.data, .data], laidTests := true, laidLooks := .later }
def ShaPartsUptoCardSaid : Prop := Claim7.holds Tryd.pinned (.plain (OpenSpec.upto shaPartsSpec)) shaPartsUptoCard

/-- THE SECOND FORM's CARD OF 'coadjutorlaw02.ShaTrees'. -/
def shaTreesUptoCard : Claim7 := { stood := { row := shaTreesUptoRow, standIns := [], harness := (true, "031e74d391d8ede859cfaa7092114a32175d327ce26c04fea68aa2ac075cbed2"), looks := false }, kinds := [], alts := [], laidByText := true, laidKinds := [.data, .data], laidTests := true, laidLooks := .later }
def ShaTreesUptoCardSaid : Prop := Claim7.holds Tryd.pinned (.plain (OpenSpec.upto shaTreesSpec)) shaTreesUptoCard
end Rows
end Go.Proofs.YthmpmpofhpkmjaaDoor
