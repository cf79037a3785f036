/-
  DERIVED. GIVEN WITH THE SEED: THE CARDS: each row of YtfpdlcblaodflaaDoorRows.lean that lists a variable, with what it lists TIED to the program's text (the seventh form; the later family's looks); each row that meets fmt, with fmt's text TOLD by the authors' own Lean function (tested against real Go, not proved from fmt's source: count such statements apart). THE CARD IS WHAT COUNTS. Prove the row's statement (the work); the ties are given (YtfpdlcblaodflaaDoorTie.lean); close each card by the builder's one call (the guide's Derived/Test/ToyasCard.lean, 'card_holds'). Laid BY PROGRAM, IN A SANDBOX (cutbox-door.mjs). By AI agents, Wed Nov 11 2026. No macro, syntax, notation, axiom, sorry.
-/
import Derived.Test.YtfpdlcblaodflaaDoorRows
import GoSem.ClaimSeven
namespace Go.Proofs.YtfpdlcblaodflaaDoor
namespace Rows

/-- THE TIED CARD OF 'coadjutorlaw14.ActExact'. -/
def actExactCard : Claim7 := { stood := { row := actExactRow, standIns := [], harness := (true, "fc5d2f9fbba04187a11bb698ec986d6fed02806bc9e2fcafbd9969b3048e6c5d"), looks := false }, kinds := [], alts := [], laidByText := true, laidKinds := [.data], laidTests := true, laidLooks := .later }
def ActExactCardSaid : Prop := Claim7.holds Tryd.pinned (.plain (OpenSpec.ofChange actExactSpec)) actExactCard

/-- THE TIED CARD OF 'coadjutorlaw14.ActOpens'. -/
def actOpensCard : Claim7 := { stood := { row := actOpensRow, standIns := [], harness := (true, "fc5d2f9fbba04187a11bb698ec986d6fed02806bc9e2fcafbd9969b3048e6c5d"), looks := false }, kinds := [], alts := [], laidByText := true, laidKinds := [.data], laidTests := true, laidLooks := .later }
def ActOpensCardSaid : Prop := Claim7.holds Tryd.pinned (.plain (OpenSpec.ofChange actOpensSpec)) actOpensCard

/-- THE TIED CARD OF 'coadjutorlaw14.ActAll'. -/
def actAllCard : Claim7 := { stood := { row := actAllRow, standIns := [], harness := (true, "fc5d2f9fbba04187a11bb698ec986d6fed02806bc9e2fcafbd9969b3048e6c5d"), looks := false }, kinds := [], alts := [], laidByText := true, laidKinds := [.data], laidTests := true, laidLooks := .later }
def ActAllCardSaid : Prop := Claim7.holds Tryd.pinned (.plain (OpenSpec.ofChange actAllSpec)) actAllCard

/-- THE SECOND FORM's CARD OF 'coadjutorlaw14.ActExact'. -/
def actExactUptoCard : Claim7 := { stood := { row := actExactUptoRow, standIns := [], harness := (true, "fc5d2f9fbba04187a11bb698ec986d6fed02806bc9e2fcafbd9969b3048e6c5d"), looks := false }, kinds := [], alts := [], laidByText := true, laidKinds := [.data], laidTests := true, laidLooks := .later }
def ActExactUptoCardSaid : Prop := Claim7.holds Tryd.pinned (.plain (OpenSpec.upto actExactSpec)) actExactUptoCard

/-- THE SECOND FORM's CARD OF 'coadjutorlaw14.ActOpens'. -/
def actOpensUptoCard : Claim7 := { stood := { row := actOpensUptoRow, standIns := [], harness := (true, "fc5d2f9fbba04187a11bb698ec986d6fed02806bc9e2fcafbd9969b3048e6c5d"), looks := false }, kinds := [], alts := [], laidByText := true, laidKinds := [.data], laidTests := true, laidLooks := .later }
def ActOpensUptoCardSaid : Prop := Claim7.holds Tryd.pinned (.plain (OpenSpec.upto actOpensSpec)) actOpensUptoCard

/-- THE SECOND FORM's CARD OF 'coadjutorlaw14.ActAll'. -/
def actAllUptoCard : Claim7 := { stood := { row := actAllUptoRow, standIns := [], harness := (true, "fc5d2f9fbba04187a11bb698ec986d6fed02806bc9e2fcafbd9969b3048e6c5d"), looks := false }, kinds := [], alts := [], laidByText := true, laidKinds := [.data], laidTests := true, laidLooks := .later }
def ActAllUptoCardSaid : Prop := Claim7.holds Tryd.pinned (.plain (OpenSpec.upto actAllSpec)) actAllUptoCard
end Rows
end Go.Proofs.YtfpdlcblaodflaaDoor
