/-
  DERIVED. GIVEN WITH THE SEED: THE CARDS: each row of YtgdckpldbofgfaaDoorRows.lean that lists a variable, with what it lists TIED to the program's text (the seventh form; the later family's looks); each row that meets fmt, with fmt's text TOLD by the authors' own Lean function (tested against real Go, not proved from fmt's source: count such statements apart). THE CARD IS WHAT COUNTS. Prove the row's statement (the work); the ties are given (YtgdckpldbofgfaaDoorTie.lean); close each card by the builder's one call (the guide's Derived/Test/ToyasCard.lean, 'card_holds'). Laid BY PROGRAM, IN A SANDBOX (cutbox-door.mjs). By AI agents, Wed Nov 11 2026. No macro, syntax, notation, axiom, sorry.
-/
import Derived.Test.YtgdckpldbofgfaaDoorRows
import GoSem.ClaimSeven
namespace Go.Proofs.YtgdckpldbofgfaaDoor
namespace Rows

/-- THE TIED CARD OF 'coadjutorlaw20.ManifestExact'. -/
def manifestExactCard : Claim7 := { stood := { row := manifestExactRow, standIns := [], harness := (true, "169991becf7f5e1a2c7eacb90d3beced62538973316d89f8de9371ea2b30b8d0"), looks := false }, kinds := [], alts := [], laidByText := true, laidKinds := [.data, .data], laidTests := true, laidLooks := .later }
def ManifestExactCardSaid : Prop := Claim7.holds Tryd.pinned (.plain (OpenSpec.ofChange manifestExactSpec)) manifestExactCard

/-- THE TIED CARD OF 'coadjutorlaw20.ManifestParse'. -/
def manifestParseCard : Claim7 := { stood := { row := manifestParseRow, standIns := [], harness := (true, "169991becf7f5e1a2c7eacb90d3beced62538973316d89f8de9371ea2b30b8d0"), looks := false }, kinds := [], alts := [], laidByText := true, laidKinds := [.data, .data], laidTests := true, laidLooks := .later }
def ManifestParseCardSaid : Prop := Claim7.holds Tryd.pinned (.plain (OpenSpec.ofChange manifestParseSpec)) manifestParseCard

/-- THE TIED CARD OF 'coadjutorlaw20.ManifestChunks'. -/
def manifestChunksCard : Claim7 := { stood := { row := manifestChunksRow, standIns := [], harness := (true, "169991becf7f5e1a2c7eacb90d3beced62538973316d89f8de9371ea2b30b8d0"), looks := false }, kinds := [], alts := [], laidByText := true, laidKinds := [.data, .data], laidTests := true, laidLooks := .later }
def ManifestChunksCardSaid : Prop := Claim7.holds Tryd.pinned (.plain (OpenSpec.ofChange manifestChunksSpec)) manifestChunksCard

/-- THE TIED CARD OF 'coadjutorlaw20.ManifestCuts'. -/
def manifestCutsCard : Claim7 := { stood := { row := manifestCutsRow, standIns := [], harness := (true, "169991becf7f5e1a2c7eacb90d3beced62538973316d89f8de9371ea2b30b8d0"), looks := false }, kinds := [], alts := [], laidByText := true, laidKinds := [.data, .data], laidTests := true, laidLooks := .later }
def ManifestCutsCardSaid : Prop := Claim7.holds Tryd.pinned (.plain (OpenSpec.ofChange manifestCutsSpec)) manifestCutsCard

/-- THE SECOND FORM's CARD OF 'coadjutorlaw20.ManifestExact'. -/
def manifestExactUptoCard : Claim7 := { stood := { row := manifestExactUptoRow, standIns := [], harness := (true, "169991becf7f5e1a2c7eacb90d3beced62538973316d89f8de9371ea2b30b8d0"), looks := false }, kinds := [], alts := [], laidByText := true, laidKinds := [.data, .data], laidTests := true, laidLooks := .later }
def ManifestExactUptoCardSaid : Prop := Claim7.holds Tryd.pinned (.plain (OpenSpec.upto manifestExactSpec)) manifestExactUptoCard

/-- THE SECOND FORM's CARD OF 'coadjutorlaw20.ManifestParse'. -/
def manifestParseUptoCard : Claim7 := { stood := { row := manifestParseUptoRow, standIns := [], harness := (true, "169991becf7f5e1a2c7eacb90d3beced62538973316d89f8de9371ea2b30b8d0"), looks := false }, kinds := [], alts := [], laidByText := true, laidKinds := [.data, .data], laidTests := true, laidLooks := .later }
def ManifestParseUptoCardSaid : Prop := Claim7.holds Tryd.pinned (.plain (OpenSpec.upto manifestParseSpec)) manifestParseUptoCard

/-- THE SECOND FORM's CARD OF 'coadjutorlaw20.ManifestChunks'. -/
def manifestChunksUptoCard : Claim7 := { stood := { row := manifestChunksUptoRow, standIns := [], harness := (true, "169991becf7f5e1a2c7eacb90d3beced62538973316d89f8de9371ea2b30b8d0"), looks := false }, kinds := [], alts := [], laidByText := true, laidKinds := [.data, .data], laidTests := true, laidLooks := .later }
def ManifestChunksUptoCardSaid : Prop := Claim7.holds Tryd.pinned (.plain (OpenSpec.upto manifestChunksSpec)) manifestChunksUptoCard

/-- THE SECOND FORM's CARD OF 'coadjutorlaw20.ManifestCuts'. -/
def manifestCutsUptoCard : Claim7 := { stood := { row := manifestCutsUptoRow, standIns := [], harness := (true, "169991becf7f5e1a2c7eacb90d3beced62538973316d89f8de9371ea2b30b8d0"), looks := false }, kinds := [], alts := [], laidByText := true, laidKinds := [.data, .data], laidTests := true, laidLooks := .later }
def ManifestCutsUptoCardSaid : Prop := Claim7.holds Tryd.pinned (.plain (OpenSpec.upto manifestCutsSpec)) manifestCutsUptoCard
end Rows
end Go.Proofs.YtgdckpldbofgfaaDoor
