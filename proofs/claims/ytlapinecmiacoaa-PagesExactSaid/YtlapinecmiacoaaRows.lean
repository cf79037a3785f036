/-
  No cell of these rows narrows 'for every input' (looked for: loops, veiled, ifaces, maps, wideKeys, modest, calm, conditions, laid).
  DERIVED. THE GIVEN ROWS OF THIS SEAT. 3 by the template 'for every input the law returns true; each argument reads behind the call as it read before'; 0 by the template 'total and deterministic' (their statements: YtlapinecmiacoaaTotals.lean).
  GIVEN WITH THE SEED: the statements are not yours to turn. If you find one false, say at which input.
  Laid BY PROGRAM, IN A SANDBOX (cutbox-rows.mjs): the forced cells as the released guide's own fill.sh prints them over the translation 986f4aa08b399823… (all of the seat's roots in one cut). By AI agents, Wed Nov 11 2026. No macro, syntax, notation, axiom, sorry.
-/
import Derived.Test.YtlapinecmiacoaaChecked
import GoSem.Claim
import GoSem.ClaimJoined
import GoSem.ClaimMapViews
import Derived.JoinedTies
import Derived.KernelRfl
namespace Go.Proofs.Ytlapinecmiacoaa
/- THE CELL 'sum', in the pinned program and in every row, IS THE sha256 OF THE DUMP (.gsa) THAT YtlapinecmiacoaaProg.lean LOADS. Nothing in Lean hashes anything: it is a label: what it is worth is what the hold of that sum in a sandbox is worth. -/
noncomputable def Try.pinned : Pinned := { name := "ytlapinecmiacoaa", sum := "986f4aa08b39982326a391bdfaa39b90805b2920efc19b7d0d907273c1d57617", checked := Try.checked }
namespace Rows
def none {H : Type} : Left H := { results := [], args := [] }

/-- 'coadjutorlaw22.PagesExact': WHATEVER THE INPUT: true; the input reads as it did. -/
def pagesExactSpec : ChangeSpec := { name := "pagesExact", fn := fun _ => fun
  | [d1, d2] => { results := [.lit (.bool true)], args := [d1, d2] }
  | _ => none }
def pagesExactRow : OpenClaim := { program := "ytlapinecmiacoaa", sum := "986f4aa08b39982326a391bdfaa39b90805b2920efc19b7d0d907273c1d57617", func := "coadjutor/coadjutorlaw22.PagesExact", spec := "pagesExact", unfollowed := true, recurses := true, apart := false }
def PagesExactSaid : Prop := pagesExactRow.holds Try.pinned (OpenSpec.ofChange pagesExactSpec)

/-- ITS FALSE NEIGHBOUR: 'it returns false'. Refute it at one input. -/
def pagesExactWrong : ChangeSpec := { name := "pagesExact", fn := fun _ => fun
  | [d1, d2] => { results := [.lit (.bool false)], args := [d1, d2] }
  | _ => none }
def PagesExactWrongFalsely : Prop := pagesExactRow.holds Try.pinned (OpenSpec.ofChange pagesExactWrong)

/-- 'coadjutorlaw22.PagesApart': WHATEVER THE INPUT: true; the input reads as it did. -/
def pagesApartSpec : ChangeSpec := { name := "pagesApart", fn := fun _ => fun
  | [d1, d2] => { results := [.lit (.bool true)], args := [d1, d2] }
  | _ => none }
def pagesApartRow : OpenClaim := { program := "ytlapinecmiacoaa", sum := "986f4aa08b39982326a391bdfaa39b90805b2920efc19b7d0d907273c1d57617", func := "coadjutor/coadjutorlaw22.PagesApart", spec := "pagesApart", unfollowed := true, recurses := true, apart := false }
def PagesApartSaid : Prop := pagesApartRow.holds Try.pinned (OpenSpec.ofChange pagesApartSpec)

/-- ITS FALSE NEIGHBOUR: 'it returns false'. Refute it at one input. -/
def pagesApartWrong : ChangeSpec := { name := "pagesApart", fn := fun _ => fun
  | [d1, d2] => { results := [.lit (.bool false)], args := [d1, d2] }
  | _ => none }
def PagesApartWrongFalsely : Prop := pagesApartRow.holds Try.pinned (OpenSpec.ofChange pagesApartWrong)

/-- 'coadjutorlaw22.PagesUsers': WHATEVER THE INPUT: true; the input reads as it did. -/
def pagesUsersSpec : ChangeSpec := { name := "pagesUsers", fn := fun _ => fun
  | [d1, d2] => { results := [.lit (.bool true)], args := [d1, d2] }
  | _ => none }
def pagesUsersRow : OpenClaim := { program := "ytlapinecmiacoaa", sum := "986f4aa08b39982326a391bdfaa39b90805b2920efc19b7d0d907273c1d57617", func := "coadjutor/coadjutorlaw22.PagesUsers", spec := "pagesUsers", unfollowed := true, recurses := true, apart := false }
def PagesUsersSaid : Prop := pagesUsersRow.holds Try.pinned (OpenSpec.ofChange pagesUsersSpec)

/-- ITS FALSE NEIGHBOUR: 'it returns false'. Refute it at one input. -/
def pagesUsersWrong : ChangeSpec := { name := "pagesUsers", fn := fun _ => fun
  | [d1, d2] => { results := [.lit (.bool false)], args := [d1, d2] }
  | _ => none }
def PagesUsersWrongFalsely : Prop := pagesUsersRow.holds Try.pinned (OpenSpec.ofChange pagesUsersWrong)

/- THE SECOND FORM. 'bulk': how many values and letters a reading holds, each counted each time it is reached (what is shared counts as often as it is met; a slice's spare places count too). A statement '..UptoSaid' is the law's where the arguments, and the package variables that the reading takes, are together of bulk at most 1048576: NARROWER than '..Said'. Prove '..Said' where nothing that the law and all that it calls make is longer than what came in: it says more and counts as full. Else prove '..UptoSaid'. A law counts once. -/
mutual
def uptoBulk {H : Type} : DataW H → Nat
  | .lit (.string bytes) => bytes.length + 1
  | .lit _ => 1
  | .nil => 1
  | .ptr d => uptoBulk d + 1
  | .slice elems spare => uptoBulkAll elems + uptoBulkAll spare + 1
  | .agg parts => uptoBulkAll parts + 1
  | .iface _ d => uptoBulk d + 1
  | .map entries => uptoBulkEntries entries + 1
  | .held _ => 1
def uptoBulkAll {H : Type} : List (DataW H) → Nat
  | [] => 0
  | d :: r => uptoBulk d + uptoBulkAll r
def uptoBulkEntries {H : Type} : List (Lit × DataW H) → Nat
  | [] => 0
  | x :: r => uptoBulkEntry x + uptoBulkEntries r
def uptoBulkEntry {H : Type} : Lit × DataW H → Nat
  | (.string bytes, d) => bytes.length + uptoBulk d + 1
  | (_, d) => uptoBulk d + 1
 end
def uptoSmall : (H : Type) → List (DataW H) → Bool := fun _ ds => decide (uptoBulkAll ds ≤ 1048576)
def OpenSpec.upto (s : _root_.Go.ChangeSpec) : _root_.Go.OpenSpec := { _root_.Go.OpenSpec.ofChange s with cond := some uptoSmall }

/-- 'coadjutorlaw22.PagesExact', WHERE WHAT IT READS IS OF BULK AT MOST 1048576: true; the input reads as it did. -/
def pagesExactUptoRow : OpenClaim := { program := "ytlapinecmiacoaa", sum := "986f4aa08b39982326a391bdfaa39b90805b2920efc19b7d0d907273c1d57617", func := "coadjutor/coadjutorlaw22.PagesExact", spec := "pagesExact", unfollowed := true, recurses := true, apart := false, narrowed := true }
def PagesExactUptoSaid : Prop := pagesExactUptoRow.holds Try.pinned (OpenSpec.upto pagesExactSpec)

/-- 'coadjutorlaw22.PagesApart', WHERE WHAT IT READS IS OF BULK AT MOST 1048576: true; the input reads as it did. -/
def pagesApartUptoRow : OpenClaim := { program := "ytlapinecmiacoaa", sum := "986f4aa08b39982326a391bdfaa39b90805b2920efc19b7d0d907273c1d57617", func := "coadjutor/coadjutorlaw22.PagesApart", spec := "pagesApart", unfollowed := true, recurses := true, apart := false, narrowed := true }
def PagesApartUptoSaid : Prop := pagesApartUptoRow.holds Try.pinned (OpenSpec.upto pagesApartSpec)

/-- 'coadjutorlaw22.PagesUsers', WHERE WHAT IT READS IS OF BULK AT MOST 1048576: true; the input reads as it did. -/
def pagesUsersUptoRow : OpenClaim := { program := "ytlapinecmiacoaa", sum := "986f4aa08b39982326a391bdfaa39b90805b2920efc19b7d0d907273c1d57617", func := "coadjutor/coadjutorlaw22.PagesUsers", spec := "pagesUsers", unfollowed := true, recurses := true, apart := false, narrowed := true }
def PagesUsersUptoSaid : Prop := pagesUsersUptoRow.holds Try.pinned (OpenSpec.upto pagesUsersSpec)

end Rows
end Go.Proofs.Ytlapinecmiacoaa
