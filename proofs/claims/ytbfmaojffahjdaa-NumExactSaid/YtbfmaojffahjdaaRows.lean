/-
  No cell of these rows narrows 'for every input' (looked for: loops, veiled, ifaces, maps, wideKeys, modest, calm, conditions, laid).
  DERIVED. THE GIVEN ROWS OF THIS SEAT. 4 by the template 'for every input the law returns true; each argument reads behind the call as it read before'; 0 by the template 'total and deterministic' (their statements: YtbfmaojffahjdaaTotals.lean).
  GIVEN WITH THE SEED: the statements are not yours to turn. If you find one false, say at which input.
  Laid BY PROGRAM, IN A SANDBOX (cutbox-rows.mjs): the forced cells as the released guide's own fill.sh prints them over the translation a53fbb959e9a9c9e… (all of the seat's roots in one cut). By AI agents, Wed Nov 11 2026. No macro, syntax, notation, axiom, sorry.
-/
import Derived.Test.YtbfmaojffahjdaaChecked
import GoSem.Claim
import GoSem.ClaimJoined
import GoSem.ClaimMapViews
import Derived.JoinedTies
import Derived.KernelRfl
namespace Go.Proofs.Ytbfmaojffahjdaa
/- THE CELL 'sum', in the pinned program and in every row, IS THE sha256 OF THE DUMP (.gsa) THAT YtbfmaojffahjdaaProg.lean LOADS. Nothing in Lean hashes anything: it is a label: what it is worth is what the hold of that sum in a sandbox is worth. -/
noncomputable def Try.pinned : Pinned := { name := "ytbfmaojffahjdaa", sum := "a53fbb959e9a9c9e128d10fbf324ba2145a2b0affd1dd839eb34ba410626d755", checked := Try.checked }
namespace Rows
def none {H : Type} : Left H := { results := [], args := [] }

/-- 'coadjutorlaw01.NumExact': WHATEVER THE INPUT: true; the input reads as it did. -/
def numExactSpec : ChangeSpec := { name := "numExact", fn := fun _ => fun
  | [d1, d2, d3, d4] => { results := [.lit (.bool true)], args := [d1, d2, d3, d4] }
  | _ => none }
def numExactRow : OpenClaim := { program := "ytbfmaojffahjdaa", sum := "a53fbb959e9a9c9e128d10fbf324ba2145a2b0affd1dd839eb34ba410626d755", func := "coadjutor/coadjutorlaw01.NumExact", spec := "numExact", apart := false }
def NumExactSaid : Prop := numExactRow.holds Try.pinned (OpenSpec.ofChange numExactSpec)

/-- ITS FALSE NEIGHBOUR: 'it returns false'. Refute it at one input. -/
def numExactWrong : ChangeSpec := { name := "numExact", fn := fun _ => fun
  | [d1, d2, d3, d4] => { results := [.lit (.bool false)], args := [d1, d2, d3, d4] }
  | _ => none }
def NumExactWrongFalsely : Prop := numExactRow.holds Try.pinned (OpenSpec.ofChange numExactWrong)

/-- 'coadjutorlaw01.NumShift': WHATEVER THE INPUT: true; the input reads as it did. -/
def numShiftSpec : ChangeSpec := { name := "numShift", fn := fun _ => fun
  | [d1, d2] => { results := [.lit (.bool true)], args := [d1, d2] }
  | _ => none }
def numShiftRow : OpenClaim := { program := "ytbfmaojffahjdaa", sum := "a53fbb959e9a9c9e128d10fbf324ba2145a2b0affd1dd839eb34ba410626d755", func := "coadjutor/coadjutorlaw01.NumShift", spec := "numShift", apart := false }
def NumShiftSaid : Prop := numShiftRow.holds Try.pinned (OpenSpec.ofChange numShiftSpec)

/-- ITS FALSE NEIGHBOUR: 'it returns false'. Refute it at one input. -/
def numShiftWrong : ChangeSpec := { name := "numShift", fn := fun _ => fun
  | [d1, d2] => { results := [.lit (.bool false)], args := [d1, d2] }
  | _ => none }
def NumShiftWrongFalsely : Prop := numShiftRow.holds Try.pinned (OpenSpec.ofChange numShiftWrong)

/-- 'coadjutorlaw01.NumRoot': WHATEVER THE INPUT: true; the input reads as it did. -/
def numRootSpec : ChangeSpec := { name := "numRoot", fn := fun _ => fun
  | [d1, d2] => { results := [.lit (.bool true)], args := [d1, d2] }
  | _ => none }
def numRootRow : OpenClaim := { program := "ytbfmaojffahjdaa", sum := "a53fbb959e9a9c9e128d10fbf324ba2145a2b0affd1dd839eb34ba410626d755", func := "coadjutor/coadjutorlaw01.NumRoot", spec := "numRoot", apart := false }
def NumRootSaid : Prop := numRootRow.holds Try.pinned (OpenSpec.ofChange numRootSpec)

/-- ITS FALSE NEIGHBOUR: 'it returns false'. Refute it at one input. -/
def numRootWrong : ChangeSpec := { name := "numRoot", fn := fun _ => fun
  | [d1, d2] => { results := [.lit (.bool false)], args := [d1, d2] }
  | _ => none }
def NumRootWrongFalsely : Prop := numRootRow.holds Try.pinned (OpenSpec.ofChange numRootWrong)

/-- 'coadjutorlaw01.NumDiv': WHATEVER THE INPUT: true; the input reads as it did. -/
def numDivSpec : ChangeSpec := { name := "numDiv", fn := fun _ => fun
  | [d1, d2] => { results := [.lit (.bool true)], args := [d1, d2] }
  | _ => none }
def numDivRow : OpenClaim := { program := "ytbfmaojffahjdaa", sum := "a53fbb959e9a9c9e128d10fbf324ba2145a2b0affd1dd839eb34ba410626d755", func := "coadjutor/coadjutorlaw01.NumDiv", spec := "numDiv", apart := false }
def NumDivSaid : Prop := numDivRow.holds Try.pinned (OpenSpec.ofChange numDivSpec)

/-- ITS FALSE NEIGHBOUR: 'it returns false'. Refute it at one input. -/
def numDivWrong : ChangeSpec := { name := "numDiv", fn := fun _ => fun
  | [d1, d2] => { results := [.lit (.bool false)], args := [d1, d2] }
  | _ => none }
def NumDivWrongFalsely : Prop := numDivRow.holds Try.pinned (OpenSpec.ofChange numDivWrong)

/- THE SECOND FORM. 'bulk': how many values and letters a reading holds, each counted each time it is reached (what is shared counts as often as it is met; a slice's spare places count too). A statement '..UptoSaid' is the law's where the arguments, and the package variables that the reading takes, are together of bulk at most 1048576: NARROWER than '..Said'. Prove '..Said' where nothing that the law and all that it calls make is longer than what came in: it says more and counts as full. Else prove '..UptoSaid'. A law counts once. -/
mutual
def uptoBulk {H : Type} : DataW H → Nat
  | .lit (.string bytes) => bytes.length + 1
  | .lit _ => 1
  | .nil => 1
  | .ptr d => uptoBulk d + 1
  | .slice elems spare => uptoBulkAll elems + uptoBulkAll spare + 1
  | .agg parts => uptoBulkAll parts + 1
  | .iface _ d => uptoBulk d + 1
  | .map entries => uptoBulkEntries entries + 1
  | .held _ => 1
def uptoBulkAll {H : Type} : List (DataW H) → Nat
  | [] => 0
  | d :: r => uptoBulk d + uptoBulkAll r
def uptoBulkEntries {H : Type} : List (Lit × DataW H) → Nat
  | [] => 0
  | x :: r => uptoBulkEntry x + uptoBulkEntries r
def uptoBulkEntry {H : Type} : Lit × DataW H → Nat
  | (.string bytes, d) => bytes.length + uptoBulk d + 1
  | (_, d) => uptoBulk d + 1
 end
def uptoSmall : (H : Type) → List (DataW H) → Bool := fun _ ds => decide (uptoBulkAll ds ≤ 1048576)
def OpenSpec.upto (s : _root_.Go.ChangeSpec) : _root_.Go.OpenSpec := { _root_.Go.OpenSpec.ofChange s with cond := some uptoSmall }

/-- 'coadjutorlaw01.NumExact', WHERE WHAT IT READS IS OF BULK AT MOST 1048576: true; the input reads as it did. -/
def numExactUptoRow : OpenClaim := { program := "ytbfmaojffahjdaa", sum := "a53fbb959e9a9c9e128d10fbf324ba2145a2b0affd1dd839eb34ba410626d755", func := "coadjutor/coadjutorlaw01.NumExact", spec := "numExact", apart := false, narrowed := true }
def NumExactUptoSaid : Prop := numExactUptoRow.holds Try.pinned (OpenSpec.upto numExactSpec)

/-- 'coadjutorlaw01.NumShift', WHERE WHAT IT READS IS OF BULK AT MOST 1048576: true; the input reads as it did. -/
def numShiftUptoRow : OpenClaim := { program := "ytbfmaojffahjdaa", sum := "a53fbb959e9a9c9e128d10fbf324ba2145a2b0affd1dd839eb34ba410626d755", func := "coadjutor/coadjutorlaw01.NumShift", spec := "numShift", apart := false, narrowed := true }
def NumShiftUptoSaid : Prop := numShiftUptoRow.holds Try.pinned (OpenSpec.upto numShiftSpec)

/-- 'coadjutorlaw01.NumRoot', WHERE WHAT IT READS IS OF BULK AT MOST 1048576: true; the input reads as it did. -/
def numRootUptoRow : OpenClaim := { program := "ytbfmaojffahjdaa", sum := "a53fbb959e9a9c9e128d10fbf324ba2145a2b0affd1dd839eb34ba410626d755", func := "coadjutor/coadjutorlaw01.NumRoot", spec := "numRoot", apart := false, narrowed := true }
def NumRootUptoSaid : Prop := numRootUptoRow.holds Try.pinned (OpenSpec.upto numRootSpec)

/-- 'coadjutorlaw01.NumDiv', WHERE WHAT IT READS IS OF BULK AT MOST 1048576: true; the input reads as it did. -/
def numDivUptoRow : OpenClaim := { program := "ytbfmaojffahjdaa", sum := "a53fbb959e9a9c9e128d10fbf324ba2145a2b0affd1dd839eb34ba410626d755", func := "coadjutor/coadjutorlaw01.NumDiv", spec := "numDiv", apart := false, narrowed := true }
def NumDivUptoSaid : Prop := numDivUptoRow.holds Try.pinned (OpenSpec.upto numDivSpec)

end Rows
end Go.Proofs.Ytbfmaojffahjdaa
