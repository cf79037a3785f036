/-
  No cell of these rows narrows 'for every input' (looked for: loops, veiled, ifaces, maps, wideKeys, modest, calm, conditions, laid).
  DERIVED. THE GIVEN ROWS OF THIS SEAT. 3 by the template 'for every input the law returns true; each argument reads behind the call as it read before'; 0 by the template 'total and deterministic' (their statements: YtclobdeaocjnoaaTotals.lean).
  GIVEN WITH THE SEED: the statements are not yours to turn. If you find one false, say at which input.
  Laid BY PROGRAM, IN A SANDBOX (cutbox-rows.mjs): the forced cells as the released guide's own fill.sh prints them over the translation 3ad188a3e7d434d5… (all of the seat's roots in one cut). By AI agents, Wed Nov 11 2026. No macro, syntax, notation, axiom, sorry.
-/
import Derived.Test.YtclobdeaocjnoaaChecked
import GoSem.Claim
import GoSem.ClaimJoined
import GoSem.ClaimMapViews
import Derived.JoinedTies
import Derived.KernelRfl
namespace Go.Proofs.Ytclobdeaocjnoaa
/- THE CELL 'sum', in the pinned program and in every row, IS THE sha256 OF THE DUMP (.gsa) THAT YtclobdeaocjnoaaProg.lean LOADS. Nothing in Lean hashes anything: it is a label: what it is worth is what the hold of that sum in a sandbox is worth. -/
noncomputable def Try.pinned : Pinned := { name := "ytclobdeaocjnoaa", sum := "3ad188a3e7d434d5d0d40436d4115d879d173c0902c9f1041742c93883cd571c", checked := Try.checked }
namespace Rows
def none {H : Type} : Left H := { results := [], args := [] }

/-- 'coadjutorlaw11.VecsTables': WHATEVER THE INPUT: true; the input reads as it did. -/
def vecsTablesSpec : ChangeSpec := { name := "vecsTables", fn := fun _ => fun
  | [d1, d2, d3] => { results := [.lit (.bool true)], args := [d1, d2, d3] }
  | _ => none }
def vecsTablesRow : OpenClaim := { program := "ytclobdeaocjnoaa", sum := "3ad188a3e7d434d5d0d40436d4115d879d173c0902c9f1041742c93883cd571c", func := "coadjutor/coadjutorlaw11.VecsTables", spec := "vecsTables", apart := false }
def VecsTablesSaid : Prop := vecsTablesRow.holds Try.pinned (OpenSpec.ofChange vecsTablesSpec)

/-- ITS FALSE NEIGHBOUR: 'it returns false'. Refute it at one input. -/
def vecsTablesWrong : ChangeSpec := { name := "vecsTables", fn := fun _ => fun
  | [d1, d2, d3] => { results := [.lit (.bool false)], args := [d1, d2, d3] }
  | _ => none }
def VecsTablesWrongFalsely : Prop := vecsTablesRow.holds Try.pinned (OpenSpec.ofChange vecsTablesWrong)

/-- 'coadjutorlaw11.VecsExact': WHATEVER THE INPUT: true; the input reads as it did. -/
def vecsExactSpec : ChangeSpec := { name := "vecsExact", fn := fun _ => fun
  | [d1, d2, d3, d4] => { results := [.lit (.bool true)], args := [d1, d2, d3, d4] }
  | _ => none }
def vecsExactRow : OpenClaim := { program := "ytclobdeaocjnoaa", sum := "3ad188a3e7d434d5d0d40436d4115d879d173c0902c9f1041742c93883cd571c", func := "coadjutor/coadjutorlaw11.VecsExact", spec := "vecsExact", apart := false }
def VecsExactSaid : Prop := vecsExactRow.holds Try.pinned (OpenSpec.ofChange vecsExactSpec)

/-- ITS FALSE NEIGHBOUR: 'it returns false'. Refute it at one input. -/
def vecsExactWrong : ChangeSpec := { name := "vecsExact", fn := fun _ => fun
  | [d1, d2, d3, d4] => { results := [.lit (.bool false)], args := [d1, d2, d3, d4] }
  | _ => none }
def VecsExactWrongFalsely : Prop := vecsExactRow.holds Try.pinned (OpenSpec.ofChange vecsExactWrong)

/-- 'coadjutorlaw11.VecsLinear': WHATEVER THE INPUT: true; the input reads as it did. -/
def vecsLinearSpec : ChangeSpec := { name := "vecsLinear", fn := fun _ => fun
  | [d1, d2, d3] => { results := [.lit (.bool true)], args := [d1, d2, d3] }
  | _ => none }
def vecsLinearRow : OpenClaim := { program := "ytclobdeaocjnoaa", sum := "3ad188a3e7d434d5d0d40436d4115d879d173c0902c9f1041742c93883cd571c", func := "coadjutor/coadjutorlaw11.VecsLinear", spec := "vecsLinear", apart := false }
def VecsLinearSaid : Prop := vecsLinearRow.holds Try.pinned (OpenSpec.ofChange vecsLinearSpec)

/-- ITS FALSE NEIGHBOUR: 'it returns false'. Refute it at one input. -/
def vecsLinearWrong : ChangeSpec := { name := "vecsLinear", fn := fun _ => fun
  | [d1, d2, d3] => { results := [.lit (.bool false)], args := [d1, d2, d3] }
  | _ => none }
def VecsLinearWrongFalsely : Prop := vecsLinearRow.holds Try.pinned (OpenSpec.ofChange vecsLinearWrong)

/- THE SECOND FORM. 'bulk': how many values and letters a reading holds, each counted each time it is reached (what is shared counts as often as it is met; a slice's spare places count too). A statement '..UptoSaid' is the law's where the arguments, and the package variables that the reading takes, are together of bulk at most 1048576: NARROWER than '..Said'. Prove '..Said' where nothing that the law and all that it calls make is longer than what came in: it says more and counts as full. Else prove '..UptoSaid'. A law counts once. -/
mutual
def uptoBulk {H : Type} : DataW H → Nat
  | .lit (.string bytes) => bytes.length + 1
  | .lit _ => 1
  | .nil => 1
  | .ptr d => uptoBulk d + 1
  | .slice elems spare => uptoBulkAll elems + uptoBulkAll spare + 1
  | .agg parts => uptoBulkAll parts + 1
  | .iface _ d => uptoBulk d + 1
  | .map entries => uptoBulkEntries entries + 1
  | .held _ => 1
def uptoBulkAll {H : Type} : List (DataW H) → Nat
  | [] => 0
  | d :: r => uptoBulk d + uptoBulkAll r
def uptoBulkEntries {H : Type} : List (Lit × DataW H) → Nat
  | [] => 0
  | x :: r => uptoBulkEntry x + uptoBulkEntries r
def uptoBulkEntry {H : Type} : Lit × DataW H → Nat
  | (.string bytes, d) => bytes.length + uptoBulk d + 1
  | (_, d) => uptoBulk d + 1
 end
def uptoSmall : (H : Type) → List (DataW H) → Bool := fun _ ds => decide (uptoBulkAll ds ≤ 1048576)
def OpenSpec.upto (s : _root_.Go.ChangeSpec) : _root_.Go.OpenSpec := { _root_.Go.OpenSpec.ofChange s with cond := some uptoSmall }

/-- 'coadjutorlaw11.VecsTables', WHERE WHAT IT READS IS OF BULK AT MOST 1048576: true; the input reads as it did. -/
def vecsTablesUptoRow : OpenClaim := { program := "ytclobdeaocjnoaa", sum := "3ad188a3e7d434d5d0d40436d4115d879d173c0902c9f1041742c93883cd571c", func := "coadjutor/coadjutorlaw11.VecsTables", spec := "vecsTables", apart := false, narrowed := true }
def VecsTablesUptoSaid : Prop := vecsTablesUptoRow.holds Try.pinned (OpenSpec.upto vecsTablesSpec)

/-- 'coadjutorlaw11.VecsExact', WHERE WHAT IT READS IS OF BULK AT MOST 1048576: true; the input reads as it did. -/
def vecsExactUptoRow : OpenClaim := { program := "ytclobdeaocjnoaa", sum := "3ad188a3e7d434d5d0d40436d4115d879d173c0902c9f1041742c93883cd571c", func := "coadjutor/coadjutorlaw11.VecsExact", spec := "vecsExact", apart := false, narrowed := true }
def VecsExactUptoSaid : Prop := vecsExactUptoRow.holds Try.pinned (OpenSpec.upto vecsExactSpec)

/-- 'coadjutorlaw11.VecsLinear', WHERE WHAT IT READS IS OF BULK AT MOST 1048576: true; the input reads as it did. -/
def vecsLinearUptoRow : OpenClaim := { program := "ytclobdeaocjnoaa", sum := "3ad188a3e7d434d5d0d40436d4115d879d173c0902c9f1041742c93883cd571c", func := "coadjutor/coadjutorlaw11.VecsLinear", spec := "vecsLinear", apart := false, narrowed := true }
def VecsLinearUptoSaid : Prop := vecsLinearUptoRow.holds Try.pinned (OpenSpec.upto vecsLinearSpec)

end Rows
end Go.Proofs.Ytclobdeaocjnoaa
