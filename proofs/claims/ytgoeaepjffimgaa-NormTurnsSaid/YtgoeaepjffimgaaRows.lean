/-
  No cell of these rows narrows 'for every input' (looked for: loops, veiled, ifaces, maps, wideKeys, modest, calm, conditions, laid).
  DERIVED. THE GIVEN ROWS OF THIS SEAT. 3 by the template 'for every input the law returns true; each argument reads behind the call as it read before'; 0 by the template 'total and deterministic' (their statements: YtgoeaepjffimgaaTotals.lean).
  GIVEN WITH THE SEED: the statements are not yours to turn. If you find one false, say at which input.
  Laid BY PROGRAM, IN A SANDBOX (cutbox-rows.mjs): the forced cells as the released guide's own fill.sh prints them over the translation 5f8c61939e721ef8… (all of the seat's roots in one cut). By AI agents, Wed Nov 11 2026. No macro, syntax, notation, axiom, sorry.
-/
import Derived.Test.YtgoeaepjffimgaaChecked
import GoSem.Claim
import GoSem.ClaimJoined
import GoSem.ClaimMapViews
import Derived.JoinedTies
import Derived.KernelRfl
namespace Go.Proofs.Ytgoeaepjffimgaa
/- THE CELL 'sum', in the pinned program and in every row, IS THE sha256 OF THE DUMP (.gsa) THAT YtgoeaepjffimgaaProg.lean LOADS. Nothing in Lean hashes anything: it is a label: what it is worth is what the hold of that sum in a sandbox is worth. -/
noncomputable def Try.pinned : Pinned := { name := "ytgoeaepjffimgaa", sum := "5f8c61939e721ef8b6f151dd2078c6544f5db2926eadf5a7e5e97128091a9564", checked := Try.checked }
namespace Rows
def none {H : Type} : Left H := { results := [], args := [] }

/-- 'coadjutorlaw13.NormExact': WHATEVER THE INPUT: true; the input reads as it did. -/
def normExactSpec : ChangeSpec := { name := "normExact", fn := fun _ => fun
  | [d1, d2] => { results := [.lit (.bool true)], args := [d1, d2] }
  | _ => none }
def normExactRow : OpenClaim := { program := "ytgoeaepjffimgaa", sum := "5f8c61939e721ef8b6f151dd2078c6544f5db2926eadf5a7e5e97128091a9564", func := "coadjutor/coadjutorlaw13.NormExact", spec := "normExact", apart := false }
def NormExactSaid : Prop := normExactRow.holds Try.pinned (OpenSpec.ofChange normExactSpec)

/-- ITS FALSE NEIGHBOUR: 'it returns false'. Refute it at one input. -/
def normExactWrong : ChangeSpec := { name := "normExact", fn := fun _ => fun
  | [d1, d2] => { results := [.lit (.bool false)], args := [d1, d2] }
  | _ => none }
def NormExactWrongFalsely : Prop := normExactRow.holds Try.pinned (OpenSpec.ofChange normExactWrong)

/-- 'coadjutorlaw13.NormTurns': WHATEVER THE INPUT: true; the input reads as it did. -/
def normTurnsSpec : ChangeSpec := { name := "normTurns", fn := fun _ => fun
  | [d1, d2, d3] => { results := [.lit (.bool true)], args := [d1, d2, d3] }
  | _ => none }
def normTurnsRow : OpenClaim := { program := "ytgoeaepjffimgaa", sum := "5f8c61939e721ef8b6f151dd2078c6544f5db2926eadf5a7e5e97128091a9564", func := "coadjutor/coadjutorlaw13.NormTurns", spec := "normTurns", apart := false }
def NormTurnsSaid : Prop := normTurnsRow.holds Try.pinned (OpenSpec.ofChange normTurnsSpec)

/-- ITS FALSE NEIGHBOUR: 'it returns false'. Refute it at one input. -/
def normTurnsWrong : ChangeSpec := { name := "normTurns", fn := fun _ => fun
  | [d1, d2, d3] => { results := [.lit (.bool false)], args := [d1, d2, d3] }
  | _ => none }
def NormTurnsWrongFalsely : Prop := normTurnsRow.holds Try.pinned (OpenSpec.ofChange normTurnsWrong)

/-- 'coadjutorlaw13.NormSize': WHATEVER THE INPUT: true; the input reads as it did. -/
def normSizeSpec : ChangeSpec := { name := "normSize", fn := fun _ => fun
  | [d] => { results := [.lit (.bool true)], args := [d] }
  | _ => none }
def normSizeRow : OpenClaim := { program := "ytgoeaepjffimgaa", sum := "5f8c61939e721ef8b6f151dd2078c6544f5db2926eadf5a7e5e97128091a9564", func := "coadjutor/coadjutorlaw13.NormSize", spec := "normSize", apart := false }
def NormSizeSaid : Prop := normSizeRow.holds Try.pinned (OpenSpec.ofChange normSizeSpec)

/-- ITS FALSE NEIGHBOUR: 'it returns false'. Refute it at one input. -/
def normSizeWrong : ChangeSpec := { name := "normSize", fn := fun _ => fun
  | [d] => { results := [.lit (.bool false)], args := [d] }
  | _ => none }
def NormSizeWrongFalsely : Prop := normSizeRow.holds Try.pinned (OpenSpec.ofChange normSizeWrong)

/- THE SECOND FORM. 'bulk': how many values and letters a reading holds, each counted each time it is reached (what is shared counts as often as it is met; a slice's spare places count too). A statement '..UptoSaid' is the law's where the arguments, and the package variables that the reading takes, are together of bulk at most 1048576: NARROWER than '..Said'. Prove '..Said' where nothing that the law and all that it calls make is longer than what came in: it says more and counts as full. Else prove '..UptoSaid'. A law counts once. -/
mutual
def uptoBulk {H : Type} : DataW H → Nat
  | .lit (.string bytes) => bytes.length + 1
  | .lit _ => 1
  | .nil => 1
  | .ptr d => uptoBulk d + 1
  | .slice elems spare => uptoBulkAll elems + uptoBulkAll spare + 1
  | .agg parts => uptoBulkAll parts + 1
  | .iface _ d => uptoBulk d + 1
  | .map entries => uptoBulkEntries entries + 1
  | .held _ => 1
def uptoBulkAll {H : Type} : List (DataW H) → Nat
  | [] => 0
  | d :: r => uptoBulk d + uptoBulkAll r
def uptoBulkEntries {H : Type} : List (Lit × DataW H) → Nat
  | [] => 0
  | x :: r => uptoBulkEntry x + uptoBulkEntries r
def uptoBulkEntry {H : Type} : Lit × DataW H → Nat
  | (.string bytes, d) => bytes.length + uptoBulk d + 1
  | (_, d) => uptoBulk d + 1
 end
def uptoSmall : (H : Type) → List (DataW H) → Bool := fun _ ds => decide (uptoBulkAll ds ≤ 1048576)
def OpenSpec.upto (s : _root_.Go.ChangeSpec) : _root_.Go.OpenSpec := { _root_.Go.OpenSpec.ofChange s with cond := some uptoSmall }

/-- 'coadjutorlaw13.NormExact', WHERE WHAT IT READS IS OF BULK AT MOST 1048576: true; the input reads as it did. -/
def normExactUptoRow : OpenClaim := { program := "ytgoeaepjffimgaa", sum := "5f8c61939e721ef8b6f151dd2078c6544f5db2926eadf5a7e5e97128091a9564", func := "coadjutor/coadjutorlaw13.NormExact", spec := "normExact", apart := false, narrowed := true }
def NormExactUptoSaid : Prop := normExactUptoRow.holds Try.pinned (OpenSpec.upto normExactSpec)

/-- 'coadjutorlaw13.NormTurns', WHERE WHAT IT READS IS OF BULK AT MOST 1048576: true; the input reads as it did. -/
def normTurnsUptoRow : OpenClaim := { program := "ytgoeaepjffimgaa", sum := "5f8c61939e721ef8b6f151dd2078c6544f5db2926eadf5a7e5e97128091a9564", func := "coadjutor/coadjutorlaw13.NormTurns", spec := "normTurns", apart := false, narrowed := true }
def NormTurnsUptoSaid : Prop := normTurnsUptoRow.holds Try.pinned (OpenSpec.upto normTurnsSpec)

/-- 'coadjutorlaw13.NormSize', WHERE WHAT IT READS IS OF BULK AT MOST 1048576: true; the input reads as it did. -/
def normSizeUptoRow : OpenClaim := { program := "ytgoeaepjffimgaa", sum := "5f8c61939e721ef8b6f151dd2078c6544f5db2926eadf5a7e5e97128091a9564", func := "coadjutor/coadjutorlaw13.NormSize", spec := "normSize", apart := false, narrowed := true }
def NormSizeUptoSaid : Prop := normSizeUptoRow.holds Try.pinned (OpenSpec.upto normSizeSpec)

end Rows
end Go.Proofs.Ytgoeaepjffimgaa
