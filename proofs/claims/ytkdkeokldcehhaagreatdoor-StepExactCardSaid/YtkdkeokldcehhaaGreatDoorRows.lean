/-
  NARROWER THAN 'FOR EVERY INPUT', by the rows' own cells (each row's printed sentence says how): StepExact: laid · GenExact: laid.
  DERIVED. THE GIVEN ROWS OF THIS SEAT. 2 by the template 'for every input the law returns true; each argument reads behind the call as it read before'; 0 by the template 'total and deterministic' (their statements: YtkdkeokldcehhaaGreatDoorTotals.lean).
  GIVEN WITH THE SEED: the statements are not yours to turn. If you find one false, say at which input.
  Laid BY PROGRAM, IN A SANDBOX (cutbox-rows.mjs): the forced cells as the released guide's own fill.sh prints them over the translation 97fb25817471fbe1… (all of the seat's roots in one cut). By AI agents, Wed Nov 11 2026. No macro, syntax, notation, axiom, sorry.
-/
import Derived.Test.YtkdkeokldcehhaaGreatDoorChecked
import GoSem.Claim
import GoSem.ClaimJoined
import GoSem.ClaimMapViews
import Derived.JoinedTies
import Derived.KernelRfl
namespace Go.Proofs.YtkdkeokldcehhaaGreatDoor
/- THE CELL 'sum', in the pinned program and in every row, IS THE sha256 OF THE DUMP (.gsa) THAT YtkdkeokldcehhaaGreatDoorProg.lean LOADS. Nothing in Lean hashes anything: it is a label: what it is worth is what the hold of that sum in a sandbox is worth. -/
noncomputable def Tryz.pinned : Pinned := { name := "ytkdkeokldcehhaagreatdoor", sum := "97fb25817471fbe16c9d8f5e5ade5d08208386d94906aaf1c990086c053c1e93", checked := Tryz.checked }
namespace Rows
def none {H : Type} : Left H := { results := [], args := [] }

/- WHAT THE LISTED PACKAGE-LEVEL VARIABLES READ AS WHEN THE CALL BEGINS. Each datum BY PROGRAM (the guide's laid-datum.mjs) off the statement by which the dump's own 'gosem.cut.vars' lays the variable. In a bare row this is a premise. The card (YtkdkeokldcehhaaGreatDoorCards.lean) ties it to the program's text. -/
def laid_coadjutor_act_table {H : Type} : DataW H := .agg [.lit (.int .i64 5), .lit (.int .i64 8), .lit (.int .i64 12), .lit (.int .i64 19), .lit (.int .i64 31), .lit (.int .i64 47), .lit (.int .i64 69), .lit (.int .i64 97), .lit (.int .i64 128), .lit (.int .i64 159), .lit (.int .i64 187), .lit (.int .i64 209), .lit (.int .i64 225), .lit (.int .i64 237), .lit (.int .i64 244), .lit (.int .i64 248), .lit (.int .i64 251)]
def laid_coadjutor_soft_powers {H : Type} : DataW H := .agg [.lit (.int .i64 65536), .lit (.int .i64 60097), .lit (.int .i64 55109), .lit (.int .i64 50535), .lit (.int .i64 46341), .lit (.int .i64 42495), .lit (.int .i64 38968), .lit (.int .i64 35734)]

/-- 'coadjutorlaw17.StepExact': WHATEVER THE INPUT: true; the input reads as it did. -/
def stepExactSpec : ChangeSpec := { name := "stepExact", fn := fun _ => fun
  | [d1, d2, d3, d4] => { results := [.lit (.bool true)], args := [d1, d2, d3, d4] }
  | _ => none }
def stepExactRow : OpenClaim := { program := "ytkdkeokldcehhaagreatdoor", sum := "97fb25817471fbe16c9d8f5e5ade5d08208386d94906aaf1c990086c053c1e93", func := "coadjutor/coadjutorlaw17.StepExact", spec := "stepExact", unfollowed := true, recurses := true, named := ["coadjutor/soft.powers", "coadjutor/act.table"], apart := false, laid := [("coadjutor/act.table", laid_coadjutor_act_table), ("coadjutor/soft.powers", laid_coadjutor_soft_powers)] }
def StepExactSaid : Prop := stepExactRow.holds Tryz.pinned (OpenSpec.ofChange stepExactSpec)

/-- ITS FALSE NEIGHBOUR: 'it returns false'. Refute it at one input. -/
def stepExactWrong : ChangeSpec := { name := "stepExact", fn := fun _ => fun
  | [d1, d2, d3, d4] => { results := [.lit (.bool false)], args := [d1, d2, d3, d4] }
  | _ => none }
def StepExactWrongFalsely : Prop := stepExactRow.holds Tryz.pinned (OpenSpec.ofChange stepExactWrong)

/-- 'coadjutorlaw18.GenExact': WHATEVER THE INPUT: true; the input reads as it did. -/
def genExactSpec : ChangeSpec := { name := "genExact", fn := fun _ => fun
  | [d1, d2, d3, d4, d5] => { results := [.lit (.bool true)], args := [d1, d2, d3, d4, d5] }
  | _ => none }
def genExactRow : OpenClaim := { program := "ytkdkeokldcehhaagreatdoor", sum := "97fb25817471fbe16c9d8f5e5ade5d08208386d94906aaf1c990086c053c1e93", func := "coadjutor/coadjutorlaw18.GenExact", spec := "genExact", unfollowed := true, recurses := true, named := ["coadjutor/soft.powers", "coadjutor/act.table"], apart := false, laid := [("coadjutor/act.table", laid_coadjutor_act_table), ("coadjutor/soft.powers", laid_coadjutor_soft_powers)] }
def GenExactSaid : Prop := genExactRow.holds Tryz.pinned (OpenSpec.ofChange genExactSpec)

/-- ITS FALSE NEIGHBOUR: 'it returns false'. Refute it at one input. -/
def genExactWrong : ChangeSpec := { name := "genExact", fn := fun _ => fun
  | [d1, d2, d3, d4, d5] => { results := [.lit (.bool false)], args := [d1, d2, d3, d4, d5] }
  | _ => none }
def GenExactWrongFalsely : Prop := genExactRow.holds Tryz.pinned (OpenSpec.ofChange genExactWrong)

/- THE SECOND FORM. 'bulk': how many values and letters a reading holds, each counted each time it is reached (what is shared counts as often as it is met; a slice's spare places count too). A statement '..UptoSaid' is the law's where the arguments, and the package variables that the reading takes, are together of bulk at most 1048576: NARROWER than '..Said'. Prove '..Said' where nothing that the law and all that it calls make is longer than what came in: it says more and counts as full. Else prove '..UptoSaid'. A law counts once. -/
mutual
def uptoBulk {H : Type} : DataW H → Nat
  | .lit (.string bytes) => bytes.length + 1
  | .lit _ => 1
  | .nil => 1
  | .ptr d => uptoBulk d + 1
  | .slice elems spare => uptoBulkAll elems + uptoBulkAll spare + 1
  | .agg parts => uptoBulkAll parts + 1
  | .iface _ d => uptoBulk d + 1
  | .map entries => uptoBulkEntries entries + 1
  | .held _ => 1
def uptoBulkAll {H : Type} : List (DataW H) → Nat
  | [] => 0
  | d :: r => uptoBulk d + uptoBulkAll r
def uptoBulkEntries {H : Type} : List (Lit × DataW H) → Nat
  | [] => 0
  | x :: r => uptoBulkEntry x + uptoBulkEntries r
def uptoBulkEntry {H : Type} : Lit × DataW H → Nat
  | (.string bytes, d) => bytes.length + uptoBulk d + 1
  | (_, d) => uptoBulk d + 1
 end
def uptoSmall : (H : Type) → List (DataW H) → Bool := fun _ ds => decide (uptoBulkAll ds ≤ 1048576)
def OpenSpec.upto (s : _root_.Go.ChangeSpec) : _root_.Go.OpenSpec := { _root_.Go.OpenSpec.ofChange s with cond := some uptoSmall }

/-- 'coadjutorlaw17.StepExact', WHERE WHAT IT READS IS OF BULK AT MOST 1048576: true; the input reads as it did. -/
def stepExactUptoRow : OpenClaim := { program := "ytkdkeokldcehhaagreatdoor", sum := "97fb25817471fbe16c9d8f5e5ade5d08208386d94906aaf1c990086c053c1e93", func := "coadjutor/coadjutorlaw17.StepExact", spec := "stepExact", unfollowed := true, recurses := true, named := ["coadjutor/soft.powers", "coadjutor/act.table"], apart := false, laid := [("coadjutor/act.table", laid_coadjutor_act_table), ("coadjutor/soft.powers", laid_coadjutor_soft_powers)], narrowed := true }
def StepExactUptoSaid : Prop := stepExactUptoRow.holds Tryz.pinned (OpenSpec.upto stepExactSpec)

/-- 'coadjutorlaw18.GenExact', WHERE WHAT IT READS IS OF BULK AT MOST 1048576: true; the input reads as it did. -/
def genExactUptoRow : OpenClaim := { program := "ytkdkeokldcehhaagreatdoor", sum := "97fb25817471fbe16c9d8f5e5ade5d08208386d94906aaf1c990086c053c1e93", func := "coadjutor/coadjutorlaw18.GenExact", spec := "genExact", unfollowed := true, recurses := true, named := ["coadjutor/soft.powers", "coadjutor/act.table"], apart := false, laid := [("coadjutor/act.table", laid_coadjutor_act_table), ("coadjutor/soft.powers", laid_coadjutor_soft_powers)], narrowed := true }
def GenExactUptoSaid : Prop := genExactUptoRow.holds Tryz.pinned (OpenSpec.upto genExactSpec)

end Rows
end Go.Proofs.YtkdkeokldcehhaaGreatDoor
