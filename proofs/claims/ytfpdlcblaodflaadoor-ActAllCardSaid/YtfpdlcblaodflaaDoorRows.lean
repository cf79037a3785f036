/-
  NARROWER THAN 'FOR EVERY INPUT', by the rows' own cells (each row's printed sentence says how): ActExact: laid · ActOpens: laid · ActAll: laid.
  DERIVED. THE GIVEN ROWS OF THIS SEAT. 3 by the template 'for every input the law returns true; each argument reads behind the call as it read before'; 0 by the template 'total and deterministic' (their statements: YtfpdlcblaodflaaDoorTotals.lean).
  GIVEN WITH THE SEED: the statements are not yours to turn. If you find one false, say at which input.
  Laid BY PROGRAM, IN A SANDBOX (cutbox-rows.mjs): the forced cells as the released guide's own fill.sh prints them over the translation 609fc48b997d61da… (all of the seat's roots in one cut). By AI agents, Wed Nov 11 2026. No macro, syntax, notation, axiom, sorry.
-/
import Derived.Test.YtfpdlcblaodflaaDoorChecked
import GoSem.Claim
import GoSem.ClaimJoined
import GoSem.ClaimMapViews
import Derived.JoinedTies
import Derived.KernelRfl
namespace Go.Proofs.YtfpdlcblaodflaaDoor
/- THE CELL 'sum', in the pinned program and in every row, IS THE sha256 OF THE DUMP (.gsa) THAT YtfpdlcblaodflaaDoorProg.lean LOADS. Nothing in Lean hashes anything: it is a label: what it is worth is what the hold of that sum in a sandbox is worth. -/
noncomputable def Tryd.pinned : Pinned := { name := "ytfpdlcblaodflaadoor", sum := "609fc48b997d61da19d832c40337a86d7889c0a9a9deff3b3c7ff72d5e63d7ba", checked := Tryd.checked }
namespace Rows
def none {H : Type} : Left H := { results := [], args := [] }

/- WHAT THE LISTED PACKAGE-LEVEL VARIABLES READ AS WHEN THE CALL BEGINS. Each datum BY PROGRAM (the guide's laid-datum.mjs) off the statement by which the dump's own 'gosem.cut.vars' lays the variable. In a bare row this is a premise. The card (YtfpdlcblaodflaaDoorCards.lean) ties it to the program's text. -/
def laid_coadjutor_act_table {H : Type} : DataW H := .agg [.lit (.int .i64 5), .lit (.int .i64 8), .lit (.int .i64 12), .lit (.int .i64 19), .lit (.int .i64 31), .lit (.int .i64 47), .lit (.int .i64 69), .lit (.int .i64 97), .lit (.int .i64 128), .lit (.int .i64 159), .lit (.int .i64 187), .lit (.int .i64 209), .lit (.int .i64 225), .lit (.int .i64 237), .lit (.int .i64 244), .lit (.int .i64 248), .lit (.int .i64 251)]

/-- 'coadjutorlaw14.ActExact': WHATEVER THE INPUT: true; the input reads as it did. -/
def actExactSpec : ChangeSpec := { name := "actExact", fn := fun _ => fun
  | [d1, d2] => { results := [.lit (.bool true)], args := [d1, d2] }
  | _ => none }
def actExactRow : OpenClaim := { program := "ytfpdlcblaodflaadoor", sum := "609fc48b997d61da19d832c40337a86d7889c0a9a9deff3b3c7ff72d5e63d7ba", func := "coadjutor/coadjutorlaw14.ActExact", spec := "actExact", named := ["coadjutor/act.table"], apart := false, laid := [("coadjutor/act.table", laid_coadjutor_act_table)] }
def ActExactSaid : Prop := actExactRow.holds Tryd.pinned (OpenSpec.ofChange actExactSpec)

/-- ITS FALSE NEIGHBOUR: 'it returns false'. Refute it at one input. -/
def actExactWrong : ChangeSpec := { name := "actExact", fn := fun _ => fun
  | [d1, d2] => { results := [.lit (.bool false)], args := [d1, d2] }
  | _ => none }
def ActExactWrongFalsely : Prop := actExactRow.holds Tryd.pinned (OpenSpec.ofChange actExactWrong)

/-- 'coadjutorlaw14.ActOpens': WHATEVER THE INPUT: true; the input reads as it did. -/
def actOpensSpec : ChangeSpec := { name := "actOpens", fn := fun _ => fun
  | [d1, d2] => { results := [.lit (.bool true)], args := [d1, d2] }
  | _ => none }
def actOpensRow : OpenClaim := { program := "ytfpdlcblaodflaadoor", sum := "609fc48b997d61da19d832c40337a86d7889c0a9a9deff3b3c7ff72d5e63d7ba", func := "coadjutor/coadjutorlaw14.ActOpens", spec := "actOpens", named := ["coadjutor/act.table"], apart := false, laid := [("coadjutor/act.table", laid_coadjutor_act_table)] }
def ActOpensSaid : Prop := actOpensRow.holds Tryd.pinned (OpenSpec.ofChange actOpensSpec)

/-- ITS FALSE NEIGHBOUR: 'it returns false'. Refute it at one input. -/
def actOpensWrong : ChangeSpec := { name := "actOpens", fn := fun _ => fun
  | [d1, d2] => { results := [.lit (.bool false)], args := [d1, d2] }
  | _ => none }
def ActOpensWrongFalsely : Prop := actOpensRow.holds Tryd.pinned (OpenSpec.ofChange actOpensWrong)

/-- 'coadjutorlaw14.ActAll': WHATEVER THE INPUT: true; the input reads as it did. -/
def actAllSpec : ChangeSpec := { name := "actAll", fn := fun _ => fun
  | [d1, d2] => { results := [.lit (.bool true)], args := [d1, d2] }
  | _ => none }
def actAllRow : OpenClaim := { program := "ytfpdlcblaodflaadoor", sum := "609fc48b997d61da19d832c40337a86d7889c0a9a9deff3b3c7ff72d5e63d7ba", func := "coadjutor/coadjutorlaw14.ActAll", spec := "actAll", named := ["coadjutor/act.table"], apart := false, laid := [("coadjutor/act.table", laid_coadjutor_act_table)] }
def ActAllSaid : Prop := actAllRow.holds Tryd.pinned (OpenSpec.ofChange actAllSpec)

/-- ITS FALSE NEIGHBOUR: 'it returns false'. Refute it at one input. -/
def actAllWrong : ChangeSpec := { name := "actAll", fn := fun _ => fun
  | [d1, d2] => { results := [.lit (.bool false)], args := [d1, d2] }
  | _ => none }
def ActAllWrongFalsely : Prop := actAllRow.holds Tryd.pinned (OpenSpec.ofChange actAllWrong)

/- THE SECOND FORM. 'bulk': how many values and letters a reading holds, each counted each time it is reached (what is shared counts as often as it is met; a slice's spare places count too). A statement '..UptoSaid' is the law's where the arguments, and the package variables that the reading takes, are together of bulk at most 1048576: NARROWER than '..Said'. Prove '..Said' where nothing that the law and all that it calls make is longer than what came in: it says more and counts as full. Else prove '..UptoSaid'. A law counts once. -/
mutual
def uptoBulk {H : Type} : DataW H → Nat
  | .lit (.string bytes) => bytes.length + 1
  | .lit _ => 1
  | .nil => 1
  | .ptr d => uptoBulk d + 1
  | .slice elems spare => uptoBulkAll elems + uptoBulkAll spare + 1
  | .agg parts => uptoBulkAll parts + 1
  | .iface _ d => uptoBulk d + 1
  | .map entries => uptoBulkEntries entries + 1
  | .held _ => 1
def uptoBulkAll {H : Type} : List (DataW H) → Nat
  | [] => 0
  | d :: r => uptoBulk d + uptoBulkAll r
def uptoBulkEntries {H : Type} : List (Lit × DataW H) → Nat
  | [] => 0
  | x :: r => uptoBulkEntry x + uptoBulkEntries r
def uptoBulkEntry {H : Type} : Lit × DataW H → Nat
  | (.string bytes, d) => bytes.length + uptoBulk d + 1
  | (_, d) => uptoBulk d + 1
 end
def uptoSmall : (H : Type) → List (DataW H) → Bool := fun _ ds => decide (uptoBulkAll ds ≤ 1048576)
def OpenSpec.upto (s : _root_.Go.ChangeSpec) : _root_.Go.OpenSpec := { _root_.Go.OpenSpec.ofChange s with cond := some uptoSmall }

/-- 'coadjutorlaw14.ActExact', WHERE WHAT IT READS IS OF BULK AT MOST 1048576: true; the input reads as it did. -/
def actExactUptoRow : OpenClaim := { program := "ytfpdlcblaodflaadoor", sum := "609fc48b997d61da19d832c40337a86d7889c0a9a9deff3b3c7ff72d5e63d7ba", func := "coadjutor/coadjutorlaw14.ActExact", spec := "actExact", named := ["coadjutor/act.table"], apart := false, laid := [("coadjutor/act.table", laid_coadjutor_act_table)], narrowed := true }
def ActExactUptoSaid : Prop := actExactUptoRow.holds Tryd.pinned (OpenSpec.upto actExactSpec)

/-- 'coadjutorlaw14.ActOpens', WHERE WHAT IT READS IS OF BULK AT MOST 1048576: true; the input reads as it did. -/
def actOpensUptoRow : OpenClaim := { program := "ytfpdlcblaodflaadoor", sum := "609fc48b997d61da19d832c40337a86d7889c0a9a9deff3b3c7ff72d5e63d7ba", func := "coadjutor/coadjutorlaw14.ActOpens", spec := "actOpens", named := ["coadjutor/act.table"], apart := false, laid := [("coadjutor/act.table", laid_coadjutor_act_table)], narrowed := true }
def ActOpensUptoSaid : Prop := actOpensUptoRow.holds Tryd.pinned (OpenSpec.upto actOpensSpec)

/-- 'coadjutorlaw14.ActAll', WHERE WHAT IT READS IS OF BULK AT MOST 1048576: true; the input reads as it did. -/
def actAllUptoRow : OpenClaim := { program := "ytfpdlcblaodflaadoor", sum := "609fc48b997d61da19d832c40337a86d7889c0a9a9deff3b3c7ff72d5e63d7ba", func := "coadjutor/coadjutorlaw14.ActAll", spec := "actAll", named := ["coadjutor/act.table"], apart := false, laid := [("coadjutor/act.table", laid_coadjutor_act_table)], narrowed := true }
def ActAllUptoSaid : Prop := actAllUptoRow.holds Tryd.pinned (OpenSpec.upto actAllSpec)

end Rows
end Go.Proofs.YtfpdlcblaodflaaDoor
