/-
  NARROWER THAN 'FOR EVERY INPUT', by the rows' own cells (each row's printed sentence says how): SoftExact: laid · SoftMix: laid · SoftOrder: laid · SoftWithin: laid · SoftChosen: laid.
  DERIVED. THE GIVEN ROWS OF THIS SEAT. 5 by the template 'for every input the law returns true; each argument reads behind the call as it read before'; 0 by the template 'total and deterministic' (their statements: YtghlapaoebelpaaDoorTotals.lean).
  GIVEN WITH THE SEED: the statements are not yours to turn. If you find one false, say at which input.
  Laid BY PROGRAM, IN A SANDBOX (cutbox-rows.mjs): the forced cells as the released guide's own fill.sh prints them over the translation 5edcf38b1ca1f565… (all of the seat's roots in one cut). By AI agents, Wed Nov 11 2026. No macro, syntax, notation, axiom, sorry.
-/
import Derived.Test.YtghlapaoebelpaaDoorChecked
import GoSem.Claim
import GoSem.ClaimJoined
import GoSem.ClaimMapViews
import Derived.JoinedTies
import Derived.KernelRfl
namespace Go.Proofs.YtghlapaoebelpaaDoor
/- THE CELL 'sum', in the pinned program and in every row, IS THE sha256 OF THE DUMP (.gsa) THAT YtghlapaoebelpaaDoorProg.lean LOADS. Nothing in Lean hashes anything: it is a label: what it is worth is what the hold of that sum in a sandbox is worth. -/
noncomputable def Tryd.pinned : Pinned := { name := "ytghlapaoebelpaadoor", sum := "5edcf38b1ca1f565efcafed7651f3d42763ef8ff631be9cb9adcc7c6bffcbe92", checked := Tryd.checked }
namespace Rows
def none {H : Type} : Left H := { results := [], args := [] }

/- WHAT THE LISTED PACKAGE-LEVEL VARIABLES READ AS WHEN THE CALL BEGINS. Each datum BY PROGRAM (the guide's laid-datum.mjs) off the statement by which the dump's own 'gosem.cut.vars' lays the variable. In a bare row this is a premise. The card (YtghlapaoebelpaaDoorCards.lean) ties it to the program's text. -/
def laid_coadjutor_soft_powers {H : Type} : DataW H := .agg [.lit (.int .i64 65536), .lit (.int .i64 60097), .lit (.int .i64 55109), .lit (.int .i64 50535), .lit (.int .i64 46341), .lit (.int .i64 42495), .lit (.int .i64 38968), .lit (.int .i64 35734)]

/-- 'coadjutorlaw12.SoftExact': WHATEVER THE INPUT: true; the input reads as it did. -/
def softExactSpec : ChangeSpec := { name := "softExact", fn := fun _ => fun
  | [d1, d2, d3] => { results := [.lit (.bool true)], args := [d1, d2, d3] }
  | _ => none }
def softExactRow : OpenClaim := { program := "ytghlapaoebelpaadoor", sum := "5edcf38b1ca1f565efcafed7651f3d42763ef8ff631be9cb9adcc7c6bffcbe92", func := "coadjutor/coadjutorlaw12.SoftExact", spec := "softExact", named := ["coadjutor/soft.powers"], apart := false, laid := [("coadjutor/soft.powers", laid_coadjutor_soft_powers)] }
def SoftExactSaid : Prop := softExactRow.holds Tryd.pinned (OpenSpec.ofChange softExactSpec)

/-- ITS FALSE NEIGHBOUR: 'it returns false'. Refute it at one input. -/
def softExactWrong : ChangeSpec := { name := "softExact", fn := fun _ => fun
  | [d1, d2, d3] => { results := [.lit (.bool false)], args := [d1, d2, d3] }
  | _ => none }
def SoftExactWrongFalsely : Prop := softExactRow.holds Tryd.pinned (OpenSpec.ofChange softExactWrong)

/-- 'coadjutorlaw12.SoftMix': WHATEVER THE INPUT: true; the input reads as it did. -/
def softMixSpec : ChangeSpec := { name := "softMix", fn := fun _ => fun
  | [d1, d2] => { results := [.lit (.bool true)], args := [d1, d2] }
  | _ => none }
def softMixRow : OpenClaim := { program := "ytghlapaoebelpaadoor", sum := "5edcf38b1ca1f565efcafed7651f3d42763ef8ff631be9cb9adcc7c6bffcbe92", func := "coadjutor/coadjutorlaw12.SoftMix", spec := "softMix", named := ["coadjutor/soft.powers"], apart := false, laid := [("coadjutor/soft.powers", laid_coadjutor_soft_powers)] }
def SoftMixSaid : Prop := softMixRow.holds Tryd.pinned (OpenSpec.ofChange softMixSpec)

/-- ITS FALSE NEIGHBOUR: 'it returns false'. Refute it at one input. -/
def softMixWrong : ChangeSpec := { name := "softMix", fn := fun _ => fun
  | [d1, d2] => { results := [.lit (.bool false)], args := [d1, d2] }
  | _ => none }
def SoftMixWrongFalsely : Prop := softMixRow.holds Tryd.pinned (OpenSpec.ofChange softMixWrong)

/-- 'coadjutorlaw12.SoftOrder': WHATEVER THE INPUT: true; the input reads as it did. -/
def softOrderSpec : ChangeSpec := { name := "softOrder", fn := fun _ => fun
  | [d1, d2] => { results := [.lit (.bool true)], args := [d1, d2] }
  | _ => none }
def softOrderRow : OpenClaim := { program := "ytghlapaoebelpaadoor", sum := "5edcf38b1ca1f565efcafed7651f3d42763ef8ff631be9cb9adcc7c6bffcbe92", func := "coadjutor/coadjutorlaw12.SoftOrder", spec := "softOrder", named := ["coadjutor/soft.powers"], apart := false, laid := [("coadjutor/soft.powers", laid_coadjutor_soft_powers)] }
def SoftOrderSaid : Prop := softOrderRow.holds Tryd.pinned (OpenSpec.ofChange softOrderSpec)

/-- ITS FALSE NEIGHBOUR: 'it returns false'. Refute it at one input. -/
def softOrderWrong : ChangeSpec := { name := "softOrder", fn := fun _ => fun
  | [d1, d2] => { results := [.lit (.bool false)], args := [d1, d2] }
  | _ => none }
def SoftOrderWrongFalsely : Prop := softOrderRow.holds Tryd.pinned (OpenSpec.ofChange softOrderWrong)

/-- 'coadjutorlaw12.SoftWithin': WHATEVER THE INPUT: true; the input reads as it did. -/
def softWithinSpec : ChangeSpec := { name := "softWithin", fn := fun _ => fun
  | [d1, d2] => { results := [.lit (.bool true)], args := [d1, d2] }
  | _ => none }
def softWithinRow : OpenClaim := { program := "ytghlapaoebelpaadoor", sum := "5edcf38b1ca1f565efcafed7651f3d42763ef8ff631be9cb9adcc7c6bffcbe92", func := "coadjutor/coadjutorlaw12.SoftWithin", spec := "softWithin", named := ["coadjutor/soft.powers"], apart := false, laid := [("coadjutor/soft.powers", laid_coadjutor_soft_powers)] }
def SoftWithinSaid : Prop := softWithinRow.holds Tryd.pinned (OpenSpec.ofChange softWithinSpec)

/-- ITS FALSE NEIGHBOUR: 'it returns false'. Refute it at one input. -/
def softWithinWrong : ChangeSpec := { name := "softWithin", fn := fun _ => fun
  | [d1, d2] => { results := [.lit (.bool false)], args := [d1, d2] }
  | _ => none }
def SoftWithinWrongFalsely : Prop := softWithinRow.holds Tryd.pinned (OpenSpec.ofChange softWithinWrong)

/-- 'coadjutorlaw12.SoftChosen': WHATEVER THE INPUT: true; the input reads as it did. -/
def softChosenSpec : ChangeSpec := { name := "softChosen", fn := fun _ => fun
  | [d1, d2] => { results := [.lit (.bool true)], args := [d1, d2] }
  | _ => none }
def softChosenRow : OpenClaim := { program := "ytghlapaoebelpaadoor", sum := "5edcf38b1ca1f565efcafed7651f3d42763ef8ff631be9cb9adcc7c6bffcbe92", func := "coadjutor/coadjutorlaw12.SoftChosen", spec := "softChosen", named := ["coadjutor/soft.powers"], apart := false, laid := [("coadjutor/soft.powers", laid_coadjutor_soft_powers)] }
def SoftChosenSaid : Prop := softChosenRow.holds Tryd.pinned (OpenSpec.ofChange softChosenSpec)

/-- ITS FALSE NEIGHBOUR: 'it returns false'. Refute it at one input. -/
def softChosenWrong : ChangeSpec := { name := "softChosen", fn := fun _ => fun
  | [d1, d2] => { results := [.lit (.bool false)], args := [d1, d2] }
  | _ => none }
def SoftChosenWrongFalsely : Prop := softChosenRow.holds Tryd.pinned (OpenSpec.ofChange softChosenWrong)

/- THE SECOND FORM. 'bulk': how many values and letters a reading holds, each counted each time it is reached (what is shared counts as often as it is met; a slice's spare places count too). A statement '..UptoSaid' is the law's where the arguments, and the package variables that the reading takes, are together of bulk at most 1048576: NARROWER than '..Said'. Prove '..Said' where nothing that the law and all that it calls make is longer than what came in: it says more and counts as full. Else prove '..UptoSaid'. A law counts once. -/
mutual
def uptoBulk {H : Type} : DataW H → Nat
  | .lit (.string bytes) => bytes.length + 1
  | .lit _ => 1
  | .nil => 1
  | .ptr d => uptoBulk d + 1
  | .slice elems spare => uptoBulkAll elems + uptoBulkAll spare + 1
  | .agg parts => uptoBulkAll parts + 1
  | .iface _ d => uptoBulk d + 1
  | .map entries => uptoBulkEntries entries + 1
  | .held _ => 1
def uptoBulkAll {H : Type} : List (DataW H) → Nat
  | [] => 0
  | d :: r => uptoBulk d + uptoBulkAll r
def uptoBulkEntries {H : Type} : List (Lit × DataW H) → Nat
  | [] => 0
  | x :: r => uptoBulkEntry x + uptoBulkEntries r
def uptoBulkEntry {H : Type} : Lit × DataW H → Nat
  | (.string bytes, d) => bytes.length + uptoBulk d + 1
  | (_, d) => uptoBulk d + 1
 end
def uptoSmall : (H : Type) → List (DataW H) → Bool := fun _ ds => decide (uptoBulkAll ds ≤ 1048576)
def OpenSpec.upto (s : _root_.Go.ChangeSpec) : _root_.Go.OpenSpec := { _root_.Go.OpenSpec.ofChange s with cond := some uptoSmall }

/-- 'coadjutorlaw12.SoftExact', WHERE WHAT IT READS IS OF BULK AT MOST 1048576: true; the input reads as it did. -/
def softExactUptoRow : OpenClaim := { program := "ytghlapaoebelpaadoor", sum := "5edcf38b1ca1f565efcafed7651f3d42763ef8ff631be9cb9adcc7c6bffcbe92", func := "coadjutor/coadjutorlaw12.SoftExact", spec := "softExact", named := ["coadjutor/soft.powers"], apart := false, laid := [("coadjutor/soft.powers", laid_coadjutor_soft_powers)], narrowed := true }
def SoftExactUptoSaid : Prop := softExactUptoRow.holds Tryd.pinned (OpenSpec.upto softExactSpec)

/-- 'coadjutorlaw12.SoftMix', WHERE WHAT IT READS IS OF BULK AT MOST 1048576: true; the input reads as it did. -/
def softMixUptoRow : OpenClaim := { program := "ytghlapaoebelpaadoor", sum := "5edcf38b1ca1f565efcafed7651f3d42763ef8ff631be9cb9adcc7c6bffcbe92", func := "coadjutor/coadjutorlaw12.SoftMix", spec := "softMix", named := ["coadjutor/soft.powers"], apart := false, laid := [("coadjutor/soft.powers", laid_coadjutor_soft_powers)], narrowed := true }
def SoftMixUptoSaid : Prop := softMixUptoRow.holds Tryd.pinned (OpenSpec.upto softMixSpec)

/-- 'coadjutorlaw12.SoftOrder', WHERE WHAT IT READS IS OF BULK AT MOST 1048576: true; the input reads as it did. -/
def softOrderUptoRow : OpenClaim := { program := "ytghlapaoebelpaadoor", sum := "5edcf38b1ca1f565efcafed7651f3d42763ef8ff631be9cb9adcc7c6bffcbe92", func := "coadjutor/coadjutorlaw12.SoftOrder", spec := "softOrder", named := ["coadjutor/soft.powers"], apart := false, laid := [("coadjutor/soft.powers", laid_coadjutor_soft_powers)], narrowed := true }
def SoftOrderUptoSaid : Prop := softOrderUptoRow.holds Tryd.pinned (OpenSpec.upto softOrderSpec)

/-- 'coadjutorlaw12.SoftWithin', WHERE WHAT IT READS IS OF BULK AT MOST 1048576: true; the input reads as it did. -/
def softWithinUptoRow : OpenClaim := { program := "ytghlapaoebelpaadoor", sum := "5edcf38b1ca1f565efcafed7651f3d42763ef8ff631be9cb9adcc7c6bffcbe92", func := "coadjutor/coadjutorlaw12.SoftWithin", spec := "softWithin", named := ["coadjutor/soft.powers"], apart := false, laid := [("coadjutor/soft.powers", laid_coadjutor_soft_powers)], narrowed := true }
def SoftWithinUptoSaid : Prop := softWithinUptoRow.holds Tryd.pinned (OpenSpec.upto softWithinSpec)

/-- 'coadjutorlaw12.SoftChosen', WHERE WHAT IT READS IS OF BULK AT MOST 1048576: true; the input reads as it did. -/
def softChosenUptoRow : OpenClaim := { program := "ytghlapaoebelpaadoor", sum := "5edcf38b1ca1f565efcafed7651f3d42763ef8ff631be9cb9adcc7c6bffcbe92", func := "coadjutor/coadjutorlaw12.SoftChosen", spec := "softChosen", named := ["coadjutor/soft.powers"], apart := false, laid := [("coadjutor/soft.powers", laid_coadjutor_soft_powers)], narrowed := true }
def SoftChosenUptoSaid : Prop := softChosenUptoRow.holds Tryd.pinned (OpenSpec.upto softChosenSpec)

end Rows
end Go.Proofs.YtghlapaoebelpaaDoor
