/-
  Out of the card's condition: the table of package soft lies as the program's text lays it. And the door's own heap meets it.
-/
import Derived.Test.YtghlapaoebelpaaDoorSf1
import Derived.Test.YtghlapaoebelpaaDoorRows
import Derived.ProofKit
import Derived.LaidMore
import Derived.OpenShut
import Derived.Stop.Joined
import Derived.Lib.LaidTab
namespace Go.Proofs.YtghlapaoebelpaaDoor
open Go.ChangeShapes Go.WideShapes Go.ChangeAt Go.RowKit Nm Sf

def softLaid : List (String × DataW Unit) := [("coadjutor/soft.powers", Rows.laid_coadjutor_soft_powers)]
theorem gPowers : Tryd.prog.globalNamed "coadjutor/soft.powers" = some 0 := by kernel_rfl
theorem tPowers : (Tryd.prog.globals[0]?).map (·.type) = some 38 := by kernel_rfl
theorem soft_met (os : Os) (args : Array Value) : laidMetH Tryd.prog softLaid ((World.doorLaid Tryd.prog 19 os).forCall (fun _ _ => 0) ⟨#[], args, []⟩).memory :=
  laidMetH_of_parts3 (fuel := 8) (laidMet_of_run' 8 (by kernel_rfl) (by kernel_rfl)) (by kernel_rfl) (by kernel_rfl)
theorem pon_of {W : World} (h : laidMetH Tryd.prog softLaid W) : POn W := by
  rw [MakeChecks.laidMetH_plain _ _ _ (by kernel_rfl)] at h
  obtain ⟨ps, ⟨g0, t0, cs0, f0, p0, q0, hg0, ht0, hv0, hd0, _, _⟩, _, _⟩ := h
  obtain rfl := Option.some.inj (gPowers.symm.trans hg0)
  obtain rfl := Option.some.inj (tPowers.symm.trans ht0)
  have e0 : cs0.toList = ((List.range 8).map fun i => ((tabN i : Nat) : Int)).map fun z => Value.int .i64 z :=
    Lib.cells_of_tab (zs := (List.range 8).map fun i => ((tabN i : Nat) : Int)) Tryd.underlying38 Tryd.underlying3 (by kernel_rfl) (by kernel_rfl) (hd0.trans (congrArg (fun d => some (d, p0)) (by kernel_rfl)))
  intro i hi
  rw [World.var?_cell hg0 hv0 i, ← Array.getElem?_toList, e0]
  simp [hi]
theorem int_hi {z : Int} (h : (Lit.int .i64 z).wf = true) : z ≤ 9223372036854775807 := by
  simp [Lit.wf, IntKind.min, IntKind.max, IntKind.bits, IntKind.signed] at h
  omega
theorem int_fits {z : Int} (h : (Lit.int .i64 z).wf = true) : Fits z := by
  simp [Lit.wf, IntKind.min, IntKind.max, IntKind.bits, IntKind.signed] at h
  unfold Fits
  omega
end Go.Proofs.YtghlapaoebelpaaDoor
