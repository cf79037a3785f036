/-
  Out of the card's condition: the tables of packages act and soft lie as the program's text lays them. And the door's own heap meets it.
-/
import Derived.Test.YtkdkeokldcehhaaGreatDoorMg15
import Derived.Test.YtkdkeokldcehhaaGreatDoorMg10
import Derived.Test.YtkdkeokldcehhaaGreatDoorMg42
import Derived.Test.YtkdkeokldcehhaaGreatDoorRows
import Derived.ProofKit
import Derived.LaidMore
import Derived.OpenShut
import Derived.Stop.Joined
import Derived.Lib.LaidTab
set_option maxRecDepth 100000
namespace Go.Proofs.YtkdkeokldcehhaaGreatDoor
open Go.ChangeShapes Go.WideShapes Go.ChangeAt Go.RowKit Sf Ac

def stepLaid : List (String × DataW Unit) := [("coadjutor/act.table", Rows.laid_coadjutor_act_table), ("coadjutor/soft.powers", Rows.laid_coadjutor_soft_powers)]
theorem gPowers : Tryz.prog.globalNamed "coadjutor/soft.powers" = some 0 := by kernel_rfl
theorem tPowers : (Tryz.prog.globals[0]?).map (·.type) = some 139 := by kernel_rfl
theorem gTable : Tryz.prog.globalNamed "coadjutor/act.table" = some 1 := by kernel_rfl
theorem tTable : (Tryz.prog.globals[1]?).map (·.type) = some 127 := by kernel_rfl
theorem step_met (os : Os) (args : Array Value) : laidMetH Tryz.prog stepLaid ((World.doorLaid Tryz.prog 19 os).forCall (fun _ _ => 0) ⟨#[], args, []⟩).memory :=
  laidMetH_of_parts3 (fuel := 8) (laidMet_of_run' 8 (by kernel_rfl) (by kernel_rfl)) (by kernel_rfl) (by kernel_rfl)
theorem tabs17_of {W : World} (h : laidMetH Tryz.prog stepLaid W) : POn W ∧ GOn W := by
  rw [MakeChecks.laidMetH_plain _ _ _ (by kernel_rfl)] at h
  obtain ⟨ps, ⟨g0, t0, cs0, f0, p0, q0, hg0, ht0, hv0, hd0, ⟨g1, t1, cs1, f1, p1, q1, hg1, ht1, hv1, hd1, _, _⟩, _⟩, _, _⟩ := h
  obtain rfl := Option.some.inj (gTable.symm.trans hg0)
  obtain rfl := Option.some.inj (gPowers.symm.trans hg1)
  obtain rfl := Option.some.inj (tTable.symm.trans ht0)
  obtain rfl := Option.some.inj (tPowers.symm.trans ht1)
  have e0 : cs0.toList = ((List.range 17).map fun i => tabZ i).map fun z => Value.int .i64 z :=
    Lib.cells_of_tab (zs := (List.range 17).map fun i => tabZ i) Tryz.underlying127 Tryz.underlying3 (by kernel_rfl) (by kernel_rfl) (hd0.trans (congrArg (fun d => some (d, p0)) (by kernel_rfl)))
  have e1 : cs1.toList = ((List.range 8).map fun i => ((tabN i : Nat) : Int)).map fun z => Value.int .i64 z :=
    Lib.cells_of_tab (zs := (List.range 8).map fun i => ((tabN i : Nat) : Int)) Tryz.underlying139 Tryz.underlying3 (by kernel_rfl) (by kernel_rfl) (hd1.trans (congrArg (fun d => some (d, p1)) (by kernel_rfl)))
  refine ⟨fun i hi => ?_, fun i hi => ?_⟩
  · rw [World.var?_cell hg1 hv1 i, ← Array.getElem?_toList, e1]
    simp [hi]
  · rw [World.var?_cell hg0 hv0 i, ← Array.getElem?_toList, e0]
    simp [hi]
end Go.Proofs.YtkdkeokldcehhaaGreatDoor
