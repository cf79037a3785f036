/-
  Out of the card's condition: the table of package act lies as the program's text lays it. And the door's own heap meets it.
-/
import Derived.Test.YtfpdlcblaodflaaDoorAc1
import Derived.Test.YtfpdlcblaodflaaDoorOpenTb
import Derived.Test.YtfpdlcblaodflaaDoorIntWf
import Derived.Test.YtfpdlcblaodflaaDoorRows
import Derived.ProofKit
import Derived.LaidMore
import Derived.OpenShut
import Derived.Stop.Joined
import Derived.Lib.LaidTab
namespace Go.Proofs.YtfpdlcblaodflaaDoor
open Go.ChangeShapes Go.WideShapes Go.ChangeAt Go.RowKit Nm Vc Ac

def actLaid : List (String × DataW Unit) := [("coadjutor/act.table", Rows.laid_coadjutor_act_table)]
theorem gTable : Tryd.prog.globalNamed "coadjutor/act.table" = some 0 := by kernel_rfl
theorem tTable : (Tryd.prog.globals[0]?).map (·.type) = some 32 := by kernel_rfl
theorem act_met (os : Os) (args : Array Value) : laidMetH Tryd.prog actLaid ((World.doorLaid Tryd.prog 19 os).forCall (fun _ _ => 0) ⟨#[], args, []⟩).memory :=
  laidMetH_of_parts3 (fuel := 8) (laidMet_of_run' 8 (by kernel_rfl) (by kernel_rfl)) (by kernel_rfl) (by kernel_rfl)
theorem gon_of {W : World} (h : laidMetH Tryd.prog actLaid W) : GOn W := by
  rw [MakeChecks.laidMetH_plain _ _ _ (by kernel_rfl)] at h
  obtain ⟨ps, ⟨g0, t0, cs0, f0, p0, q0, hg0, ht0, hv0, hd0, _, _⟩, _, _⟩ := h
  obtain rfl := Option.some.inj (gTable.symm.trans hg0)
  obtain rfl := Option.some.inj (tTable.symm.trans ht0)
  have e0 : cs0.toList = ((List.range 17).map fun i => tabZ i).map fun z => Value.int .i64 z :=
    Lib.cells_of_tab (zs := (List.range 17).map fun i => tabZ i) Tryd.underlying32 Tryd.underlying3 (by kernel_rfl) (by kernel_rfl) (hd0.trans (congrArg (fun d => some (d, p0)) (by kernel_rfl)))
  intro i hi
  rw [World.var?_cell hg0 hv0 i, ← Array.getElem?_toList, e0]
  simp [hi]
namespace Ac
theorem fit_of {n : Nat} {X : Nat → Int} (h : ∀ k, k < n → (Lit.int .i64 (X k)).wf = true) : FitL (listOf n X) := fun i hi => by
  rw [listOf_length] at hi
  rw [listOf_at _ _ _ _ hi]
  exact int_fits (h i hi)
end Ac
end Go.Proofs.YtfpdlcblaodflaaDoor
