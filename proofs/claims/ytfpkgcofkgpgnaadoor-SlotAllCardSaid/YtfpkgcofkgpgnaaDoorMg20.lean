/-
  Out of the card's condition: both tables lie as the program's text lays them. And the door's own heap meets it.
-/
import Derived.Test.YtfpkgcofkgpgnaaDoorMg9
import Derived.Test.YtfpkgcofkgpgnaaDoorRows
import Derived.ProofKit
import Derived.LaidMore
import Derived.OpenShut
import Derived.Stop.Joined
import Derived.Lib.LaidTab
set_option maxRecDepth 100000
namespace Go.Proofs.YtfpkgcofkgpgnaaDoor
open Go.ChangeShapes Go.WideShapes Go.ChangeAt Go.RowKit Sh

def shaLaid : List (String × DataW Unit) := [("coadjutor/sha.firstWords", Rows.laid_coadjutor_sha_firstWords), ("coadjutor/sha.constants", Rows.laid_coadjutor_sha_constants)]
theorem gFirst : Tryd.prog.globalNamed "coadjutor/sha.firstWords" = some 0 := by kernel_rfl
theorem gConst : Tryd.prog.globalNamed "coadjutor/sha.constants" = some 2 := by kernel_rfl
theorem tFirst : (Tryd.prog.globals[0]?).map (·.type) = some 135 := by kernel_rfl
theorem tConst : (Tryd.prog.globals[2]?).map (·.type) = some 144 := by kernel_rfl

theorem sha_met (os : Os) (args : Array Value) : laidMetH Tryd.prog shaLaid ((World.doorLaid Tryd.prog 19 os).forCall (fun _ _ => 0) ⟨#[], args, []⟩).memory :=
  laidMetH_of_parts3 (fuel := 8) (laidMet_of_run' 8 (by kernel_rfl) (by kernel_rfl)) (by kernel_rfl) (by kernel_rfl)

theorem tabs_of {W : World} (h : laidMetH Tryd.prog shaLaid W) : Tabs W := by
  rw [MakeChecks.laidMetH_plain _ _ _ (by kernel_rfl)] at h
  obtain ⟨ps, ⟨g0, t0, cs0, f0, p0, q0, hg0, ht0, hv0, hd0, ⟨g1, t1, cs1, f1, p1, q1, hg1, ht1, hv1, hd1, _, _⟩, _⟩, _, _⟩ := h
  obtain rfl := Option.some.inj (gFirst.symm.trans hg0)
  obtain rfl := Option.some.inj (gConst.symm.trans hg1)
  obtain rfl := Option.some.inj (tFirst.symm.trans ht0)
  obtain rfl := Option.some.inj (tConst.symm.trans ht1)
  have e0 : cs0.toList = ((List.range 8).map fun i => tn (iv.at i)).map fun z => Value.int .u32 z :=
    Lib.cells_of_tab (zs := (List.range 8).map fun i => tn (iv.at i)) Tryd.underlying135 Tryd.underlying122 (by kernel_rfl) (by kernel_rfl) (hd0.trans (congrArg (fun d => some (d, p0)) (by kernel_rfl)))
  have e1 : cs1.toList = ((List.range 64).map fun i => tn (kAt i)).map fun z => Value.int .u32 z :=
    Lib.cells_of_tab (zs := (List.range 64).map fun i => tn (kAt i)) Tryd.underlying144 Tryd.underlying122 (by kernel_rfl) (by kernel_rfl) (hd1.trans (congrArg (fun d => some (d, p1)) (by kernel_rfl)))
  refine ⟨?_, fun i hi => ?_⟩
  · have h := hv0
    simp only [World.var?, hg0, Option.bind_some] at h
    split at h
    · rename_i cs t fr hb
      injection h with h
      subst h
      refine ⟨t, fr, ?_⟩
      rw [hb]
      have : cs = vals 8 fun i => .int .u32 (tn (iv.at i)) := by
        apply Array.ext'
        rw [e0]
        simp [vals, List.map_map, Function.comp_def]
      rw [this]
    · cases h
  · rw [World.var?_cell hg1 hv1 i, ← Array.getElem?_toList, e1]
    simp [hi]
end Go.Proofs.YtfpkgcofkgpgnaaDoor
