/-
  The document's own tree of a row of sums. Conditions: the sums lie where it looks; at least one, at most a thousand.
  Out of the card's condition: both tables lie as the program's text lays them. And the door's own heap meets it.
-/
import Derived.Test.YtlechjpaldpgnaaGreatDoorMg9
import Derived.Test.YtlechjpaldpgnaaGreatDoorMg6
import Derived.Test.YtlechjpaldpgnaaGreatDoorMg27
import Derived.Test.YtlechjpaldpgnaaGreatDoorMg7
import Derived.Test.YtlechjpaldpgnaaGreatDoorRows
import Derived.ProofKit
import Derived.LaidMore
import Derived.OpenShut
import Derived.Stop.Joined
import Derived.Lib.LaidTab
set_option maxRecDepth 100000
namespace Go.Proofs.YtlechjpaldpgnaaGreatDoor
open Go.ChangeShapes Go.WideShapes Go.ChangeAt Go.RowKit Sh

theorem infoR : (Tryz.prog.info? 23).map (fun i => (i.zero, i.size, i.bytes)) = some (some (.agg (digF fun _ => 0)), 32, 32) := by kernel_rfl
theorem rfOneS (f : Nat → UInt8) : Tryz.prog.builtSlice 23 1 [(0, .agg (digF f))] = some (digF f) := by kernel_rfl
theorem hiRef : ∀ f, (Tryz.prog.info? 23).map (·.size) = some (vals 32 f).size := fun f => info_vals f (by kernel_rfl)
theorem digs_own {w : World} {base n g c : Nat} {t : TypeId} {l : List (Nat → UInt8)} (h : w.ownsRow base t 32 (.slice (some ⟨g, 0, none⟩) n c) n (dcells l)) : DigsAt w g 0 l := fun j u hj => by
  have := h.cells (g := g) rfl j u hj
  rwa [Addr.add_lit] at this
theorem hiRefF (f : Nat → UInt8) : (Tryz.prog.info? 23).map (·.size) = some (digF f).size := hiRef _
/-- A row of sums from its place i on. -/
theorem digs_drop {w : World} {b o : Nat} {l : List (Nat → UInt8)} (h : DigsAt w b o l) (i : Nat) (hi : i ≤ l.length) : DigsAt w b (o + i * 32) (l.drop i) := fun j u hj => by
  have e : dcells l = dcells (l.take i) ++ dcells (l.drop i) := by rw [← dcells_append, List.take_append_drop]
  have hl : (dcells (l.take i)).length = i * 32 := by rw [dcells_length, List.length_take]; omega
  have := h (i * 32 + j) u (by rw [e, List.getElem?_append_right (by omega), hl, Nat.add_sub_cancel_left]; exact hj)
  rwa [← Nat.add_assoc] at this

end Go.Proofs.YtlechjpaldpgnaaGreatDoor
namespace Go.Proofs.YtlechjpaldpgnaaGreatDoor
open Go.ChangeShapes Go.WideShapes Go.ChangeAt Go.RowKit Sh

def shaLaid : List (String × DataW Unit) := [("coadjutor/sha.firstWords", Rows.laid_coadjutor_sha_firstWords), ("coadjutor/sha.constants", Rows.laid_coadjutor_sha_constants)]
theorem gFirst : Tryz.prog.globalNamed "coadjutor/sha.firstWords" = some 0 := by kernel_rfl
theorem gConst : Tryz.prog.globalNamed "coadjutor/sha.constants" = some 1 := by kernel_rfl
theorem tFirst : (Tryz.prog.globals[0]?).map (·.type) = some 165 := by kernel_rfl
theorem tConst : (Tryz.prog.globals[1]?).map (·.type) = some 195 := by kernel_rfl

theorem sha_met (os : Os) (args : Array Value) : laidMetH Tryz.prog shaLaid ((World.doorLaid Tryz.prog 19 os).forCall (fun _ _ => 0) ⟨#[], args, []⟩).memory :=
  laidMetH_of_parts3 (fuel := 8) (laidMet_of_run' 8 (by kernel_rfl) (by kernel_rfl)) (by kernel_rfl) (by kernel_rfl)

theorem tabs_of {W : World} (h : laidMetH Tryz.prog shaLaid W) : Tabs W := by
  rw [MakeChecks.laidMetH_plain _ _ _ (by kernel_rfl)] at h
  obtain ⟨ps, ⟨g0, t0, cs0, f0, p0, q0, hg0, ht0, hv0, hd0, ⟨g1, t1, cs1, f1, p1, q1, hg1, ht1, hv1, hd1, _, _⟩, _⟩, _, _⟩ := h
  obtain rfl := Option.some.inj (gFirst.symm.trans hg0)
  obtain rfl := Option.some.inj (gConst.symm.trans hg1)
  obtain rfl := Option.some.inj (tFirst.symm.trans ht0)
  obtain rfl := Option.some.inj (tConst.symm.trans ht1)
  have e0 : cs0.toList = ((List.range 8).map fun i => tn (iv.at i)).map fun z => Value.int .u32 z :=
    Lib.cells_of_tab (zs := (List.range 8).map fun i => tn (iv.at i)) Tryz.underlying165 Tryz.underlying164 (by kernel_rfl) (by kernel_rfl) (hd0.trans (congrArg (fun d => some (d, p0)) (by kernel_rfl)))
  have e1 : cs1.toList = ((List.range 64).map fun i => tn (kAt i)).map fun z => Value.int .u32 z :=
    Lib.cells_of_tab (zs := (List.range 64).map fun i => tn (kAt i)) Tryz.underlying195 Tryz.underlying164 (by kernel_rfl) (by kernel_rfl) (hd1.trans (congrArg (fun d => some (d, p1)) (by kernel_rfl)))
  refine ⟨?_, fun i hi => ?_⟩
  · have h := hv0
    simp only [World.var?, hg0, Option.bind_some] at h
    split at h
    · rename_i cs t fr hb
      injection h with h
      subst h
      refine ⟨t, fr, ?_⟩
      rw [hb]
      have : cs = vals 8 fun i => .int .u32 (tn (iv.at i)) := by
        apply Array.ext'
        rw [e0]
        simp [vals, List.map_map, Function.comp_def]
      rw [this]
    · cases h
  · rw [World.var?_cell hg1 hv1 i, ← Array.getElem?_toList, e1]
    simp [hi]
end Go.Proofs.YtlechjpaldpgnaaGreatDoor
