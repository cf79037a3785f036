/-
  A layout that comes in: three numbers. No conditions.
-/
import Derived.Test.YtnmgkkjnjllpbaaGreatDoorMg17
import Derived.WideShapes
import Derived.OpenShut
set_option maxRecDepth 100000
namespace Go.Proofs.YtnmgkkjnjllpbaaGreatDoor
open Go Go.ChangeShapes Go.WideShapes Go.ChangeAt Go.RowKit Ly

set_option maxRecDepth 100000 in
theorem open_ly {H : Type} {enc : TypeId × Value → H} {w : World} {base : Nat} {spare : Nat → Bool} {held : Bool} {r : Reach} {b0 : Nat} {v : Value} {d : DataW H} {p : List MemPlace}
    (hval : Value.okWide Tryz.prog w r b0 23 v) (h : DataW.Trod enc Tryz.prog w base spare held 23 v d p) : ∃ x y z : Int, v = lyV x y z := by
  have ht : Tryz.prog.underlying 23 = some (.struct (Tryz.prog.fieldsOf 23)) := by kernel_rfl
  have h3 : Tryz.prog.cellsOf 23 = 3 := by kernel_rfl
  have h1 : Tryz.prog.cellsOf 3 = 1 := by kernel_rfl
  obtain ⟨cs, rfl, hsz⟩ := okWide_struct ht hval
  obtain ⟨fuel, hf⟩ := h
  obtain ⟨xs, n, _, _, hlen, hxl, hfx⟩ := DataW.trod_struct ht hf
  rw [h3] at hsz hlen
  have hm := fields_ly
  have hfs : (Tryz.prog.fieldsOf 23).size = 3 := by
    have := congrArg List.length hm
    rw [List.length_map, Array.length_toList] at this
    exact this
  have each : ∀ i, i < 3 → ∃ z : Int, cs.toList[i]? = some (.int .i64 z) := fun i hi => by
    have hfi : (Tryz.prog.fieldsOf 23)[i]? = some ((Tryz.prog.fieldsOf 23)[i]'(by omega)) := Array.getElem?_eq_getElem (by omega)
    have hmi := congrArg (fun l => l[i]?) hm
    simp only [List.getElem?_map, Array.getElem?_toList, hfi, Option.map_some] at hmi
    generalize (Tryz.prog.fieldsOf 23)[i]'(by omega) = f at hfi hmi
    have hto : f.type = 3 ∧ f.offset = i := by
      rcases (show i = 0 ∨ i = 1 ∨ i = 2 by omega) with rfl | rfl | rfl <;> (simp [fieldsLy] at hmi; exact ⟨hmi.2.1, hmi.2.2⟩)
    have hq := hfx i f hfi
    rw [hto.1, hto.2, h1] at hq
    rw [List.getElem?_eq_getElem (show i < xs.length by omega)] at hq
    obtain ⟨z, e1, _⟩ := DataW.trod_int Tryz.underlying3 hq
    refine ⟨z, ?_⟩
    have e1' : (cs.toList.drop i).take 1 = [.int .i64 z] := e1
    rw [List.drop_eq_getElem_cons (by rw [Array.length_toList]; omega)] at e1'
    simp only [List.take_succ_cons, List.take_zero] at e1'
    injection e1' with e2
    rw [List.getElem?_eq_getElem (by rw [Array.length_toList]; omega), e2]
  obtain ⟨x, hx⟩ := each 0 (by omega)
  obtain ⟨y, hy⟩ := each 1 (by omega)
  obtain ⟨z, hz⟩ := each 2 (by omega)
  refine ⟨x, y, z, ?_⟩
  unfold lyV lyA
  congr 1
  apply Array.toList_inj.1
  apply List.ext_getElem?
  intro i
  by_cases hi : i < 3
  · rcases (show i = 0 ∨ i = 1 ∨ i = 2 by omega) with rfl | rfl | rfl
    · rw [hx]; rfl
    · rw [hy]; rfl
    · rw [hz]; rfl
  · rw [List.getElem?_eq_none (by rw [Array.length_toList]; omega), List.getElem?_eq_none (by show 3 ≤ i; omega)]
end Go.Proofs.YtnmgkkjnjllpbaaGreatDoor
