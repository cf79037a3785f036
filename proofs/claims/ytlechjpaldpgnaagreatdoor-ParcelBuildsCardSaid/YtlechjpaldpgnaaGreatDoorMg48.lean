/-
  A shape's numbers that come in: six. No conditions.
-/
import Derived.Test.YtlechjpaldpgnaaGreatDoorMg40
import Derived.WideShapes
import Derived.OpenShut
set_option maxRecDepth 100000
namespace Go.Proofs.YtlechjpaldpgnaaGreatDoor
open Go Go.ChangeShapes Go.WideShapes Go.ChangeAt Go.RowKit Cf

set_option maxRecDepth 100000 in
theorem open_cf {H : Type} {enc : TypeId × Value → H} {w : World} {base : Nat} {spare : Nat → Bool} {held : Bool} {r : Reach} {b0 : Nat} {v : Value} {d : DataW H} {p : List MemPlace}
    (hval : Value.okWide Tryz.prog w r b0 60 v) (h : DataW.Trod enc Tryz.prog w base spare held 60 v d p) : ∃ x : Cfg, v = cfV x := by
  have ht : Tryz.prog.underlying 60 = some (.struct (Tryz.prog.fieldsOf 60)) := by kernel_rfl
  have h6 : Tryz.prog.cellsOf 60 = 6 := by kernel_rfl
  have h1 : Tryz.prog.cellsOf 3 = 1 := by kernel_rfl
  obtain ⟨cs, rfl, hsz⟩ := okWide_struct ht hval
  obtain ⟨fuel, hf⟩ := h
  obtain ⟨xs, n, _, _, hlen, hxl, hfx⟩ := DataW.trod_struct ht hf
  rw [h6] at hsz hlen
  have hm := fields_cf
  have hfs : (Tryz.prog.fieldsOf 60).size = 6 := by
    have := congrArg List.length hm
    rw [List.length_map, Array.length_toList] at this
    exact this
  have each : ∀ i, i < 6 → ∃ z : Int, cs.toList[i]? = some (.int .i64 z) := fun i hi => by
    have hfi : (Tryz.prog.fieldsOf 60)[i]? = some ((Tryz.prog.fieldsOf 60)[i]'(by omega)) := Array.getElem?_eq_getElem (by omega)
    have hmi := congrArg (fun l => l[i]?) hm
    simp only [List.getElem?_map, Array.getElem?_toList, hfi, Option.map_some] at hmi
    generalize (Tryz.prog.fieldsOf 60)[i]'(by omega) = f at hfi hmi
    have hto : f.type = 3 ∧ f.offset = i := by
      rcases (show i = 0 ∨ i = 1 ∨ i = 2 ∨ i = 3 ∨ i = 4 ∨ i = 5 by omega) with rfl | rfl | rfl | rfl | rfl | rfl <;> (simp [fieldsCf] at hmi; exact ⟨hmi.2.1, hmi.2.2⟩)
    have hq := hfx i f hfi
    rw [hto.1, hto.2, h1] at hq
    rw [List.getElem?_eq_getElem (show i < xs.length by omega)] at hq
    obtain ⟨z, e1, _⟩ := DataW.trod_int Tryz.underlying3 hq
    refine ⟨z, ?_⟩
    have e1' : (cs.toList.drop i).take 1 = [.int .i64 z] := e1
    rw [List.drop_eq_getElem_cons (by rw [Array.length_toList]; omega)] at e1'
    simp only [List.take_succ_cons, List.take_zero] at e1'
    injection e1' with e2
    rw [List.getElem?_eq_getElem (by rw [Array.length_toList]; omega), e2]
  obtain ⟨z0, q0⟩ := each 0 (by omega)
  obtain ⟨z1, q1⟩ := each 1 (by omega)
  obtain ⟨z2, q2⟩ := each 2 (by omega)
  obtain ⟨z3, q3⟩ := each 3 (by omega)
  obtain ⟨z4, q4⟩ := each 4 (by omega)
  obtain ⟨z5, q5⟩ := each 5 (by omega)
  refine ⟨⟨z0, z1, z2, z3, z4, z5⟩, ?_⟩
  unfold cfV cfA
  congr 1
  apply Array.toList_inj.1
  apply List.ext_getElem?
  intro i
  by_cases hi : i < 6
  · rcases (show i = 0 ∨ i = 1 ∨ i = 2 ∨ i = 3 ∨ i = 4 ∨ i = 5 by omega) with rfl | rfl | rfl | rfl | rfl | rfl
    · rw [q0]; rfl
    · rw [q1]; rfl
    · rw [q2]; rfl
    · rw [q3]; rfl
    · rw [q4]; rfl
    · rw [q5]; rfl
  · rw [List.getElem?_eq_none (by rw [Array.length_toList]; omega), List.getElem?_eq_none (by show 6 ≤ i; omega)]
end Go.Proofs.YtlechjpaldpgnaaGreatDoor
