/-
  Rows of numbers and of texts that come in: each element's cell. No conditions.
  A shape's numbers that come in: six. No conditions.
-/
import Derived.Test.YtkdkeokldcehhaaGreatDoorMg1
import Derived.Test.YtkdkeokldcehhaaGreatDoorMg31
import Derived.Deep.Strs
import Derived.Deep.Slices
import Derived.WideShapes
import Derived.OpenShut
set_option maxRecDepth 100000
namespace Go.Proofs.YtkdkeokldcehhaaGreatDoor
open Go.ChangeShapes Go.WideShapes Go.ChangeAt Go.RowKit

section
variable {H : Type} {enc : TypeId × Value → H} {P : Program} {w : World} {base : Nat} {spare : Nat → Bool} {held : Bool}
theorem open_strs_row {t e : TypeId} {fuel : Nat} {cs : List Value} {x : DataW H × List MemPlace} (ht : P.underlying t = some (.slice e)) (he : P.underlying e = some .string) (hc : P.cellsOf e = 1)
    (h : DataW.trod enc P w base spare held fuel t cs = some x) :
    ∃ (A : Option Addr) (len cap : Nat) (ss : Nat → ByteArray), cs = [.slice A len cap] ∧ len ≤ cap ∧ cap ≤ maxLen ∧ (0 < len → ∃ pb po, A = some ⟨pb, po, none⟩ ∧ ∀ k, k < len → w.cell? ⟨pb, po + k, none⟩ = some (.string (ss k))) := by
  rcases Go.Deep.open_strs ht he hc h with ⟨h0, _⟩ | ⟨a, len, cap, m, S, hcs, _, hl, hm, hmm, _, hx⟩
  · exact ⟨none, 0, 0, fun _ => ⟨#[]⟩, h0, by omega, by omega, fun h => by omega⟩
  have hlm : len ≤ m := by rw [hmm]; split <;> omega
  refine ⟨some a, len, cap, S, hcs, hl, hm, fun h0 => ?_⟩
  obtain ⟨b, o, sp⟩ := a
  have hc0 := (hx 0 (by omega)).1
  simp [Addr.add] at hc0
  obtain rfl : sp = none := World.cell?_spot hc0
  refine ⟨b, o, rfl, fun k hk => ?_⟩
  have := (hx k (by omega)).1
  rwa [Addr.add_lit] at this
theorem open_ints_row {t e : TypeId} {kd : IntKind} {fuel : Nat} {cs : List Value} {x : DataW H × List MemPlace} (ht : P.underlying t = some (.slice e)) (he : P.underlying e = some (.int kd)) (hc : P.cellsOf e = 1)
    (h : DataW.trod enc P w base spare held fuel t cs = some x) :
    ∃ (A : Option Addr) (len cap : Nat) (xs : Nat → Int), cs = [.slice A len cap] ∧ len ≤ cap ∧ cap ≤ maxLen ∧ (∀ k, k < len → (Lit.int kd (xs k)).wf = true) ∧ (0 < len → ∃ pb po, A = some ⟨pb, po, none⟩ ∧ ∀ k, k < len → w.cell? ⟨pb, po + k, none⟩ = some (.int kd (xs k))) := by
  rcases Go.Deep.open_slice1 ht hc h with ⟨h0, _⟩ | ⟨a, len, cap, m, n, V, D, Pl, hcs, _, hl, hm, hmm, _, hx⟩
  · exact ⟨none, 0, 0, fun _ => 0, h0, by omega, by omega, fun k hk => by omega, fun h => by omega⟩
  have hlm : len ≤ m := by rw [hmm]; split <;> omega
  have each : ∀ i, i < len → ∃ z : Int, V i = .int kd z ∧ (Lit.int kd z).wf = true := fun i hi => by
    obtain ⟨z, h1, _, h2⟩ := DataW.trod_int he (hx i (by omega)).2
    injection h1 with h1
    exact ⟨z, h1, h2⟩
  obtain ⟨xs, hxs⟩ := Go.Deep.choose_lt each
  refine ⟨some a, len, cap, xs, hcs, hl, hm, fun k hk => (hxs k hk).2, fun h0 => ?_⟩
  obtain ⟨b, o, sp⟩ := a
  have hc0 := (hx 0 (by omega)).1
  rw [(hxs 0 h0).1] at hc0
  simp [Addr.add] at hc0
  obtain rfl : sp = none := World.cell?_spot hc0
  refine ⟨b, o, rfl, fun k hk => ?_⟩
  have := (hx k (by omega)).1
  rw [Addr.add_lit, (hxs k hk).1] at this
  exact this
end
end Go.Proofs.YtkdkeokldcehhaaGreatDoor
namespace Go.Proofs.YtkdkeokldcehhaaGreatDoor
open Go Go.ChangeShapes Go.WideShapes Go.ChangeAt Go.RowKit Cf

set_option maxRecDepth 100000 in
theorem open_cf {H : Type} {enc : TypeId × Value → H} {w : World} {base : Nat} {spare : Nat → Bool} {held : Bool} {r : Reach} {b0 : Nat} {v : Value} {d : DataW H} {p : List MemPlace}
    (hval : Value.okWide Tryz.prog w r b0 23 v) (h : DataW.Trod enc Tryz.prog w base spare held 23 v d p) : ∃ x : Cfg, v = cfV x := by
  have ht : Tryz.prog.underlying 23 = some (.struct (Tryz.prog.fieldsOf 23)) := by kernel_rfl
  have h6 : Tryz.prog.cellsOf 23 = 6 := by kernel_rfl
  have h1 : Tryz.prog.cellsOf 3 = 1 := by kernel_rfl
  obtain ⟨cs, rfl, hsz⟩ := okWide_struct ht hval
  obtain ⟨fuel, hf⟩ := h
  obtain ⟨xs, n, _, _, hlen, hxl, hfx⟩ := DataW.trod_struct ht hf
  rw [h6] at hsz hlen
  have hm := fields_cf
  have hfs : (Tryz.prog.fieldsOf 23).size = 6 := by
    have := congrArg List.length hm
    rw [List.length_map, Array.length_toList] at this
    exact this
  have each : ∀ i, i < 6 → ∃ z : Int, cs.toList[i]? = some (.int .i64 z) := fun i hi => by
    have hfi : (Tryz.prog.fieldsOf 23)[i]? = some ((Tryz.prog.fieldsOf 23)[i]'(by omega)) := Array.getElem?_eq_getElem (by omega)
    have hmi := congrArg (fun l => l[i]?) hm
    simp only [List.getElem?_map, Array.getElem?_toList, hfi, Option.map_some] at hmi
    generalize (Tryz.prog.fieldsOf 23)[i]'(by omega) = f at hfi hmi
    have hto : f.type = 3 ∧ f.offset = i := by
      rcases (show i = 0 ∨ i = 1 ∨ i = 2 ∨ i = 3 ∨ i = 4 ∨ i = 5 by omega) with rfl | rfl | rfl | rfl | rfl | rfl <;> (simp [fieldsCf] at hmi; exact ⟨hmi.2.1, hmi.2.2⟩)
    have hq := hfx i f hfi
    rw [hto.1, hto.2, h1] at hq
    rw [List.getElem?_eq_getElem (show i < xs.length by omega)] at hq
    obtain ⟨z, e1, _⟩ := DataW.trod_int Tryz.underlying3 hq
    refine ⟨z, ?_⟩
    have e1' : (cs.toList.drop i).take 1 = [.int .i64 z] := e1
    rw [List.drop_eq_getElem_cons (by rw [Array.length_toList]; omega)] at e1'
    simp only [List.take_succ_cons, List.take_zero] at e1'
    injection e1' with e2
    rw [List.getElem?_eq_getElem (by rw [Array.length_toList]; omega), e2]
  obtain ⟨z0, q0⟩ := each 0 (by omega)
  obtain ⟨z1, q1⟩ := each 1 (by omega)
  obtain ⟨z2, q2⟩ := each 2 (by omega)
  obtain ⟨z3, q3⟩ := each 3 (by omega)
  obtain ⟨z4, q4⟩ := each 4 (by omega)
  obtain ⟨z5, q5⟩ := each 5 (by omega)
  refine ⟨⟨z0, z1, z2, z3, z4, z5⟩, ?_⟩
  unfold cfV cfA
  congr 1
  apply Array.toList_inj.1
  apply List.ext_getElem?
  intro i
  by_cases hi : i < 6
  · rcases (show i = 0 ∨ i = 1 ∨ i = 2 ∨ i = 3 ∨ i = 4 ∨ i = 5 by omega) with rfl | rfl | rfl | rfl | rfl | rfl
    · rw [q0]; rfl
    · rw [q1]; rfl
    · rw [q2]; rfl
    · rw [q3]; rfl
    · rw [q4]; rfl
    · rw [q5]; rfl
  · rw [List.getElem?_eq_none (by rw [Array.length_toList]; omega), List.getElem?_eq_none (by show 6 ≤ i; omega)]
end Go.Proofs.YtkdkeokldcehhaaGreatDoor
