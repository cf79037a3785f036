/-
  A table that comes in; rows of rows of numbers that come in. No conditions.
-/
import Derived.Test.YtkdkeokldcehhaaGreatDoorMg6
import Derived.Test.YtkdkeokldcehhaaGreatDoorMg39
import Derived.WideShapes
import Derived.OpenShut
set_option maxRecDepth 100000
namespace Go.Proofs.YtkdkeokldcehhaaGreatDoor
open Go Go.ChangeShapes Go.WideShapes Go.ChangeAt Go.RowKit Vc

namespace Vc
/-- The first n values of a function. -/
def listOf {α : Type} (n : Nat) (f : Nat → α) : List α := (List.range n).map f
theorem listOf_length {α : Type} (n : Nat) (f : Nat → α) : (listOf n f).length = n := by simp [listOf]
theorem listOf_at {α : Type} (n : Nat) (f : Nat → α) (d : α) (i : Nat) (h : i < n) : (listOf n f).getD i d = f i := by
  unfold listOf
  rw [List.getD_eq_getElem?_getD, List.getElem?_map, List.getElem?_range h]
  rfl
theorem kin_of {kd : IntKind} {w : World} {A : Option Addr} {n : Nat} {xs : Nat → Int} (h : 0 < n → ∃ pb po, A = some ⟨pb, po, none⟩ ∧ ∀ k, k < n → w.cell? ⟨pb, po + k, none⟩ = some (.int kd (xs k))) : KIn kd w A (listOf n xs) := fun h0 => by
  rw [listOf_length] at h0
  obtain ⟨pb, po, e, hc⟩ := h h0
  refine ⟨pb, po, e, fun i hi => ?_⟩
  rw [listOf_length] at hi
  rw [hc i hi, listOf_at n xs 0 i hi]
theorem i8_wf {z : Int} (h : (Lit.int .i8 z).wf = true) : -128 ≤ z ∧ z ≤ 127 := by
  simp [Lit.wf, IntKind.min, IntKind.max, IntKind.bits, IntKind.signed] at h
  omega
end Vc
def fieldsTb : List (String × TypeId × Nat) := [("Rows", 3, 0), ("Cols", 3, 1), ("Data", 118, 2)]
theorem fields_tb : (Tryz.prog.fieldsOf 120).toList.map (fun f => (f.name, f.type, f.offset)) = fieldsTb := by kernel_rfl
set_option maxRecDepth 100000 in
theorem open_tb {H : Type} {enc : TypeId × Value → H} {w : World} {base : Nat} {spare : Nat → Bool} {held : Bool} {r : Reach} {b0 : Nat} {v : Value} {d : DataW H} {p : List MemPlace}
    (hval : Value.okWide Tryz.prog w r b0 120 v) (h : DataW.Trod enc Tryz.prog w base spare held 120 v d p) :
    ∃ (x y : Int) (A : Option Addr) (n c : Nat) (D : List Int), v = tbV x y A n c ∧ D.length = n ∧ KIn .i8 w A D ∧ I8 D := by
  have ht : Tryz.prog.underlying 120 = some (.struct (Tryz.prog.fieldsOf 120)) := by kernel_rfl
  have h3 : Tryz.prog.cellsOf 120 = 3 := by kernel_rfl
  have h1 : Tryz.prog.cellsOf 3 = 1 := by kernel_rfl
  have h1' : Tryz.prog.cellsOf 118 = 1 := by kernel_rfl
  have h1'' : Tryz.prog.cellsOf 137 = 1 := by kernel_rfl
  obtain ⟨cs, rfl, hsz⟩ := okWide_struct ht hval
  obtain ⟨fuel, hf⟩ := h
  obtain ⟨xs, n, _, _, hlen, hxl, hfx⟩ := DataW.trod_struct ht hf
  rw [h3] at hsz hlen
  have hm := fields_tb
  have hfs : (Tryz.prog.fieldsOf 120).size = 3 := by
    have := congrArg List.length hm
    rw [List.length_map, Array.length_toList] at this
    exact this
  have each : ∀ i t, (i, t) ∈ [(0, 3), (1, 3), (2, 118)] → Tryz.prog.cellsOf t = 1 → ∃ u y, cs.toList[i]? = some u ∧ DataW.trod enc Tryz.prog w base spare held n t [u] = some y := fun i t hit hc => by
    have hi : i < 3 := by simp at hit; omega
    have hfi : (Tryz.prog.fieldsOf 120)[i]? = some ((Tryz.prog.fieldsOf 120)[i]'(by omega)) := Array.getElem?_eq_getElem (by omega)
    have hmi := congrArg (fun l => l[i]?) hm
    simp only [List.getElem?_map, Array.getElem?_toList, hfi, Option.map_some] at hmi
    generalize (Tryz.prog.fieldsOf 120)[i]'(by omega) = f at hfi hmi
    have hto : f.type = t ∧ f.offset = i := by
      simp at hit
      rcases hit with ⟨rfl, rfl⟩ | ⟨rfl, rfl⟩ | ⟨rfl, rfl⟩ <;> (simp [fieldsTb] at hmi; exact ⟨hmi.2.1, hmi.2.2⟩)
    have hq := hfx i f hfi
    rw [hto.1, hto.2, hc] at hq
    have hci : i < cs.toList.length := by rw [Array.length_toList]; omega
    have e2 : (cs.toList.drop i).take 1 = [cs.toList[i]'hci] := by
      rw [List.drop_eq_getElem_cons hci]
      rfl
    rw [show (Value.agg cs).cells.toList = cs.toList from rfl, e2, List.getElem?_eq_getElem (show i < xs.length by omega)] at hq
    exact ⟨_, _, List.getElem?_eq_getElem hci, hq⟩
  obtain ⟨u0, y0, c0, k0⟩ := each 0 3 (by simp) h1
  obtain ⟨u1, y1, c1, k1⟩ := each 1 3 (by simp) h1
  obtain ⟨u2, y2, c2, k2⟩ := each 2 118 (by simp) h1'
  obtain ⟨x, e0, _⟩ := DataW.trod_int Tryz.underlying3 k0
  obtain ⟨y, e1, _⟩ := DataW.trod_int Tryz.underlying3 k1
  obtain ⟨A, m, c, zs, e2, _, _, hwf, hz⟩ := open_ints_row Tryz.underlying118 Tryz.underlying137 h1'' k2
  injection e0 with e0
  injection e1 with e1
  injection e2 with e2
  subst e0 e1 e2
  refine ⟨x, y, A, m, c, listOf m zs, ?_, listOf_length _ _, kin_of hz, fun i hi => ?_⟩
  · unfold tbV tbA
    congr 1
    apply Array.toList_inj.1
    apply List.ext_getElem?
    intro i
    by_cases hi : i < 3
    · rcases (show i = 0 ∨ i = 1 ∨ i = 2 by omega) with rfl | rfl | rfl
      · rw [c0]; rfl
      · rw [c1]; rfl
      · rw [c2]; rfl
    · rw [List.getElem?_eq_none (by rw [Array.length_toList]; omega), List.getElem?_eq_none (by show 3 ≤ i; omega)]
  · rw [listOf_length] at hi
    rw [listOf_at _ _ _ _ hi]
    exact i8_wf (hwf i hi)
section
variable {H : Type} {enc : TypeId × Value → H} {P : Program} {w : World} {base : Nat} {spare : Nat → Bool} {held : Bool}
theorem open_intss_row {t u e : TypeId} {fuel : Nat} {cs : List Value} {x : DataW H × List MemPlace} (ht : P.underlying t = some (.slice u)) (hu : P.underlying u = some (.slice e)) (he : P.underlying e = some (.int .i64)) (hc : P.cellsOf u = 1) (hc' : P.cellsOf e = 1)
    (h : DataW.trod enc P w base spare held fuel t cs = some x) :
    ∃ (A : Option Addr) (len cap : Nat) (B : Nat → Option Addr) (C : Nat → Nat) (L : List (List Int)), cs = [.slice A len cap] ∧ L.length = len ∧ LIn w A B C L := by
  rcases Go.Deep.open_slice1 ht hc h with ⟨h0, _⟩ | ⟨a, len, cap, m, n, V, D, Pl, hcs, _, hl, hm, hmm, _, hx⟩
  · exact ⟨none, 0, 0, fun _ => none, fun _ => 0, [], h0, rfl, fun h => absurd h (by simp)⟩
  have hlm : len ≤ m := by rw [hmm]; split <;> omega
  have each : ∀ i, i < len → ∃ z : Option Addr × Nat × List Int, V i = .slice z.1 z.2.2.length z.2.1 ∧ KIn .i64 w z.1 z.2.2 := fun i hi => by
    obtain ⟨A, l, c, ss, h1, h2, h3, h4, h5⟩ := open_ints_row hu he hc' (hx i (by omega)).2
    injection h1 with h1
    exact ⟨(A, c, listOf l ss), by rw [h1, listOf_length], kin_of h5⟩
  obtain ⟨z, hz⟩ := Go.Deep.choose_lt each
  refine ⟨some a, len, cap, fun k => (z k).1, fun k => (z k).2.1, listOf len fun k => (z k).2.2, hcs, listOf_length _ _, fun h0 => ?_⟩
  rw [listOf_length] at h0
  obtain ⟨b, o, sp⟩ := a
  have hc0 := (hx 0 (by omega)).1
  rw [(hz 0 h0).1] at hc0
  simp [Addr.add] at hc0
  obtain rfl : sp = none := World.cell?_spot hc0
  refine ⟨b, o, rfl, fun k hk => ?_⟩
  rw [listOf_length] at hk
  rw [listOf_at _ _ _ _ hk]
  refine ⟨?_, (hz k hk).2⟩
  have := (hx k (by omega)).1
  rw [Addr.add_lit, (hz k hk).1] at this
  exact this
end
end Go.Proofs.YtkdkeokldcehhaaGreatDoor
