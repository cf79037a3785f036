/-
  Rows of deeds that come in. Conditions: none.
-/
import Derived.Test.YtmihladhopjloaaOpenStructs
import Derived.Test.YtmihladhopjloaaBtEx08M
import Derived.Deep.Grids
namespace Go.Proofs.Ytmihladhopjloaa
open Go.ChangeShapes Go.WideShapes Go.ChangeAt Go.RowKit Bt

section
variable {H : Type} {enc : TypeId × Value → H} {w : World} {base : Nat} {spare : Nat → Bool} {held : Bool}
set_option maxRecDepth 100000 in
theorem open_deeds {fuel : Nat} {cs : List Value} {x : DataW H × List MemPlace} (h : DataW.trod enc Try.prog w base spare held fuel 22 cs = some x) :
    ∃ (A : Option Addr) (len cap : Nat) (K : Nat → Int) (B : Nat → Option Addr) (L C : Nat → Nat) (xs : Nat → Nat → Int), cs = [.slice A len cap] ∧ (0 < len → ∃ pb po, A = some ⟨pb, po, none⟩ ∧ ∀ i, i < len → Deed w pb (po + i * 2) (K i) (B i) (L i) (C i) (xs i)) := by
  obtain ⟨fs, hfs, hty⟩ : ∃ fs, Try.prog.underlying 29 = some (.struct fs) ∧ fs.toList.map (fun f => (f.type, f.offset)) = [(3, 0), (27, 1)] := ⟨_, Try.underlying29, by kernel_rfl⟩
  obtain ⟨f0, r, e0, g0, hr⟩ := List.map_eq_cons_iff.1 hty
  obtain ⟨f1, r, rfl, g1, hr⟩ := List.map_eq_cons_iff.1 hr
  obtain rfl := List.map_eq_nil_iff.1 hr
  simp only [Prod.mk.injEq] at g0 g1
  have hf : ∀ (j : Nat) (f : Field), fs[j]? = some f → (j = 0 ∧ f = f0) ∨ (j = 1 ∧ f = f1) := fun j f hj => by
    rw [← Array.getElem?_toList, e0] at hj
    match j, hj with
    | 0, hj => exact .inl ⟨rfl, (Option.some.inj hj).symm⟩
    | 1, hj => exact .inr ⟨rfl, (Option.some.inj hj).symm⟩
    | j + 2, hj => simp at hj
  have c3 : Try.prog.cellsOf 3 = 1 := by kernel_rfl
  have c27 : Try.prog.cellsOf 27 = 1 := by kernel_rfl
  have hsz : fs.size = 2 := by rw [← Array.length_toList, e0]; rfl
  obtain ⟨A, len, cap, V, hcs, hl, hm, hV, hC⟩ := open_structs (m := 2) Try.underlying22 hfs (by omega) hsz (by kernel_rfl) (fun j f hj => by
    rcases hf j f hj with ⟨rfl, rfl⟩ | ⟨rfl, rfl⟩
    · rw [g0.1, g0.2]; exact ⟨rfl, c3⟩
    · rw [g1.1, g1.2]; exact ⟨rfl, c27⟩) h
  have get0 : fs[0]? = some f0 := by rw [← Array.getElem?_toList, e0]; rfl
  have get1 : fs[1]? = some f1 := by rw [← Array.getElem?_toList, e0]; rfl
  have each : ∀ i, i < len → ∃ y : Int × Option Addr × Nat × Nat × (Nat → Int), V i 0 = .int .i64 y.1 ∧ V i 1 = .slice y.2.1 y.2.2.1 y.2.2.2.1 ∧ y.2.2.1 ≤ y.2.2.2.1 ∧ IntsInB w y.2.1 y.2.2.1 y.2.2.2.2 := fun i hi => by
    obtain ⟨n0, y0, h0⟩ := hV i hi 0 f0 get0
    obtain ⟨n1, y1, h1⟩ := hV i hi 1 f1 get1
    rw [g0.1] at h0
    rw [g1.1] at h1
    obtain ⟨k, hk, _⟩ := one_int Try.underlying3 h0
    obtain ⟨B, L, C, xs, hB, hLC, _, _, hx⟩ := one_ints Try.underlying27 Try.underlying3 c3 h1
    exact ⟨(k, B, L, C, xs), hk, hB, hLC, hx⟩
  obtain ⟨y, hy⟩ := Go.Deep.choose_lt each
  refine ⟨A, len, cap, fun i => (y i).1, fun i => (y i).2.1, fun i => (y i).2.2.1, fun i => (y i).2.2.2.1, fun i => (y i).2.2.2.2, hcs, fun h0 => ?_⟩
  obtain ⟨pb, po, hA, hcell⟩ := hC h0
  refine ⟨pb, po, hA, fun i hi => ?_⟩
  obtain ⟨z1, z2, z3, z4⟩ := hy i hi
  have q0 := hcell i hi 0 (by omega)
  have q1 := hcell i hi 1 (by omega)
  rw [z1] at q0
  rw [z2] at q1
  exact ⟨q0, q1, z3, z4⟩
end
end Go.Proofs.Ytmihladhopjloaa
