/-
  Rows of numbers and of texts that come in: each element's cell. No conditions.
  Rows of structs of one-cell fields that come in: each field's cell, and that it is read as its type says. No program's function, no type here. No conditions.
-/
import Derived.Test.YtlapinecmiacoaaMe1
import Derived.Deep.Strs
import Derived.Deep.Slices
import Derived.OpenShut
import Derived.Deep.MidRow
set_option maxRecDepth 100000
namespace Go.Proofs.Ytlapinecmiacoaa
open Go.ChangeShapes Go.WideShapes Go.ChangeAt Go.RowKit

section
variable {H : Type} {enc : TypeId × Value → H} {P : Program} {w : World} {base : Nat} {spare : Nat → Bool} {held : Bool}
theorem open_strs_row {t e : TypeId} {fuel : Nat} {cs : List Value} {x : DataW H × List MemPlace} (ht : P.underlying t = some (.slice e)) (he : P.underlying e = some .string) (hc : P.cellsOf e = 1)
    (h : DataW.trod enc P w base spare held fuel t cs = some x) :
    ∃ (A : Option Addr) (len cap : Nat) (ss : Nat → ByteArray), cs = [.slice A len cap] ∧ len ≤ cap ∧ cap ≤ maxLen ∧ (0 < len → ∃ pb po, A = some ⟨pb, po, none⟩ ∧ ∀ k, k < len → w.cell? ⟨pb, po + k, none⟩ = some (.string (ss k))) := by
  rcases Go.Deep.open_strs ht he hc h with ⟨h0, _⟩ | ⟨a, len, cap, m, S, hcs, _, hl, hm, hmm, _, hx⟩
  · exact ⟨none, 0, 0, fun _ => ⟨#[]⟩, h0, by omega, by omega, fun h => by omega⟩
  have hlm : len ≤ m := by rw [hmm]; split <;> omega
  refine ⟨some a, len, cap, S, hcs, hl, hm, fun h0 => ?_⟩
  obtain ⟨b, o, sp⟩ := a
  have hc0 := (hx 0 (by omega)).1
  simp [Addr.add] at hc0
  obtain rfl : sp = none := World.cell?_spot hc0
  refine ⟨b, o, rfl, fun k hk => ?_⟩
  have := (hx k (by omega)).1
  rwa [Addr.add_lit] at this
theorem open_ints_row {t e : TypeId} {kd : IntKind} {fuel : Nat} {cs : List Value} {x : DataW H × List MemPlace} (ht : P.underlying t = some (.slice e)) (he : P.underlying e = some (.int kd)) (hc : P.cellsOf e = 1)
    (h : DataW.trod enc P w base spare held fuel t cs = some x) :
    ∃ (A : Option Addr) (len cap : Nat) (xs : Nat → Int), cs = [.slice A len cap] ∧ len ≤ cap ∧ cap ≤ maxLen ∧ (∀ k, k < len → (Lit.int kd (xs k)).wf = true) ∧ (0 < len → ∃ pb po, A = some ⟨pb, po, none⟩ ∧ ∀ k, k < len → w.cell? ⟨pb, po + k, none⟩ = some (.int kd (xs k))) := by
  rcases Go.Deep.open_slice1 ht hc h with ⟨h0, _⟩ | ⟨a, len, cap, m, n, V, D, Pl, hcs, _, hl, hm, hmm, _, hx⟩
  · exact ⟨none, 0, 0, fun _ => 0, h0, by omega, by omega, fun k hk => by omega, fun h => by omega⟩
  have hlm : len ≤ m := by rw [hmm]; split <;> omega
  have each : ∀ i, i < len → ∃ z : Int, V i = .int kd z ∧ (Lit.int kd z).wf = true := fun i hi => by
    obtain ⟨z, h1, _, h2⟩ := DataW.trod_int he (hx i (by omega)).2
    injection h1 with h1
    exact ⟨z, h1, h2⟩
  obtain ⟨xs, hxs⟩ := Go.Deep.choose_lt each
  refine ⟨some a, len, cap, xs, hcs, hl, hm, fun k hk => (hxs k hk).2, fun h0 => ?_⟩
  obtain ⟨b, o, sp⟩ := a
  have hc0 := (hx 0 (by omega)).1
  rw [(hxs 0 h0).1] at hc0
  simp [Addr.add] at hc0
  obtain rfl : sp = none := World.cell?_spot hc0
  refine ⟨b, o, rfl, fun k hk => ?_⟩
  have := (hx k (by omega)).1
  rw [Addr.add_lit, (hxs k hk).1] at this
  exact this
end
end Go.Proofs.Ytlapinecmiacoaa
namespace Go.Proofs.Ytlapinecmiacoaa
open Go.ChangeShapes Go.WideShapes Go.ChangeAt Go.RowKit

section
variable {H : Type} {enc : TypeId × Value → H} {P : Program} {w : World} {base : Nat} {spare : Nat → Bool} {held : Bool}
theorem open_structs {t u : TypeId} {fs : Array Field} {m : Nat} {fuel : Nat} {cs : List Value} {x : DataW H × List MemPlace} (ht : P.underlying t = some (.slice u)) (hu : P.underlying u = some (.struct fs)) (hm0 : 0 < m) (hm : fs.size = m) (hc : P.cellsOf u = m)
    (hf : ∀ (j : Nat) (f : Field), fs[j]? = some f → f.offset = j ∧ P.cellsOf f.type = 1) (h : DataW.trod enc P w base spare held fuel t cs = some x) :
    ∃ (A : Option Addr) (len cap : Nat) (V : Nat → Nat → Value), cs = [.slice A len cap] ∧ len ≤ cap ∧ cap ≤ maxLen ∧ (∀ i, i < len → ∀ (j : Nat) (f : Field), fs[j]? = some f → ∃ n y, DataW.trod enc P w base spare held n f.type [V i j] = some y) ∧
      (0 < len → ∃ pb po, A = some ⟨pb, po, none⟩ ∧ ∀ i, i < len → ∀ j, j < m → w.cell? ⟨pb, po + (i * m + j), none⟩ = some (V i j)) := by
  rcases Go.Deep.open_slice ht h with ⟨h0, _⟩ | ⟨a, len, cap, k, n, D, Pl, hcs, _, hl, hcm, hmm, _, hx⟩
  · exact ⟨none, 0, 0, fun _ _ => .bool false, h0, by omega, by omega, fun i hi => by omega, fun h => by omega⟩
  have hlm : len ≤ k := by rw [hmm]; split <;> omega
  have each : ∀ i, i < len → ∃ V : Nat → Value, (∀ (j : Nat) (f : Field), fs[j]? = some f → ∃ n y, DataW.trod enc P w base spare held n f.type [V j] = some y) ∧ ∀ j, j < m → w.cell? (a.add (i * m + j)) = some (V j) := fun i hi => by
    obtain ⟨cs', h1, h2⟩ := hx i (by omega)
    obtain ⟨xs, q, _, _, hlen, hxl, hfx⟩ := DataW.trod_struct hu h2
    rw [hc] at hlen h1
    have hat := (World.cells?_some h1).2.2
    have key : ∀ j, j < m → cs'[j]? = some (cs'.getD j (.bool false)) := fun j hj => by
      rw [List.getD_eq_getElem?_getD, List.getElem?_eq_getElem (by omega)]
      rfl
    refine ⟨fun j => cs'.getD j (.bool false), fun j f hj => ?_, fun j hj => ?_⟩
    · have hjm : j < m := by
        rw [← hm]
        exact (Array.getElem?_eq_some_iff.1 hj).1
      obtain ⟨e1, e2⟩ := hf j f hj
      have h3 := hfx j f hj
      rw [e1, e2] at h3
      have h4 : (cs'.drop j).take 1 = [cs'.getD j (.bool false)] := by
        rw [List.drop_eq_getElem_cons (by omega), List.getD_eq_getElem?_getD, List.getElem?_eq_getElem (by omega)]
        rfl
      rw [h4] at h3
      have h5 : ∃ y, xs[j]? = some y := ⟨_, List.getElem?_eq_getElem (show j < xs.length by rw [hxl, hm]; exact hjm)⟩
      obtain ⟨y, hy⟩ := h5
      exact ⟨q, y, h3.trans hy⟩
    · rw [← Go.Deep.add_add, hat j hj]
      exact key j hj
  obtain ⟨V, hV⟩ := Go.Deep.choose_lt each
  refine ⟨some a, len, cap, V, hcs, hl, hcm, fun i hi => (hV i hi).1, fun h0 => ?_⟩
  obtain ⟨b, o, sp⟩ := a
  have hc0 := (hV 0 h0).2 0 hm0
  simp [Addr.add] at hc0
  obtain rfl : sp = none := World.cell?_spot hc0
  refine ⟨b, o, rfl, fun i hi j hj => ?_⟩
  have := (hV i hi).2 j hj
  rw [Addr.add_lit] at this
  exact this
theorem one_int {t : TypeId} {kd : IntKind} {n : Nat} {v : Value} {y : DataW H × List MemPlace} (ht : P.underlying t = some (.int kd)) (h : DataW.trod enc P w base spare held n t [v] = some y) : ∃ z : Int, v = .int kd z ∧ (Lit.int kd z).wf = true := by
  obtain ⟨z, h1, _, h2⟩ := DataW.trod_int ht h
  injection h1 with h1
  exact ⟨z, h1, h2⟩
theorem one_str {t : TypeId} {n : Nat} {v : Value} {y : DataW H × List MemPlace} (ht : P.underlying t = some .string) (h : DataW.trod enc P w base spare held n t [v] = some y) : ∃ s : ByteArray, v = .string s ∧ s.size ≤ maxLen := by
  obtain ⟨s, h1, _, h2⟩ := DataW.trod_string ht h
  injection h1 with h1
  exact ⟨s, h1, h2⟩
theorem one_ints {t e : TypeId} {kd : IntKind} {n : Nat} {v : Value} {y : DataW H × List MemPlace} (ht : P.underlying t = some (.slice e)) (he : P.underlying e = some (.int kd)) (hc : P.cellsOf e = 1) (h : DataW.trod enc P w base spare held n t [v] = some y) :
    ∃ (A : Option Addr) (len cap : Nat) (xs : Nat → Int), v = .slice A len cap ∧ len ≤ cap ∧ cap ≤ maxLen ∧ (∀ k, k < len → (Lit.int kd (xs k)).wf = true) ∧ (0 < len → ∃ pb po, A = some ⟨pb, po, none⟩ ∧ ∀ k, k < len → w.cell? ⟨pb, po + k, none⟩ = some (.int kd (xs k))) := by
  obtain ⟨A, len, cap, xs, h1, h2⟩ := open_ints_row ht he hc h
  injection h1 with h1
  exact ⟨A, len, cap, xs, h1, h2⟩
end
end Go.Proofs.Ytlapinecmiacoaa
