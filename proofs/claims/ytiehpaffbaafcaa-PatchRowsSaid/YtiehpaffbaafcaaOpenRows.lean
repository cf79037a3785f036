/-
  Rows of numbers and of texts that come in: each element's cell. No conditions.
-/
import Derived.Test.YtiehpaffbaafcaaBase
import Derived.Deep.Strs
import Derived.Deep.Slices
namespace Go.Proofs.Ytiehpaffbaafcaa
open Go.ChangeShapes Go.WideShapes Go.ChangeAt Go.RowKit

section
variable {H : Type} {enc : TypeId × Value → H} {P : Program} {w : World} {base : Nat} {spare : Nat → Bool} {held : Bool}
theorem open_strs_row {t e : TypeId} {fuel : Nat} {cs : List Value} {x : DataW H × List MemPlace} (ht : P.underlying t = some (.slice e)) (he : P.underlying e = some .string) (hc : P.cellsOf e = 1)
    (h : DataW.trod enc P w base spare held fuel t cs = some x) :
    ∃ (A : Option Addr) (len cap : Nat) (ss : Nat → ByteArray), cs = [.slice A len cap] ∧ len ≤ cap ∧ cap ≤ maxLen ∧ (0 < len → ∃ pb po, A = some ⟨pb, po, none⟩ ∧ ∀ k, k < len → w.cell? ⟨pb, po + k, none⟩ = some (.string (ss k))) := by
  rcases Go.Deep.open_strs ht he hc h with ⟨h0, _⟩ | ⟨a, len, cap, m, S, hcs, _, hl, hm, hmm, _, hx⟩
  · exact ⟨none, 0, 0, fun _ => ⟨#[]⟩, h0, by omega, by omega, fun h => by omega⟩
  have hlm : len ≤ m := by rw [hmm]; split <;> omega
  refine ⟨some a, len, cap, S, hcs, hl, hm, fun h0 => ?_⟩
  obtain ⟨b, o, sp⟩ := a
  have hc0 := (hx 0 (by omega)).1
  simp [Addr.add] at hc0
  obtain rfl : sp = none := World.cell?_spot hc0
  refine ⟨b, o, rfl, fun k hk => ?_⟩
  have := (hx k (by omega)).1
  rwa [Addr.add_lit] at this
theorem open_ints_row {t e : TypeId} {kd : IntKind} {fuel : Nat} {cs : List Value} {x : DataW H × List MemPlace} (ht : P.underlying t = some (.slice e)) (he : P.underlying e = some (.int kd)) (hc : P.cellsOf e = 1)
    (h : DataW.trod enc P w base spare held fuel t cs = some x) :
    ∃ (A : Option Addr) (len cap : Nat) (xs : Nat → Int), cs = [.slice A len cap] ∧ len ≤ cap ∧ cap ≤ maxLen ∧ (∀ k, k < len → (Lit.int kd (xs k)).wf = true) ∧ (0 < len → ∃ pb po, A = some ⟨pb, po, none⟩ ∧ ∀ k, k < len → w.cell? ⟨pb, po + k, none⟩ = some (.int kd (xs k))) := by
  rcases Go.Deep.open_slice1 ht hc h with ⟨h0, _⟩ | ⟨a, len, cap, m, n, V, D, Pl, hcs, _, hl, hm, hmm, _, hx⟩
  · exact ⟨none, 0, 0, fun _ => 0, h0, by omega, by omega, fun k hk => by omega, fun h => by omega⟩
  have hlm : len ≤ m := by rw [hmm]; split <;> omega
  have each : ∀ i, i < len → ∃ z : Int, V i = .int kd z ∧ (Lit.int kd z).wf = true := fun i hi => by
    obtain ⟨z, h1, _, h2⟩ := DataW.trod_int he (hx i (by omega)).2
    injection h1 with h1
    exact ⟨z, h1, h2⟩
  obtain ⟨xs, hxs⟩ := Go.Deep.choose_lt each
  refine ⟨some a, len, cap, xs, hcs, hl, hm, fun k hk => (hxs k hk).2, fun h0 => ?_⟩
  obtain ⟨b, o, sp⟩ := a
  have hc0 := (hx 0 (by omega)).1
  rw [(hxs 0 h0).1] at hc0
  simp [Addr.add] at hc0
  obtain rfl : sp = none := World.cell?_spot hc0
  refine ⟨b, o, rfl, fun k hk => ?_⟩
  have := (hx k (by omega)).1
  rw [Addr.add_lit, (hxs k hk).1] at this
  exact this
end
end Go.Proofs.Ytiehpaffbaafcaa
