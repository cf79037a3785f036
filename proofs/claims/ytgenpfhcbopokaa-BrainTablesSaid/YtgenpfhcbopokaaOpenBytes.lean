/-
  Rows of bytes and of bools that come in: each element's cell. No conditions.
-/
import Derived.Test.YtgenpfhcbopokaaDkSpec
import Derived.Deep.Slices
import Derived.Deep.Grids
namespace Go.Proofs.Ytgenpfhcbopokaa
open Go.ChangeShapes Go.WideShapes Go.ChangeAt Go.RowKit

/-- Bytes that came in behind a slice. -/
def BytesIn (w : World) (A : Option Addr) (len cap : Nat) (X : Nat → UInt8) : Prop :=
  len ≤ cap ∧ cap ≤ maxLen ∧ (0 < len → ∃ pb po, A = some ⟨pb, po, none⟩ ∧ ∀ k, k < len → w.cell? ⟨pb, po + k, none⟩ = some (.int .u8 ((X k).toNat : Int)))
section
variable {H : Type} {enc : TypeId × Value → H} {P : Program} {w : World} {base : Nat} {spare : Nat → Bool} {held : Bool}
theorem open_bytes_in {t e : TypeId} {fuel : Nat} {cs : List Value} {x : DataW H × List MemPlace} (ht : P.underlying t = some (.slice e)) (he : P.underlying e = some (.int .u8)) (hc : P.cellsOf e = 1)
    (h : DataW.trod enc P w base spare held fuel t cs = some x) : ∃ (A : Option Addr) (len cap : Nat) (X : Nat → UInt8), cs = [.slice A len cap] ∧ BytesIn w A len cap X := by
  rcases Go.Deep.open_slice1 ht hc h with ⟨h0, _⟩ | ⟨a, len, cap, m, n, V, D, Pl, hcs, _, hl, hm, hmm, _, hx⟩
  · exact ⟨none, 0, 0, fun _ => 0, h0, by omega, by omega, fun h => by omega⟩
  have hlm : len ≤ m := by rw [hmm]; split <;> omega
  have each : ∀ i, i < len → ∃ z : UInt8, V i = .int .u8 (z.toNat : Int) := fun i hi => by
    obtain ⟨z, h1, _, h2⟩ := DataW.trod_int he (hx i (by omega)).2
    injection h1 with h1
    have hb : 0 ≤ z ∧ z < 256 := by
      simp [Lit.wf, IntKind.min, IntKind.max, IntKind.signed, IntKind.bits] at h2
      omega
    refine ⟨UInt8.ofNat z.toNat, ?_⟩
    rw [h1, UInt8.toNat_ofNat']
    congr 1
    omega
  obtain ⟨xs, hxs⟩ := Go.Deep.choose_lt each
  refine ⟨some a, len, cap, xs, hcs, hl, hm, fun h0 => ?_⟩
  obtain ⟨b, o, sp⟩ := a
  have hc0 := (hx 0 (by omega)).1
  rw [hxs 0 h0] at hc0
  simp [Addr.add] at hc0
  obtain rfl : sp = none := World.cell?_spot hc0
  refine ⟨b, o, rfl, fun k hk => ?_⟩
  have := (hx k (by omega)).1
  rw [Addr.add_lit, hxs k hk] at this
  exact this
theorem open_bools_in {t e : TypeId} {fuel : Nat} {cs : List Value} {x : DataW H × List MemPlace} (ht : P.underlying t = some (.slice e)) (he : P.underlying e = some .bool) (hc : P.cellsOf e = 1)
    (h : DataW.trod enc P w base spare held fuel t cs = some x) : ∃ (A : Option Addr) (len cap : Nat) (X : Nat → Bool), cs = [.slice A len cap] ∧ len ≤ cap ∧ cap ≤ maxLen ∧ (0 < len → ∃ pb po, A = some ⟨pb, po, none⟩ ∧ ∀ k, k < len → w.cell? ⟨pb, po + k, none⟩ = some (.bool (X k))) := by
  rcases Go.Deep.open_slice1 ht hc h with ⟨h0, _⟩ | ⟨a, len, cap, m, n, V, D, Pl, hcs, _, hl, hm, hmm, _, hx⟩
  · exact ⟨none, 0, 0, fun _ => false, h0, by omega, by omega, fun h => by omega⟩
  have hlm : len ≤ m := by rw [hmm]; split <;> omega
  have each : ∀ i, i < len → ∃ z : Bool, V i = .bool z := fun i hi => by
    obtain ⟨z, h1, _⟩ := DataW.trod_bool he (hx i (by omega)).2
    injection h1 with h1
    exact ⟨z, h1⟩
  obtain ⟨xs, hxs⟩ := Go.Deep.choose_lt each
  refine ⟨some a, len, cap, xs, hcs, hl, hm, fun h0 => ?_⟩
  obtain ⟨b, o, sp⟩ := a
  have hc0 := (hx 0 (by omega)).1
  rw [hxs 0 h0] at hc0
  simp [Addr.add] at hc0
  obtain rfl : sp = none := World.cell?_spot hc0
  refine ⟨b, o, rfl, fun k hk => ?_⟩
  have := (hx k (by omega)).1
  rw [Addr.add_lit, hxs k hk] at this
  exact this
end
/-- A byte that came in. -/
theorem u8_of {n : Int} (h : (Lit.int .u8 n).wf = true) : ∃ b : UInt8, n = (b.toNat : Int) := by
  have hb : 0 ≤ n ∧ n < 256 := by
    simp [Lit.wf, IntKind.min, IntKind.max, IntKind.signed, IntKind.bits] at h
    omega
  refine ⟨UInt8.ofNat n.toNat, ?_⟩
  rw [UInt8.toNat_ofNat']
  omega
end Go.Proofs.Ytgenpfhcbopokaa
