/-
  A table that comes in; rows of rows of numbers that come in. No conditions.
-/
import Derived.Test.YtlapinecmiacoaaMg7
import Derived.Test.YtlapinecmiacoaaMg20
import Derived.WideShapes
import Derived.OpenShut
set_option maxRecDepth 100000
namespace Go.Proofs.Ytlapinecmiacoaa
open Go Go.ChangeShapes Go.WideShapes Go.ChangeAt Go.RowKit Vc

namespace Vc
/-- The first n values of a function. -/
def listOf {α : Type} (n : Nat) (f : Nat → α) : List α := (List.range n).map f
theorem listOf_length {α : Type} (n : Nat) (f : Nat → α) : (listOf n f).length = n := by simp [listOf]
theorem listOf_at {α : Type} (n : Nat) (f : Nat → α) (d : α) (i : Nat) (h : i < n) : (listOf n f).getD i d = f i := by
  unfold listOf
  rw [List.getD_eq_getElem?_getD, List.getElem?_map, List.getElem?_range h]
  rfl
theorem kin_of {kd : IntKind} {w : World} {A : Option Addr} {n : Nat} {xs : Nat → Int} (h : 0 < n → ∃ pb po, A = some ⟨pb, po, none⟩ ∧ ∀ k, k < n → w.cell? ⟨pb, po + k, none⟩ = some (.int kd (xs k))) : KIn kd w A (listOf n xs) := fun h0 => by
  rw [listOf_length] at h0
  obtain ⟨pb, po, e, hc⟩ := h h0
  refine ⟨pb, po, e, fun i hi => ?_⟩
  rw [listOf_length] at hi
  rw [hc i hi, listOf_at n xs 0 i hi]
theorem i8_wf {z : Int} (h : (Lit.int .i8 z).wf = true) : -128 ≤ z ∧ z ≤ 127 := by
  simp [Lit.wf, IntKind.min, IntKind.max, IntKind.bits, IntKind.signed] at h
  omega
end Vc
section
variable {H : Type} {enc : TypeId × Value → H} {P : Program} {w : World} {base : Nat} {spare : Nat → Bool} {held : Bool}
theorem open_intss_row {t u e : TypeId} {fuel : Nat} {cs : List Value} {x : DataW H × List MemPlace} (ht : P.underlying t = some (.slice u)) (hu : P.underlying u = some (.slice e)) (he : P.underlying e = some (.int .i64)) (hc : P.cellsOf u = 1) (hc' : P.cellsOf e = 1)
    (h : DataW.trod enc P w base spare held fuel t cs = some x) :
    ∃ (A : Option Addr) (len cap : Nat) (B : Nat → Option Addr) (C : Nat → Nat) (L : List (List Int)), cs = [.slice A len cap] ∧ L.length = len ∧ LIn w A B C L := by
  rcases Go.Deep.open_slice1 ht hc h with ⟨h0, _⟩ | ⟨a, len, cap, m, n, V, D, Pl, hcs, _, hl, hm, hmm, _, hx⟩
  · exact ⟨none, 0, 0, fun _ => none, fun _ => 0, [], h0, rfl, fun h => absurd h (by simp)⟩
  have hlm : len ≤ m := by rw [hmm]; split <;> omega
  have each : ∀ i, i < len → ∃ z : Option Addr × Nat × List Int, V i = .slice z.1 z.2.2.length z.2.1 ∧ KIn .i64 w z.1 z.2.2 := fun i hi => by
    obtain ⟨A, l, c, ss, h1, h2, h3, h4, h5⟩ := open_ints_row hu he hc' (hx i (by omega)).2
    injection h1 with h1
    exact ⟨(A, c, listOf l ss), by rw [h1, listOf_length], kin_of h5⟩
  obtain ⟨z, hz⟩ := Go.Deep.choose_lt each
  refine ⟨some a, len, cap, fun k => (z k).1, fun k => (z k).2.1, listOf len fun k => (z k).2.2, hcs, listOf_length _ _, fun h0 => ?_⟩
  rw [listOf_length] at h0
  obtain ⟨b, o, sp⟩ := a
  have hc0 := (hx 0 (by omega)).1
  rw [(hz 0 h0).1] at hc0
  simp [Addr.add] at hc0
  obtain rfl : sp = none := World.cell?_spot hc0
  refine ⟨b, o, rfl, fun k hk => ?_⟩
  rw [listOf_length] at hk
  rw [listOf_at _ _ _ _ hk]
  refine ⟨?_, (hz k hk).2⟩
  have := (hx k (by omega)).1
  rw [Addr.add_lit, (hz k hk).1] at this
  exact this
end
end Go.Proofs.Ytlapinecmiacoaa
