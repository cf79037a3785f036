/-
  A sum that comes in, by value or in a row, opened to its 32 bytes. No conditions.
-/
import Derived.Test.YtlechjpaldpgnaaGreatDoorMg7
import Derived.OpenShut
import Derived.Deep.Slices
import Derived.Deep.MidRow
set_option maxRecDepth 100000
namespace Go.Proofs.YtlechjpaldpgnaaGreatDoor
open Go.ChangeShapes Go.WideShapes Go.ChangeAt Go.RowKit Sh

theorem okWide_array {P : Program} {w : World} {r : Reach} {b0 n : Nat} {t e : TypeId} {v : Value} (ht : P.underlying t = some (.array n e)) (h : Value.okWide P w r b0 t v) : ∃ cs, v = .agg cs := by
  unfold Value.okWide at h
  rw [ht] at h
  obtain ⟨cs, h1, _⟩ := h
  exact ⟨cs, h1⟩
section
variable {H : Type} {enc : TypeId × Value → H} {P : Program} {w : World} {base : Nat} {spare : Nat → Bool} {held : Bool}
theorem open_dig {t e : TypeId} {fuel : Nat} {cs : List Value} {x : DataW H × List MemPlace} (ht : P.underlying t = some (.array 32 e)) (he : P.underlying e = some (.int .u8)) (hc : P.cellsOf e = 1) (h32 : P.cellsOf t = 32)
    (h : DataW.trod enc P w base spare held fuel t cs = some x) : ∃ f : Nat → UInt8, cs = (digF f).toList := by
  obtain ⟨xs, m, _, _, hl, hx, hf⟩ := DataW.trod_array ht h
  rw [h32] at hl
  have each : ∀ i, i < 32 → ∃ b : UInt8, cs[i]? = some (.int .u8 (b.toNat : Int)) := fun i hi => by
    have h1 := hf i hi
    rw [hc, Nat.mul_one, List.getElem?_eq_getElem (by omega)] at h1
    obtain ⟨n, h2, _, h3⟩ := DataW.trod_int he h1
    rw [List.drop_eq_getElem_cons (by omega)] at h2
    simp only [List.take_succ_cons, List.take_zero] at h2
    injection h2 with h2
    have hb : 0 ≤ n ∧ n ≤ 255 := by simpa [Lit.wf, IntKind.min, IntKind.max, IntKind.signed, IntKind.bits] using h3
    refine ⟨UInt8.ofNat n.toNat, ?_⟩
    rw [List.getElem?_eq_getElem (by omega), h2, UInt8.toNat_ofNat']
    congr 2
    omega
  obtain ⟨f, hfx⟩ := Go.Deep.choose_lt each
  refine ⟨f, ?_⟩
  apply List.ext_getElem?
  intro i
  by_cases hi : i < 32
  · rw [hfx i hi, Array.getElem?_toList]
    exact (vals_get 32 (fun j => Value.int .u8 ((f j).toNat : Int)) i hi).symm
  · rw [List.getElem?_eq_none (by omega), Array.getElem?_toList, Array.getElem?_eq_none (by unfold digF; rw [vals_size]; omega)]
theorem open_digV {t e : TypeId} {r : Reach} {b0 : Nat} {v : Value} {d : DataW H} {p : List MemPlace} (ht : P.underlying t = some (.array 32 e)) (he : P.underlying e = some (.int .u8)) (hc : P.cellsOf e = 1) (h32 : P.cellsOf t = 32)
    (hval : Value.okWide P w r b0 t v) (h : DataW.Trod enc P w base spare held t v d p) : ∃ f : Nat → UInt8, v = .agg (digF f) := by
  obtain ⟨cs, rfl⟩ := okWide_array ht hval
  obtain ⟨fuel, hf⟩ := h
  obtain ⟨f, e⟩ := open_dig ht he hc h32 hf
  refine ⟨f, ?_⟩
  simp [Value.cells] at e
  rw [e]
/-- A row of sums that comes in: each lies in its 32 cells. -/
theorem open_digs {t q e : TypeId} {fuel : Nat} {cs : List Value} {x : DataW H × List MemPlace} (hs : P.underlying t = some (.slice q)) (ht : P.underlying q = some (.array 32 e)) (he : P.underlying e = some (.int .u8)) (hc : P.cellsOf e = 1) (h32 : P.cellsOf q = 32)
    (h : DataW.trod enc P w base spare held fuel t cs = some x) :
    ∃ (A : Option Addr) (len cap : Nat) (F : Nat → Nat → UInt8), cs = [.slice A len cap] ∧ len ≤ cap ∧ cap ≤ maxLen ∧ (0 < len → ∃ b o, A = some ⟨b, o, none⟩ ∧ ∀ i, i < len → w.rangeAt b (o + 32 * i) (digF (F i)).toList) := by
  rcases Go.Deep.open_slice hs h with ⟨h0, _⟩ | ⟨a, len, cap, m, n, D, Pl, hcs, _, hl, hm, hmm, _, hx⟩
  · exact ⟨none, 0, 0, fun _ _ => 0, h0, by omega, by omega, fun h => by omega⟩
  have hlm : len ≤ m := by rw [hmm]; split <;> omega
  obtain ⟨b, o, sp⟩ := a
  by_cases hz : len = 0
  · exact ⟨_, len, cap, fun _ _ => 0, hcs, hl, hm, fun h => by omega⟩
  have each : ∀ i, i < len → ∃ f : Nat → UInt8, ∀ j v, (digF f).toList[j]? = some v → w.cell? ((⟨b, o, sp⟩ : Addr).add (i * 32 + j)) = some v := fun i hi => by
    obtain ⟨cs', h1, h2⟩ := hx i (by omega)
    obtain ⟨f, rfl⟩ := open_dig ht he hc h32 h2
    refine ⟨f, fun j v hj => ?_⟩
    obtain ⟨_, hlen, hat⟩ := World.cells?_some h1
    rw [h32] at hat
    have hjl : j < 32 := by
      have := (List.getElem?_eq_some_iff.1 hj).1
      rw [Array.length_toList] at this
      unfold digF at this
      rwa [vals_size] at this
    rw [← Go.Deep.add_add, hat j hjl, hj]
  obtain ⟨F, hF⟩ := Go.Deep.choose_lt each
  have h00 : w.cell? ((⟨b, o, sp⟩ : Addr).add (0 * 32 + 0)) = some (.int .u8 ((F 0 0).toNat : Int)) := hF 0 (by omega) 0 _ (by rw [Array.getElem?_toList]; exact vals_get 32 _ 0 (by omega))
  simp [Addr.add] at h00
  obtain rfl : sp = none := World.cell?_spot h00
  refine ⟨_, len, cap, F, hcs, hl, hm, fun _ => ⟨b, o, rfl, fun i hi j v hj => ?_⟩⟩
  have := hF i hi j v hj
  rw [Addr.add_lit] at this
  rw [show o + 32 * i + j = o + (i * 32 + j) by omega]
  exact this
end
end Go.Proofs.YtlechjpaldpgnaaGreatDoor
