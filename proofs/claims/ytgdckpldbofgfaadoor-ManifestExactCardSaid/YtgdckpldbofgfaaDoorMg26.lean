/-
  A sum that comes in, by value or in a row, opened to its 32 bytes. No conditions.
  A manifest that comes in, raw: its four numbers, its sums in their row, its own sum. No conditions.
-/
import Derived.Test.YtgdckpldbofgfaaDoorMg8
import Derived.Test.YtgdckpldbofgfaaDoorMg16
import Derived.OpenShut
import Derived.Deep.Slices
import Derived.Deep.MidRow
set_option maxRecDepth 100000
namespace Go.Proofs.YtgdckpldbofgfaaDoor
open Go.ChangeShapes Go.WideShapes Go.ChangeAt Go.RowKit Sh

theorem okWide_array {P : Program} {w : World} {r : Reach} {b0 n : Nat} {t e : TypeId} {v : Value} (ht : P.underlying t = some (.array n e)) (h : Value.okWide P w r b0 t v) : ∃ cs, v = .agg cs := by
  unfold Value.okWide at h
  rw [ht] at h
  obtain ⟨cs, h1, _⟩ := h
  exact ⟨cs, h1⟩
section
variable {H : Type} {enc : TypeId × Value → H} {P : Program} {w : World} {base : Nat} {spare : Nat → Bool} {held : Bool}
theorem open_dig {t e : TypeId} {fuel : Nat} {cs : List Value} {x : DataW H × List MemPlace} (ht : P.underlying t = some (.array 32 e)) (he : P.underlying e = some (.int .u8)) (hc : P.cellsOf e = 1) (h32 : P.cellsOf t = 32)
    (h : DataW.trod enc P w base spare held fuel t cs = some x) : ∃ f : Nat → UInt8, cs = (digF f).toList := by
  obtain ⟨xs, m, _, _, hl, hx, hf⟩ := DataW.trod_array ht h
  rw [h32] at hl
  have each : ∀ i, i < 32 → ∃ b : UInt8, cs[i]? = some (.int .u8 (b.toNat : Int)) := fun i hi => by
    have h1 := hf i hi
    rw [hc, Nat.mul_one, List.getElem?_eq_getElem (by omega)] at h1
    obtain ⟨n, h2, _, h3⟩ := DataW.trod_int he h1
    rw [List.drop_eq_getElem_cons (by omega)] at h2
    simp only [List.take_succ_cons, List.take_zero] at h2
    injection h2 with h2
    have hb : 0 ≤ n ∧ n ≤ 255 := by simpa [Lit.wf, IntKind.min, IntKind.max, IntKind.signed, IntKind.bits] using h3
    refine ⟨UInt8.ofNat n.toNat, ?_⟩
    rw [List.getElem?_eq_getElem (by omega), h2, UInt8.toNat_ofNat']
    congr 2
    omega
  obtain ⟨f, hfx⟩ := Go.Deep.choose_lt each
  refine ⟨f, ?_⟩
  apply List.ext_getElem?
  intro i
  by_cases hi : i < 32
  · rw [hfx i hi, Array.getElem?_toList]
    exact (vals_get 32 (fun j => Value.int .u8 ((f j).toNat : Int)) i hi).symm
  · rw [List.getElem?_eq_none (by omega), Array.getElem?_toList, Array.getElem?_eq_none (by unfold digF; rw [vals_size]; omega)]
theorem open_digV {t e : TypeId} {r : Reach} {b0 : Nat} {v : Value} {d : DataW H} {p : List MemPlace} (ht : P.underlying t = some (.array 32 e)) (he : P.underlying e = some (.int .u8)) (hc : P.cellsOf e = 1) (h32 : P.cellsOf t = 32)
    (hval : Value.okWide P w r b0 t v) (h : DataW.Trod enc P w base spare held t v d p) : ∃ f : Nat → UInt8, v = .agg (digF f) := by
  obtain ⟨cs, rfl⟩ := okWide_array ht hval
  obtain ⟨fuel, hf⟩ := h
  obtain ⟨f, e⟩ := open_dig ht he hc h32 hf
  refine ⟨f, ?_⟩
  simp [Value.cells] at e
  rw [e]
/-- A row of sums that comes in: each lies in its 32 cells. -/
theorem open_digs {t q e : TypeId} {fuel : Nat} {cs : List Value} {x : DataW H × List MemPlace} (hs : P.underlying t = some (.slice q)) (ht : P.underlying q = some (.array 32 e)) (he : P.underlying e = some (.int .u8)) (hc : P.cellsOf e = 1) (h32 : P.cellsOf q = 32)
    (h : DataW.trod enc P w base spare held fuel t cs = some x) :
    ∃ (A : Option Addr) (len cap : Nat) (F : Nat → Nat → UInt8), cs = [.slice A len cap] ∧ len ≤ cap ∧ cap ≤ maxLen ∧ (0 < len → ∃ b o, A = some ⟨b, o, none⟩ ∧ ∀ i, i < len → w.rangeAt b (o + 32 * i) (digF (F i)).toList) := by
  rcases Go.Deep.open_slice hs h with ⟨h0, _⟩ | ⟨a, len, cap, m, n, D, Pl, hcs, _, hl, hm, hmm, _, hx⟩
  · exact ⟨none, 0, 0, fun _ _ => 0, h0, by omega, by omega, fun h => by omega⟩
  have hlm : len ≤ m := by rw [hmm]; split <;> omega
  obtain ⟨b, o, sp⟩ := a
  by_cases hz : len = 0
  · exact ⟨_, len, cap, fun _ _ => 0, hcs, hl, hm, fun h => by omega⟩
  have each : ∀ i, i < len → ∃ f : Nat → UInt8, ∀ j v, (digF f).toList[j]? = some v → w.cell? ((⟨b, o, sp⟩ : Addr).add (i * 32 + j)) = some v := fun i hi => by
    obtain ⟨cs', h1, h2⟩ := hx i (by omega)
    obtain ⟨f, rfl⟩ := open_dig ht he hc h32 h2
    refine ⟨f, fun j v hj => ?_⟩
    obtain ⟨_, hlen, hat⟩ := World.cells?_some h1
    rw [h32] at hat
    have hjl : j < 32 := by
      have := (List.getElem?_eq_some_iff.1 hj).1
      rw [Array.length_toList] at this
      unfold digF at this
      rwa [vals_size] at this
    rw [← Go.Deep.add_add, hat j hjl, hj]
  obtain ⟨F, hF⟩ := Go.Deep.choose_lt each
  have h00 : w.cell? ((⟨b, o, sp⟩ : Addr).add (0 * 32 + 0)) = some (.int .u8 ((F 0 0).toNat : Int)) := hF 0 (by omega) 0 _ (by rw [Array.getElem?_toList]; exact vals_get 32 _ 0 (by omega))
  simp [Addr.add] at h00
  obtain rfl : sp = none := World.cell?_spot h00
  refine ⟨_, len, cap, F, hcs, hl, hm, fun _ => ⟨b, o, rfl, fun i hi j v hj => ?_⟩⟩
  have := hF i hi j v hj
  rw [Addr.add_lit] at this
  rw [show o + 32 * i + j = o + (i * 32 + j) by omega]
  exact this
end
end Go.Proofs.YtgdckpldbofgfaaDoor
namespace Go.Proofs.YtgdckpldbofgfaaDoor
open Go.ChangeShapes Go.WideShapes Go.ChangeAt Go.RowKit Sh Mf

theorem take_cell {cs : List Value} {k c : Nat} {v : Value} (h : (cs.drop k).take c = [v]) (hc : c = 1) : cs[k]? = some v := by
  subst hc
  have : ((cs.drop k).take 1)[0]? = some v := by rw [h]; rfl
  rw [List.getElem?_take, if_pos (by omega), List.getElem?_drop] at this
  exact this
theorem manA_hi (m : Man) (A : Option Addr) (k j : Nat) : (manA m A k)[5 + j]? = (digF m.res)[j]? := by
  unfold manA
  rw [Array.getElem?_append_right (by simp)]
  congr 1
  simp
theorem digs_row {w : World} {b o len : Nat} {F : Nat → Nat → UInt8} (h : ∀ i, i < len → w.rangeAt b (o + 32 * i) (digF (F i)).toList) : DigsAt w b o ((List.range len).map F) := by
  intro j u hj
  have hl := (List.getElem?_eq_some_iff.1 hj).1
  rw [dcells_length, List.length_map, List.length_range] at hl
  have hq : j / 32 < len := by omega
  have hr : j % 32 < 32 := by omega
  have e : j = j / 32 * 32 + j % 32 := by omega
  rw [e, dcells_at _ (j / 32) (j % 32) (by rw [List.length_map, List.length_range]; exact hq) hr] at hj
  rw [List.getElem_map, List.getElem_range] at hj
  have := h (j / 32) hq (j % 32) u hj
  rw [show o + j = o + 32 * (j / 32) + j % 32 by omega]
  exact this
set_option maxRecDepth 100000 in
set_option maxHeartbeats 2000000 in
theorem open_man {H : Type} {enc : TypeId × Value → H} {w : World} {base : Nat} {spare : Nat → Bool} {held : Bool} {fuel : Nat} {cs : List Value} {x : DataW H × List MemPlace} (h : DataW.trod enc Tryd.prog w base spare held fuel 26 cs = some x) :
    ∃ (m : Man) (A : Option Addr) (k : Nat), cs = (manA m A k).toList ∧ SIn w A k m.sums ∧ ∀ j, -9223372036854775808 ≤ nthM m j ∧ nthM m j ≤ 9223372036854775807 := by
  obtain ⟨xs, q, _, _, hl, hxl, hf⟩ := DataW.trod_struct Tryd.underlying26 h
  have c37 : Tryd.prog.cellsOf 26 = 37 := by kernel_rfl
  have cI : Tryd.prog.cellsOf 3 = 1 := by kernel_rfl
  have cS : Tryd.prog.cellsOf 22 = 1 := by kernel_rfl
  have cB : Tryd.prog.cellsOf 5 = 1 := by kernel_rfl
  have cD : Tryd.prog.cellsOf 24 = 32 := by kernel_rfl
  rw [c37] at hl
  have hx : ∀ j, j < 6 → ∃ y, xs[j]? = some y := fun j hj => ⟨_, List.getElem?_eq_getElem (show j < xs.length by rw [hxl]; exact hj)⟩
  obtain ⟨y0, e0⟩ := hx 0 (by omega)
  obtain ⟨y1, e1⟩ := hx 1 (by omega)
  obtain ⟨y2, e2⟩ := hx 2 (by omega)
  obtain ⟨y3, e3⟩ := hx 3 (by omega)
  obtain ⟨y4, e4⟩ := hx 4 (by omega)
  obtain ⟨y5, e5⟩ := hx 5 (by omega)
  have g0 := (hf 0 _ rfl).trans e0
  have g1 := (hf 1 _ rfl).trans e1
  have g2 := (hf 2 _ rfl).trans e2
  have g3 := (hf 3 _ rfl).trans e3
  have g4 := (hf 4 _ rfl).trans e4
  have g5 := (hf 5 _ rfl).trans e5
  obtain ⟨n0, a0, _, w0⟩ := DataW.trod_int Tryd.underlying3 g0
  obtain ⟨n1, a1, _, w1⟩ := DataW.trod_int Tryd.underlying3 g1
  obtain ⟨n2, a2, _, w2⟩ := DataW.trod_int Tryd.underlying3 g2
  obtain ⟨n3, a3, _, w3⟩ := DataW.trod_int Tryd.underlying3 g3
  obtain ⟨A, len, cap, F, a4, hlc, _, hD⟩ := open_digs Tryd.underlying22 Tryd.underlying24 Tryd.underlying5 cB cD g4
  obtain ⟨f, a5⟩ := open_dig Tryd.underlying24 Tryd.underlying5 cB cD g5
  have a5 : (cs.drop 5).take 32 = (digF f).toList := by rw [← a5]; exact congrArg (fun c => (cs.drop 5).take c) cD.symm
  have b0 : -9223372036854775808 ≤ n0 ∧ n0 ≤ 9223372036854775807 := by simpa [Lit.wf, IntKind.min, IntKind.max, IntKind.signed, IntKind.bits] using w0
  have b1 : -9223372036854775808 ≤ n1 ∧ n1 ≤ 9223372036854775807 := by simpa [Lit.wf, IntKind.min, IntKind.max, IntKind.signed, IntKind.bits] using w1
  have b2 : -9223372036854775808 ≤ n2 ∧ n2 ≤ 9223372036854775807 := by simpa [Lit.wf, IntKind.min, IntKind.max, IntKind.signed, IntKind.bits] using w2
  have b3 : -9223372036854775808 ≤ n3 ∧ n3 ≤ 9223372036854775807 := by simpa [Lit.wf, IntKind.min, IntKind.max, IntKind.signed, IntKind.bits] using w3
  have c0 := take_cell a0 cI
  have c1 := take_cell a1 cI
  have c2 := take_cell a2 cI
  have c3 := take_cell a3 cI
  have c4 := take_cell a4 cS
  have hLL : ((List.range len).map F).length = len := by simp
  refine ⟨⟨n0, n1, n2, n3, (List.range len).map F, f⟩, A, cap, ?_, ⟨by rw [hLL]; exact hlc, fun h0 => ?_⟩, fun j => ?_⟩
  · apply List.ext_getElem?
    intro j
    have ht : (manA ⟨n0, n1, n2, n3, (List.range len).map F, f⟩ A cap).toList[j]? = (manA ⟨n0, n1, n2, n3, (List.range len).map F, f⟩ A cap)[j]? := Array.getElem?_toList
    rw [ht]
    clear ht
    by_cases h5 : j < 5
    · rw [manA_low _ _ _ _ h5]
      dsimp only
      rw [hLL]
      match j, h5 with
      | 0, _ => exact c0
      | 1, _ => exact c1
      | 2, _ => exact c2
      | 3, _ => exact c3
      | 4, _ => exact c4
    · obtain ⟨i, rfl⟩ : ∃ i, j = 5 + i := ⟨j - 5, by omega⟩
      rw [manA_hi]
      by_cases hi : i < 32
      · have h1 : ((cs.drop 5).take 32)[i]? = (digF f).toList[i]? := by rw [a5]
        rw [List.getElem?_take, if_pos hi, List.getElem?_drop] at h1
        exact h1.trans Array.getElem?_toList
      · rw [List.getElem?_eq_none (by omega), Array.getElem?_eq_none (by rw [digF_size]; omega)]
  · dsimp only at h0
    rw [hLL] at h0
    obtain ⟨b, o, e, hr⟩ := hD h0
    exact ⟨b, o, e, digs_row hr⟩
  · match j with
    | 0 => exact b0
    | 1 => exact b1
    | 2 => exact b2
    | (_ + 3) => exact b3
set_option maxRecDepth 100000 in
theorem open_manV {H : Type} {enc : TypeId × Value → H} {w : World} {base : Nat} {spare : Nat → Bool} {held : Bool} {r : Reach} {b0 : Nat} {v : Value} {d : DataW H} {p : List MemPlace} (hval : Value.okWide Tryd.prog w r b0 26 v)
    (h : DataW.Trod enc Tryd.prog w base spare held 26 v d p) : ∃ (m : Man) (A : Option Addr) (k : Nat), v = .agg (manA m A k) ∧ SIn w A k m.sums ∧ ∀ j, -9223372036854775808 ≤ nthM m j ∧ nthM m j ≤ 9223372036854775807 := by
  obtain ⟨cs, rfl, _⟩ := okWide_struct Tryd.underlying26 hval
  obtain ⟨fuel, hf⟩ := h
  obtain ⟨m, A, k, e, hs, hb⟩ := open_man hf
  refine ⟨m, A, k, ?_, hs, hb⟩
  simp [Value.cells] at e
  rw [e]
end Go.Proofs.YtgdckpldbofgfaaDoor
