/-
  A manifest that comes in, raw: its four numbers, its sums in their row, its own sum. No conditions.
-/
import Derived.Test.YtlechjpaldpgnaaGreatDoorMg37
import Derived.Test.YtlechjpaldpgnaaGreatDoorMg23
set_option maxRecDepth 100000
namespace Go.Proofs.YtlechjpaldpgnaaGreatDoor
open Go.ChangeShapes Go.WideShapes Go.ChangeAt Go.RowKit Sh Mf

theorem take_cell {cs : List Value} {k c : Nat} {v : Value} (h : (cs.drop k).take c = [v]) (hc : c = 1) : cs[k]? = some v := by
  subst hc
  have : ((cs.drop k).take 1)[0]? = some v := by rw [h]; rfl
  rw [List.getElem?_take, if_pos (by omega), List.getElem?_drop] at this
  exact this
theorem manA_hi (m : Man) (A : Option Addr) (k j : Nat) : (manA m A k)[5 + j]? = (digF m.res)[j]? := by
  unfold manA
  rw [Array.getElem?_append_right (by simp)]
  congr 1
  simp
theorem digs_row {w : World} {b o len : Nat} {F : Nat → Nat → UInt8} (h : ∀ i, i < len → w.rangeAt b (o + 32 * i) (digF (F i)).toList) : DigsAt w b o ((List.range len).map F) := by
  intro j u hj
  have hl := (List.getElem?_eq_some_iff.1 hj).1
  rw [dcells_length, List.length_map, List.length_range] at hl
  have hq : j / 32 < len := by omega
  have hr : j % 32 < 32 := by omega
  have e : j = j / 32 * 32 + j % 32 := by omega
  rw [e, dcells_at _ (j / 32) (j % 32) (by rw [List.length_map, List.length_range]; exact hq) hr] at hj
  rw [List.getElem_map, List.getElem_range] at hj
  have := h (j / 32) hq (j % 32) u hj
  rw [show o + j = o + 32 * (j / 32) + j % 32 by omega]
  exact this
set_option maxRecDepth 100000 in
set_option maxHeartbeats 2000000 in
theorem open_man {H : Type} {enc : TypeId × Value → H} {w : World} {base : Nat} {spare : Nat → Bool} {held : Bool} {fuel : Nat} {cs : List Value} {x : DataW H × List MemPlace} (h : DataW.trod enc Tryz.prog w base spare held fuel 26 cs = some x) :
    ∃ (m : Man) (A : Option Addr) (k : Nat), cs = (manA m A k).toList ∧ SIn w A k m.sums ∧ ∀ j, -9223372036854775808 ≤ nthM m j ∧ nthM m j ≤ 9223372036854775807 := by
  obtain ⟨xs, q, _, _, hl, hxl, hf⟩ := DataW.trod_struct Tryz.underlying26 h
  have c37 : Tryz.prog.cellsOf 26 = 37 := by kernel_rfl
  have cI : Tryz.prog.cellsOf 3 = 1 := by kernel_rfl
  have cS : Tryz.prog.cellsOf 22 = 1 := by kernel_rfl
  have cB : Tryz.prog.cellsOf 5 = 1 := by kernel_rfl
  have cD : Tryz.prog.cellsOf 24 = 32 := by kernel_rfl
  rw [c37] at hl
  have hx : ∀ j, j < 6 → ∃ y, xs[j]? = some y := fun j hj => ⟨_, List.getElem?_eq_getElem (show j < xs.length by rw [hxl]; exact hj)⟩
  obtain ⟨y0, e0⟩ := hx 0 (by omega)
  obtain ⟨y1, e1⟩ := hx 1 (by omega)
  obtain ⟨y2, e2⟩ := hx 2 (by omega)
  obtain ⟨y3, e3⟩ := hx 3 (by omega)
  obtain ⟨y4, e4⟩ := hx 4 (by omega)
  obtain ⟨y5, e5⟩ := hx 5 (by omega)
  have g0 := (hf 0 _ rfl).trans e0
  have g1 := (hf 1 _ rfl).trans e1
  have g2 := (hf 2 _ rfl).trans e2
  have g3 := (hf 3 _ rfl).trans e3
  have g4 := (hf 4 _ rfl).trans e4
  have g5 := (hf 5 _ rfl).trans e5
  obtain ⟨n0, a0, _, w0⟩ := DataW.trod_int Tryz.underlying3 g0
  obtain ⟨n1, a1, _, w1⟩ := DataW.trod_int Tryz.underlying3 g1
  obtain ⟨n2, a2, _, w2⟩ := DataW.trod_int Tryz.underlying3 g2
  obtain ⟨n3, a3, _, w3⟩ := DataW.trod_int Tryz.underlying3 g3
  obtain ⟨A, len, cap, F, a4, hlc, _, hD⟩ := open_digs Tryz.underlying22 Tryz.underlying24 Tryz.underlying5 cB cD g4
  obtain ⟨f, a5⟩ := open_dig Tryz.underlying24 Tryz.underlying5 cB cD g5
  have a5 : (cs.drop 5).take 32 = (digF f).toList := by rw [← a5]; exact congrArg (fun c => (cs.drop 5).take c) cD.symm
  have b0 : -9223372036854775808 ≤ n0 ∧ n0 ≤ 9223372036854775807 := by simpa [Lit.wf, IntKind.min, IntKind.max, IntKind.signed, IntKind.bits] using w0
  have b1 : -9223372036854775808 ≤ n1 ∧ n1 ≤ 9223372036854775807 := by simpa [Lit.wf, IntKind.min, IntKind.max, IntKind.signed, IntKind.bits] using w1
  have b2 : -9223372036854775808 ≤ n2 ∧ n2 ≤ 9223372036854775807 := by simpa [Lit.wf, IntKind.min, IntKind.max, IntKind.signed, IntKind.bits] using w2
  have b3 : -9223372036854775808 ≤ n3 ∧ n3 ≤ 9223372036854775807 := by simpa [Lit.wf, IntKind.min, IntKind.max, IntKind.signed, IntKind.bits] using w3
  have c0 := take_cell a0 cI
  have c1 := take_cell a1 cI
  have c2 := take_cell a2 cI
  have c3 := take_cell a3 cI
  have c4 := take_cell a4 cS
  have hLL : ((List.range len).map F).length = len := by simp
  refine ⟨⟨n0, n1, n2, n3, (List.range len).map F, f⟩, A, cap, ?_, ⟨by rw [hLL]; exact hlc, fun h0 => ?_⟩, fun j => ?_⟩
  · apply List.ext_getElem?
    intro j
    have ht : (manA ⟨n0, n1, n2, n3, (List.range len).map F, f⟩ A cap).toList[j]? = (manA ⟨n0, n1, n2, n3, (List.range len).map F, f⟩ A cap)[j]? := Array.getElem?_toList
    rw [ht]
    clear ht
    by_cases h5 : j < 5
    · rw [manA_low _ _ _ _ h5]
      dsimp only
      rw [hLL]
      match j, h5 with
      | 0, _ => exact c0
      | 1, _ => exact c1
      | 2, _ => exact c2
      | 3, _ => exact c3
      | 4, _ => exact c4
    · obtain ⟨i, rfl⟩ : ∃ i, j = 5 + i := ⟨j - 5, by omega⟩
      rw [manA_hi]
      by_cases hi : i < 32
      · have h1 : ((cs.drop 5).take 32)[i]? = (digF f).toList[i]? := by rw [a5]
        rw [List.getElem?_take, if_pos hi, List.getElem?_drop] at h1
        exact h1.trans Array.getElem?_toList
      · rw [List.getElem?_eq_none (by omega), Array.getElem?_eq_none (by rw [digF_size]; omega)]
  · dsimp only at h0
    rw [hLL] at h0
    obtain ⟨b, o, e, hr⟩ := hD h0
    exact ⟨b, o, e, digs_row hr⟩
  · match j with
    | 0 => exact b0
    | 1 => exact b1
    | 2 => exact b2
    | (_ + 3) => exact b3
set_option maxRecDepth 100000 in
theorem open_manV {H : Type} {enc : TypeId × Value → H} {w : World} {base : Nat} {spare : Nat → Bool} {held : Bool} {r : Reach} {b0 : Nat} {v : Value} {d : DataW H} {p : List MemPlace} (hval : Value.okWide Tryz.prog w r b0 26 v)
    (h : DataW.Trod enc Tryz.prog w base spare held 26 v d p) : ∃ (m : Man) (A : Option Addr) (k : Nat), v = .agg (manA m A k) ∧ SIn w A k m.sums ∧ ∀ j, -9223372036854775808 ≤ nthM m j ∧ nthM m j ≤ 9223372036854775807 := by
  obtain ⟨cs, rfl, _⟩ := okWide_struct Tryz.underlying26 hval
  obtain ⟨fuel, hf⟩ := h
  obtain ⟨m, A, k, e, hs, hb⟩ := open_man hf
  refine ⟨m, A, k, ?_, hs, hb⟩
  simp [Value.cells] at e
  rw [e]
end Go.Proofs.YtlechjpaldpgnaaGreatDoor
