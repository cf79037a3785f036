/-
  A row of deeds that comes in: each lies in its 37 cells. No conditions.
-/
import Derived.Test.YtdadcpkkpopbcaaPenDigV
import Derived.OpenShut
import Derived.Deep.Slices
import Derived.Deep.MidRow
namespace Go.Proofs.Ytdadcpkkpopbcaa
open Go.ChangeShapes Go.WideShapes Go.ChangeAt Go.RowKit Pn

/-- A deed's cells. -/
def actC (k n m : Int) (s : ByteArray) (b : UInt8) (f : Nat → UInt8) : Array Value := #[.int .i64 k, .int .i64 n, .int .i64 m, .string s, .int .u8 (b.toNat : Int)] ++ dgV f
theorem dgV_size (f : Nat → UInt8) : (dgV f).size = 32 := vals_size 32 _
theorem actC_size (k n m : Int) (s : ByteArray) (b : UInt8) (f : Nat → UInt8) : (actC k n m s b f).size = 37 := by unfold actC; rw [Array.size_append, dgV_size]; rfl
theorem actC_one (k n m : Int) (s : ByteArray) (b : UInt8) (f : Nat → UInt8) : (actC k n m s b f).all (·.oneCell') = true := by
  unfold actC
  rw [Array.all_append, dgO]
  simp [Value.oneCell']
theorem actC_low (k n m : Int) (s : ByteArray) (b : UInt8) (f : Nat → UInt8) (j : Nat) (hj : j < 5) : (actC k n m s b f)[j]? = (#[.int .i64 k, .int .i64 n, .int .i64 m, .string s, .int .u8 (b.toNat : Int)] : Array Value)[j]? := by
  unfold actC; rw [Array.getElem?_append_left (by simpa using hj)]
theorem actC_high (k n m : Int) (s : ByteArray) (b : UInt8) (f : Nat → UInt8) (j : Nat) : (actC k n m s b f)[5 + j]? = (dgV f)[j]? := by
  unfold actC
  rw [Array.getElem?_append_right (by simp)]
  congr 1
  simp
theorem actI (k n m : Int) (s : ByteArray) (b : UInt8) (f : Nat → UInt8) : (Try.prog.info? 31).map (·.size) = some (actC k n m s b f).size := by rw [actC_size]; kernel_rfl
section
variable {H : Type} {enc : TypeId × Value → H} {P : Program} {w : World} {base : Nat} {spare : Nat → Bool} {held : Bool}
theorem open_dig {t e : TypeId} {fuel : Nat} {cs : List Value} {x : DataW H × List MemPlace} (ht : P.underlying t = some (.array 32 e)) (he : P.underlying e = some (.int .u8)) (hc : P.cellsOf e = 1) (h32 : P.cellsOf t = 32)
    (h : DataW.trod enc P w base spare held fuel t cs = some x) : ∃ f : Nat → UInt8, cs = (dgV f).toList := by
  obtain ⟨xs, m, _, _, hl, hx, hf⟩ := DataW.trod_array ht h
  rw [h32] at hl
  have each : ∀ i, i < 32 → ∃ b : UInt8, cs[i]? = some (.int .u8 (b.toNat : Int)) := fun i hi => by
    have h1 := hf i hi
    rw [hc, Nat.mul_one, List.getElem?_eq_getElem (by omega)] at h1
    obtain ⟨n, h2, _, h3⟩ := DataW.trod_int he h1
    rw [List.drop_eq_getElem_cons (by omega)] at h2
    simp only [List.take_succ_cons, List.take_zero] at h2
    injection h2 with h2
    have hb : 0 ≤ n ∧ n ≤ 255 := by simpa [Lit.wf, IntKind.min, IntKind.max, IntKind.signed, IntKind.bits] using h3
    refine ⟨UInt8.ofNat n.toNat, ?_⟩
    rw [List.getElem?_eq_getElem (by omega), h2, UInt8.toNat_ofNat']
    congr 2
    omega
  obtain ⟨f, hfx⟩ := Go.Deep.choose_lt each
  refine ⟨f, ?_⟩
  apply List.ext_getElem?
  intro i
  by_cases hi : i < 32
  · rw [hfx i hi, Array.getElem?_toList]
    exact (vals_get 32 (fun j => Value.int .u8 ((f j).toNat : Int)) i hi).symm
  · rw [List.getElem?_eq_none (by omega), Array.getElem?_toList, Array.getElem?_eq_none (by rw [dgV_size]; omega)]
theorem take_one {cs : List Value} {k c : Nat} {v : Value} (h : (cs.drop k).take c = [v]) (hc : c = 1) : cs[k]? = some v := by
  subst hc
  have : ((cs.drop k).take 1)[0]? = some v := by rw [h]; rfl
  rw [List.getElem?_take, if_pos (by omega), List.getElem?_drop] at this
  exact this
end
theorem open_act {H : Type} {enc : TypeId × Value → H} {w : World} {base : Nat} {spare : Nat → Bool} {held : Bool} {fuel : Nat} {cs : List Value} {x : DataW H × List MemPlace} (h : DataW.trod enc Try.prog w base spare held fuel 31 cs = some x) :
    ∃ (k n m : Int) (s : ByteArray) (b : UInt8) (f : Nat → UInt8), (-9223372036854775808 ≤ n ∧ n ≤ 9223372036854775807) ∧ (-9223372036854775808 ≤ m ∧ m ≤ 9223372036854775807) ∧ cs = (actC k n m s b f).toList := by
  obtain ⟨xs, q, _, _, hl, hxl, hf⟩ := DataW.trod_struct Try.underlying31 h
  have c37 : Try.prog.cellsOf 31 = 37 := by kernel_rfl
  have cI : Try.prog.cellsOf 3 = 1 := by kernel_rfl
  have cS : Try.prog.cellsOf 9 = 1 := by kernel_rfl
  have cB : Try.prog.cellsOf 5 = 1 := by kernel_rfl
  have cD : Try.prog.cellsOf 29 = 32 := by kernel_rfl
  rw [c37] at hl
  have hx : ∀ j, j < 6 → ∃ y, xs[j]? = some y := fun j hj => ⟨_, List.getElem?_eq_getElem (show j < xs.length by rw [hxl]; exact hj)⟩
  obtain ⟨y0, e0⟩ := hx 0 (by omega)
  obtain ⟨y1, e1⟩ := hx 1 (by omega)
  obtain ⟨y2, e2⟩ := hx 2 (by omega)
  obtain ⟨y3, e3⟩ := hx 3 (by omega)
  obtain ⟨y4, e4⟩ := hx 4 (by omega)
  obtain ⟨y5, e5⟩ := hx 5 (by omega)
  have g0 := (hf 0 _ rfl).trans e0
  have g1 := (hf 1 _ rfl).trans e1
  have g2 := (hf 2 _ rfl).trans e2
  have g3 := (hf 3 _ rfl).trans e3
  have g4 := (hf 4 _ rfl).trans e4
  have g5 := (hf 5 _ rfl).trans e5
  obtain ⟨k, a0, _, _⟩ := DataW.trod_int Try.underlying3 g0
  obtain ⟨n, a1, _, w1⟩ := DataW.trod_int Try.underlying3 g1
  obtain ⟨m, a2, _, w2⟩ := DataW.trod_int Try.underlying3 g2
  obtain ⟨s, a3, _, _⟩ := DataW.trod_string Try.underlying9 g3
  obtain ⟨b, a4, _, wb⟩ := DataW.trod_int Try.underlying5 g4
  obtain ⟨f, a5⟩ := open_dig Try.underlying29 Try.underlying5 cB cD g5
  have a5 : (cs.drop 5).take 32 = (dgV f).toList := by rw [← a5]; exact congrArg (fun c => (cs.drop 5).take c) cD.symm
  have hb : 0 ≤ b ∧ b ≤ 255 := by simpa [Lit.wf, IntKind.min, IntKind.max, IntKind.signed, IntKind.bits] using wb
  have hbb : ((UInt8.ofNat b.toNat).toNat : Int) = b := by rw [UInt8.toNat_ofNat']; omega
  have c0 := take_one a0 cI
  have c1 := take_one a1 cI
  have c2 := take_one a2 cI
  have c3 := take_one a3 cS
  have c4 := take_one a4 cB
  have bn : -9223372036854775808 ≤ n ∧ n ≤ 9223372036854775807 := by simpa [Lit.wf, IntKind.min, IntKind.max, IntKind.signed, IntKind.bits] using w1
  have bm : -9223372036854775808 ≤ m ∧ m ≤ 9223372036854775807 := by simpa [Lit.wf, IntKind.min, IntKind.max, IntKind.signed, IntKind.bits] using w2
  refine ⟨k, n, m, s, UInt8.ofNat b.toNat, f, bn, bm, ?_⟩
  apply List.ext_getElem?
  intro j
  have ht : (actC k n m s (UInt8.ofNat b.toNat) f).toList[j]? = (actC k n m s (UInt8.ofNat b.toNat) f)[j]? := Array.getElem?_toList
  rw [ht]
  clear ht
  by_cases h5 : j < 5
  · rw [actC_low _ _ _ _ _ _ _ h5, hbb]
    match j, h5 with
    | 0, _ => exact c0
    | 1, _ => exact c1
    | 2, _ => exact c2
    | 3, _ => exact c3
    | 4, _ => exact c4
  · obtain ⟨i, rfl⟩ : ∃ i, j = 5 + i := ⟨j - 5, by omega⟩
    rw [actC_high]
    by_cases hi : i < 32
    · have h1 : ((cs.drop 5).take 32)[i]? = (dgV f).toList[i]? := by rw [a5]
      rw [List.getElem?_take, if_pos hi, List.getElem?_drop] at h1
      exact h1.trans Array.getElem?_toList
    · rw [List.getElem?_eq_none (by omega), Array.getElem?_eq_none (by rw [dgV_size]; omega)]
set_option maxHeartbeats 2000000 in
theorem open_acts_b {H : Type} {enc : TypeId × Value → H} {w : World} {base : Nat} {spare : Nat → Bool} {held : Bool} {fuel : Nat} {cs : List Value} {x : DataW H × List MemPlace} (h : DataW.trod enc Try.prog w base spare held fuel 22 cs = some x) :
    ∃ (A : Option Addr) (len cap : Nat) (C : Nat → Array Value), cs = [.slice A len cap] ∧ len ≤ cap ∧ cap ≤ maxLen ∧ (∀ i, i < len → ∃ (k n m : Int) (s : ByteArray) (b : UInt8) (f : Nat → UInt8), (-9223372036854775808 ≤ n ∧ n ≤ 9223372036854775807) ∧ (-9223372036854775808 ≤ m ∧ m ≤ 9223372036854775807) ∧ C i = actC k n m s b f) ∧
      (0 < len → ∃ b o, A = some ⟨b, o, none⟩ ∧ ∀ i, i < len → w.rangeAt b (o + 37 * i) (C i).toList) := by
  rcases Go.Deep.open_slice Try.underlying22 h with ⟨h0, _⟩ | ⟨a, len, cap, m, n, D, Pl, hcs, _, hl, hm, hmm, _, hx⟩
  · exact ⟨none, 0, 0, fun _ => #[], h0, by omega, by omega, fun i hi => by omega, fun h => by omega⟩
  have hlm : len ≤ m := by rw [hmm]; split <;> omega
  have c37 : Try.prog.cellsOf 31 = 37 := by kernel_rfl
  obtain ⟨b, o, sp⟩ := a
  by_cases hz : len = 0
  · exact ⟨_, len, cap, fun _ => #[], hcs, hl, hm, fun i hi => by omega, fun h => by omega⟩
  have each : ∀ i, i < len → ∃ C : Array Value, (∃ (k n m : Int) (s : ByteArray) (b : UInt8) (f : Nat → UInt8), (-9223372036854775808 ≤ n ∧ n ≤ 9223372036854775807) ∧ (-9223372036854775808 ≤ m ∧ m ≤ 9223372036854775807) ∧ C = actC k n m s b f) ∧ ∀ j v, C.toList[j]? = some v → w.cell? ((⟨b, o, sp⟩ : Addr).add (i * 37 + j)) = some v := fun i hi => by
    obtain ⟨cs', h1, h2⟩ := hx i (by omega)
    have h3 := open_act h2
    obtain ⟨k, n, m, s, bb, f, bn, bm, e3⟩ := h3
    rw [e3] at h1
    clear h2
    refine ⟨actC k n m s bb f, ⟨k, n, m, s, bb, f, bn, bm, rfl⟩, fun j v hj => ?_⟩
    have h4 := World.cells?_some h1
    have hat := h4.2.2
    clear h4
    rw [c37] at hat
    have hjl : j < 37 := by
      have := (List.getElem?_eq_some_iff.1 hj).1
      rwa [Array.length_toList, actC_size] at this
    rw [← Go.Deep.add_add, hat j hjl, hj]
  obtain ⟨C, hC⟩ := Go.Deep.choose_lt each
  have hC00 := hC 0 (by omega)
  obtain ⟨k, n', m', s, bb, f, _, _, hC0⟩ := hC00.1
  have hC1 := hC00.2
  have h00 : w.cell? ((⟨b, o, sp⟩ : Addr).add (0 * 37 + 0)) = some (.int .i64 k) := hC1 0 _ (by rw [hC0, Array.getElem?_toList, actC_low _ _ _ _ _ _ _ (by omega)]; rfl)
  simp [Addr.add] at h00
  obtain rfl : sp = none := World.cell?_spot h00
  refine ⟨_, len, cap, C, hcs, hl, hm, fun i hi => (hC i hi).1, fun _ => ⟨b, o, rfl, fun i hi j v hj => ?_⟩⟩
  have := (hC i hi).2 j v hj
  rw [Addr.add_lit] at this
  rw [show o + 37 * i + j = o + (i * 37 + j) by omega]
  exact this
theorem open_acts {H : Type} {enc : TypeId × Value → H} {w : World} {base : Nat} {spare : Nat → Bool} {held : Bool} {fuel : Nat} {cs : List Value} {x : DataW H × List MemPlace} (h : DataW.trod enc Try.prog w base spare held fuel 22 cs = some x) :
    ∃ (A : Option Addr) (len cap : Nat) (C : Nat → Array Value), cs = [.slice A len cap] ∧ len ≤ cap ∧ cap ≤ maxLen ∧ (∀ i, i < len → ∃ (k n m : Int) (s : ByteArray) (b : UInt8) (f : Nat → UInt8), C i = actC k n m s b f) ∧
      (0 < len → ∃ b o, A = some ⟨b, o, none⟩ ∧ ∀ i, i < len → w.rangeAt b (o + 37 * i) (C i).toList) := by
  obtain ⟨A, len, cap, C, h1, h2, h3, h4, h5⟩ := open_acts_b h
  exact ⟨A, len, cap, C, h1, h2, h3, fun i hi => let ⟨k, n, m, s, b, f, _, _, e⟩ := h4 i hi; ⟨k, n, m, s, b, f, e⟩, h5⟩
end Go.Proofs.Ytdadcpkkpopbcaa
