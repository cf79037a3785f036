/-
  Law 21's rows of chunks that come in. No conditions.
  The walk of ParcelExact. Conditions: both tables of sha lie as the program's text lays them; the sums and the chunks stand behind their slices.
-/
import Derived.Test.YtlechjpaldpgnaaGreatDoorMg35
import Derived.Test.YtlechjpaldpgnaaGreatDoorMg1
import Derived.Test.YtlechjpaldpgnaaGreatDoorMg31
import Derived.Test.YtlechjpaldpgnaaGreatDoorMg34
import Derived.Test.YtlechjpaldpgnaaGreatDoorMg33
import Derived.Test.YtlechjpaldpgnaaGreatDoorMg25
import Derived.Test.YtlechjpaldpgnaaGreatDoorMg28
import Derived.Deep.Grids
set_option maxRecDepth 100000
namespace Go.Proofs.YtlechjpaldpgnaaGreatDoor
open Go.ChangeShapes Go.WideShapes Go.ChangeAt Go.RowKit

namespace Pc
/-- Chunks behind a slice: places and bytes. -/
def ActsIn (w : World) (A : Option Addr) (len : Nat) (N : Nat → Int) (D : Nat → ByteArray) : Prop := 0 < len → ∃ pb po, A = some ⟨pb, po, none⟩ ∧ ∀ i, i < len → w.cell? ⟨pb, po + i * 2, none⟩ = some (.int .i64 (N i)) ∧ w.cell? ⟨pb, po + i * 2 + 1, none⟩ = some (.string (D i))
theorem ActsIn.keep {w w' : World} {A : Option Addr} {len : Nat} {N : Nat → Int} {D : Nat → ByteArray} (h : ActsIn w A len N D) (hb : Below w.heap.size w w') : ActsIn w' A len N D := fun h0 => by
  obtain ⟨pb, po, e, hc⟩ := h h0
  refine ⟨pb, po, e, fun i hi => ?_⟩
  obtain ⟨h1, h2⟩ := hc i hi
  have hl := block_lt_of_cell h1
  exact ⟨(hb.cell (p := ⟨pb, po + i * 2, none⟩) hl).trans h1, (hb.cell (p := ⟨pb, po + i * 2 + 1, none⟩) hl).trans h2⟩
end Pc
open Pc
section
variable {H : Type} {enc : TypeId × Value → H} {w : World} {base : Nat} {spare : Nat → Bool} {held : Bool}
set_option maxRecDepth 100000 in
theorem open_acts21 {fuel : Nat} {cs : List Value} {x : DataW H × List MemPlace} (h : DataW.trod enc Tryz.prog w base spare held fuel 27 cs = some x) :
    ∃ (A : Option Addr) (len cap : Nat) (N : Nat → Int) (D : Nat → ByteArray), cs = [.slice A len cap] ∧ len ≤ maxLen ∧ ActsIn w A len N D := by
  obtain ⟨fs, hfs, hty⟩ : ∃ fs, Tryz.prog.underlying 46 = some (.struct fs) ∧ fs.toList.map (fun f => (f.type, f.offset)) = [(3, 0), (9, 1)] := ⟨_, Tryz.underlying46, by kernel_rfl⟩
  obtain ⟨f0, r, e0, g0, hr⟩ := List.map_eq_cons_iff.1 hty
  obtain ⟨f1, r, rfl, g1, hr⟩ := List.map_eq_cons_iff.1 hr
  obtain rfl := List.map_eq_nil_iff.1 hr
  simp only [Prod.mk.injEq] at g0 g1
  have hf : ∀ (j : Nat) (f : Field), fs[j]? = some f → (j = 0 ∧ f = f0) ∨ (j = 1 ∧ f = f1) := fun j f hj => by
    rw [← Array.getElem?_toList, e0] at hj
    match j, hj with
    | 0, hj => exact .inl ⟨rfl, (Option.some.inj hj).symm⟩
    | 1, hj => exact .inr ⟨rfl, (Option.some.inj hj).symm⟩
    | j + 2, hj => simp at hj
  have c3 : Tryz.prog.cellsOf 3 = 1 := by kernel_rfl
  have c9 : Tryz.prog.cellsOf 9 = 1 := by kernel_rfl
  have hsz : fs.size = 2 := by rw [← Array.length_toList, e0]; rfl
  obtain ⟨A, len, cap, V, hcs, hl, hm, hV, hC⟩ := open_structs (m := 2) Tryz.underlying27 hfs (by omega) hsz (by kernel_rfl) (fun j f hj => by
    rcases hf j f hj with ⟨rfl, rfl⟩ | ⟨rfl, rfl⟩
    · rw [g0.1, g0.2]; exact ⟨rfl, c3⟩
    · rw [g1.1, g1.2]; exact ⟨rfl, c9⟩) h
  have h0 : ∀ i, i < len → ∃ z, V i 0 = .int .i64 z := fun i hi => by
    obtain ⟨n, y, hy⟩ := hV i hi 0 f0 (by rw [← Array.getElem?_toList, e0]; rfl)
    rw [g0.1] at hy
    obtain ⟨z, hz, _⟩ := one_int Tryz.underlying3 hy
    exact ⟨z, hz⟩
  have h1 : ∀ i, i < len → ∃ s, V i 1 = .string s := fun i hi => by
    obtain ⟨n, y, hy⟩ := hV i hi 1 f1 (by rw [← Array.getElem?_toList, e0]; rfl)
    rw [g1.1] at hy
    obtain ⟨s, hs, _⟩ := one_str Tryz.underlying9 hy
    exact ⟨s, hs⟩
  refine ⟨A, len, cap, fun i => match V i 0 with | .int _ z => z | _ => 0, fun i => match V i 1 with | .string s => s | _ => ⟨#[]⟩, hcs, by omega, fun hp => ?_⟩
  obtain ⟨pb, po, e, hc⟩ := hC hp
  refine ⟨pb, po, e, fun i hi => ?_⟩
  obtain ⟨z, hz⟩ := h0 i hi
  obtain ⟨s, hs⟩ := h1 i hi
  have k0 := hc i hi 0 (by omega)
  have k1 := hc i hi 1 (by omega)
  rw [hz] at k0
  rw [hs] at k1
  simp only [hz, hs]
  exact ⟨k0, k1⟩
end
end Go.Proofs.YtlechjpaldpgnaaGreatDoor
namespace Go.Proofs.YtlechjpaldpgnaaGreatDoor.parcelExact
open Go.ChangeShapes Go.WideShapes Go.ChangeAt Go.RowKit Sh Pn Mf Bt Pc Br Cf

theorem sameM_self (m : Man) : sameM m m = true := by
  unfold sameM
  rw [same_refl, sameL_self]
  simp
/-- Both parcels on their way. -/
structure Ex (w : World) (BP BR : Nat) (m : Man) (p t ct sb ab rp : Nat) (B1 : Option Addr) (c1 rab n : Nat) (q : Nat → ByteArray) (W : World) : Prop where
  pc : Pcl BP W p m (some ⟨t, 0, none⟩) ct sb ab q
  rc : Rcl BR W rp m B1 c1 rab n q
  below : Below w.heap.size w W
  l1 : rp < BP
  l2 : rab < BP
  l3 : 0 < m.sums.length → ∀ ad, B1 = some ad → ad.block < BP
  l4 : w.heap.size ≤ BR
  l5 : BR ≤ BP
section
variable {w W W' : World} {BP BR : Nat} {m : Man} {p t ct sb ab rp : Nat} {B1 : Option Addr} {c1 rab n : Nat} {q r : Nat → ByteArray}
theorem Ex.step (h : Ex w BP BR m p t ct sb ab rp B1 c1 rab n q W) (hb : Below W.heap.size W W') : Ex w BP BR m p t ct sb ab rp B1 c1 rab n q W' :=
  ⟨h.pc.keep hb, h.rc.keep hb, h.below.trans (hb.mono h.below.size), h.l1, h.l2, h.l3, h.l4, h.l5⟩
/-- While the document's parcel has gone ahead. -/
structure Ey (w : World) (BP BR : Nat) (m : Man) (p t ct sb ab rp : Nat) (B1 : Option Addr) (c1 rab n : Nat) (q r : Nat → ByteArray) (W : World) : Prop where
  pc : Pcl BP W p m (some ⟨t, 0, none⟩) ct sb ab q
  rc : Rcl BR W rp m B1 c1 rab n r
  below : Below w.heap.size w W
  l1 : rp < BP
  l2 : rab < BP
  l3 : 0 < m.sums.length → ∀ ad, B1 = some ad → ad.block < BP
  l4 : w.heap.size ≤ BR
  l5 : BR ≤ BP
theorem Ey.step (h : Ey w BP BR m p t ct sb ab rp B1 c1 rab n q r W) (hb : Below W.heap.size W W') : Ey w BP BR m p t ct sb ab rp B1 c1 rab n q r W' :=
  ⟨h.pc.keep hb, h.rc.keep hb, h.below.trans (hb.mono h.below.size), h.l1, h.l2, h.l3, h.l4, h.l5⟩
theorem Ex.ref (h : Ex w BP BR m p t ct sb ab rp B1 c1 rab n q W) (hr : Rcl BR W' rp m B1 c1 rab n r) (ho : Only W W' rab) : Ey w BP BR m p t ct sb ab rp B1 c1 rab n q r W' := by
  have h1 := h.pc.lp
  have h2 := h.pc.ls
  have h3 := h.pc.la
  have h4 := h.pc.lt ⟨t, 0, none⟩ rfl
  have h5 := h.l2
  have h6 := h.rc.la
  have h7 := h.l4
  simp only at h4
  refine ⟨h.pc.beside ho (by omega) (by omega) (by omega) (fun ad e => ?_), hr, h.below.trans (ho.below (B := w.heap.size) (by omega) h.below.size), h.l1, h.l2, h.l3, h.l4, h.l5⟩
  injection e with e
  subst e
  show t ≠ rab
  omega
theorem Ey.prog (h : Ey w BP BR m p t ct sb ab rp B1 c1 rab n q r W) (hp : Pcl BP W' p m (some ⟨t, 0, none⟩) ct sb ab r) (ho : Only2 W W' sb ab) : Ex w BP BR m p t ct sb ab rp B1 c1 rab n r W' := by
  have h2 := h.pc.ls
  have h3 := h.pc.la
  have h4 := h.l1
  have h5 := h.l2
  have h7 := h.l4
  have h8 := h.l5
  exact ⟨hp, h.rc.beside2 ho ⟨by omega, by omega⟩ ⟨by omega, by omega⟩ (fun h0 ad e => by have := h.l3 h0 ad e; exact ⟨by omega, by omega⟩), h.below.trans (ho.below (B := w.heap.size) (by omega) (by omega) h.below.size), h.l1, h.l2, h.l3, h.l4, h.l5⟩
end
/-- How many are there behind a chunk. -/
theorem cnt_put {m : Man} {q : Nat → ByteArray} {a : Int} {d : ByteArray} (n : Nat) (hn : n = m.sums.length) : (putE m q a d = 0 ∧ cnt (hasQ (putS m q a d)) n = cnt (hasQ q) n + 1) ∨ (putE m q a d ≠ 0 ∧ putS m q a d = q) := by
  by_cases h : putE m q a d = 0
  · refine .inl ⟨h, ?_⟩
    have hs : putS m q a d = putQ q a.toNat d := if_pos h
    have hc : checkM m a d = 0 := by
      unfold putE at h
      split at h
      · assumption
      · rename_i h2
        exact absurd h h2
    obtain ⟨i, F⟩ := fits_of hc
    have hu : hasQ q a.toNat = false := by
      cases hu : hasQ q a.toNat with
      | false => rfl
      | true =>
        have h2 : putE m q a d = 9 := (if_pos hc).trans (if_pos hu)
        rw [h2] at h
        cases h
    rw [hs, has_put F.d0]
    have := F.hi
    have h2 := F.ha
    exact cnt_more (hasQ q) hu n (by omega)
  · exact .inr ⟨h, if_neg h⟩
theorem cnt_noQ : ∀ n, cnt (hasQ noQ) n = 0
  | 0 => rfl
  | n + 1 => by rw [cnt_next, cnt_noQ n]; rfl
theorem putS_fit {m : Man} {q : Nat → ByteArray} {a : Int} {d : ByteArray} (h : ∀ i, (q i).size ≤ 256) (i : Nat) : (putS m q a d i).size ≤ 256 := by
  unfold putS
  split
  · rename_i h2
    have hc : checkM m a d = 0 := by
      unfold putE at h2
      split at h2
      · assumption
      · rename_i h3
        exact absurd h2 h3
    obtain ⟨_, F⟩ := fits_of hc
    unfold putQ
    split
    · exact F.d1
    · exact h i
  · exact h i
set_option maxRecDepth 100000 in
set_option maxHeartbeats 12800000 in
theorem walk (m : Man) (A : Option Addr) (k : Nat) (C : Option Addr) (len cap : Nat) (N : Nat → Int) (D : Nat → ByteArray) (w : World) (hT : Tabs w) (hS : SIn w A k m.sums) (hA : ActsIn w C len N D) :
    Calls Tryz.prog 3 #[.agg (manA m A k), .slice C len cap] w fun e w' => e = .returned (.bool true) ∧ Below w.heap.size w w' := by
  have HT := Lib.hid hT
  have HSI := Lib.hid hS
  have HAC := Lib.hid hA
  have HI := Lib.hid (fun m A k => manI m A k)
  have HO := Lib.hid (fun m A k => manA_one m A k)
  have HB0 := Lib.hid ((Below.refl w.heap.size w).alloc (Nat.le_refl _) (.cells (manA m A k) 26))
  have HA0 := Lib.hid (at_new w 26 m A k)
  have HTN := Lib.hid (fun W => show Calls Tryz.prog 20 #[.int .u8 1] W fun e w' => ∃ b, e = .returned (.pointer (some ⟨b, 0, none⟩)) ∧ W.heap.size ≤ b ∧ w'.heap[b]? = some (brO tyC (tyS 1)) ∧ Below W.heap.size W w' from law21_tiny W 1)
  clear hT hS hA
  go_enter Tryz.func3, Tryz.ntmps3
  go_wp2_with (fail)
  refine (awake21 _ (HT.out.below HB0.out)).mono ?_
  rintro e w1 ⟨rfl, b1⟩
  have A1 := Lib.hid (HA0.out.keep b1)
  have B1 := Lib.hid (HB0.out.trans (b1.mono HB0.out.size))
  have e4 := A1.out.sums
  clear b1 HA0 HB0
  by_cases h1 : 70 < m.sums.length
  · have t1 : decide (70 < (m.sums.length : Int)) = true := decide_eq_true (by omega)
    have t2 : decide (70 < m.sums.length) = true := decide_eq_true h1
    clear h1
    go_wp2_with (fail)
    exact bodyPost_ret (results_tmp rfl _ _ _) rfl ⟨rfl, B1.out⟩
  have t1 : decide (70 < (m.sums.length : Int)) = false := decide_eq_false (by omega)
  have t2 : decide (70 < m.sums.length) = false := decide_eq_false h1
  by_cases h2 : 40 < len
  · have t3 : decide (40 < (len : Int)) = true := decide_eq_true (by omega)
    have t4 : decide (40 < len) = true := decide_eq_true h2
    clear h1 h2
    go_wp2_with (fail)
    exact bodyPost_ret (results_tmp rfl _ _ _) rfl ⟨rfl, B1.out⟩
  have t3 : decide (40 < (len : Int)) = false := decide_eq_false (by omega)
  have t4 : decide (40 < len) = false := decide_eq_false h2
  have HLN := Lib.hid (show m.sums.length ≤ 70 ∧ len ≤ 40 by omega)
  have HCM := Lib.hid (show countM m ≤ m.sums.length by unfold countM; split <;> omega)
  have HMC := Lib.hid A1.out.cells
  clear h1 h2
  go_wp2_with (with_reducible refine wpList_load_row rfl 26 _ rfl _ rfl 26 (manA m A k) (0, 0) _ HMC.out Tryz.underlying26 rfl (HI.out m A k) ?_)
  refine (law21_form w1 m A k (HSI.out.keep B1.out) (by have := HLN.out; omega)).mono ?_
  rintro e w2 ⟨B, c, rfl, s2, b2⟩
  have A2 := Lib.hid (A1.out.keep b2)
  have B2 := Lib.hid (B1.out.trans (b2.mono B1.out.size))
  have S2 := Lib.hid s2
  clear s2 b2 e4 A1 B1 HMC t1 t2 t3 t4
  go_wp2_with (fail)
  refine (ref21_new w2 m B c S2.out (by have := HLN.out; have := HCM.out; omega)).mono ?_
  rintro e w3 ⟨rp, rab, rfl, r3, b3⟩
  have A3 := Lib.hid (A2.out.keep b3)
  have B3 := Lib.hid (B2.out.trans (b3.mono B2.out.size))
  have R3 := Lib.hid r3
  have HMC := Lib.hid A3.out.cells
  have HL3 := Lib.hid B2.out.size
  clear r3 b3 A2 B2 S2
  by_cases hc0 : countM m = 0
  · have HF := Lib.hid (fun W => ref20_count W m)
    rw [hc0] at HF
    go_wp2_with (with_reducible refine wpList_load_row rfl 26 _ rfl _ rfl 26 (manA m A k) (0, 0) _ HMC.out Tryz.underlying26 rfl (HI.out m A k) ?_)
    refine (pc_new_not w3 m A k hc0).mono ?_
    rintro e w4 ⟨rfl, b4⟩
    have A4 := Lib.hid (A3.out.keep b4)
    have B4 := Lib.hid (B3.out.trans (b4.mono B3.out.size))
    have HMC4 := Lib.hid A4.out.cells
    clear b4 A3 B3 R3 HMC hc0
    go_wp2_with (with_reducible refine wpList_load_row rfl 26 _ rfl _ rfl 26 (manA m A k) (0, 0) _ HMC4.out Tryz.underlying26 rfl (HI.out m A k) ?_)
    refine (law21_form w4 m A k (HSI.out.keep B4.out) (by have := HLN.out; omega)).mono ?_
    rintro e w5 ⟨B', c', rfl, s5, b5⟩
    have B5 := Lib.hid (B4.out.trans (b5.mono B4.out.size))
    clear b5 s5
    go_wp2_with (fail)
    refine (HF.out _ _ _).mono ?_
    rintro e w6 ⟨rfl, b6⟩
    have B6 := Lib.hid (B5.out.trans (b6.mono B5.out.size))
    clear b6
    go_wp2_with (fail)
    exact bodyPost_ret (results_tmp rfl _ _ _) rfl ⟨rfl, B6.out⟩
  have hcp : 0 < countM m := by omega
  have HCP := Lib.hid hcp
  have HCE := Lib.hid (countM_good hcp).2.2
  go_wp2_with (with_reducible refine wpList_load_row rfl 26 _ rfl _ rfl 26 (manA m A k) (0, 0) _ HMC.out Tryz.underlying26 rfl (HI.out m A k) ?_)
  refine (pc_new w3 m A k hcp (HSI.out.keep B3.out)).mono ?_
  rintro e w4 ⟨p, sb, ab, t, ct, rfl, p4, b4⟩
  have A4 := Lib.hid (A3.out.keep b4)
  have X4 := Lib.hid (show Ex w w3.heap.size w2.heap.size m p t ct sb ab rp B c rab (countM m) noQ w4 from
    ⟨p4, R3.out.keep b4, B3.out.trans (b4.mono B3.out.size), R3.out.hd.lt, R3.out.row.lt, fun h0 ad e => sin_lt R3.out.sin h0 ad e, HL3.out, by
      have h1 := R3.out.lp
      have h2 := R3.out.hd.lt
      omega⟩)
  have HMC4 := Lib.hid A4.out.cells
  clear p4 b4 A3 B3 R3 HMC HL3 hc0 hcp
  generalize w3.heap.size = BP at *
  generalize w2.heap.size = BR at *
  go_wp2_with (with_reducible refine wpList_load_row rfl 26 _ rfl _ rfl 26 (manA m A k) (0, 0) _ HMC4.out Tryz.underlying26 rfl (HI.out m A k) ?_)
  refine (law21_form w4 m A k (HSI.out.keep X4.out.below) (by have := HLN.out; omega)).mono ?_
  rintro e w5 ⟨B', c', rfl, s5, b5⟩
  have A5 := Lib.hid (A4.out.keep b5)
  have X5 := Lib.hid (X4.out.step b5)
  clear b5 s5 A4 X4 HMC4
  go_wp2_with (fail)
  refine (ref20_count w5 m B' c').mono ?_
  rintro e w6 ⟨rfl, b6⟩
  have A6 := Lib.hid (A5.out.keep b6)
  have X6 := Lib.hid (X5.out.step b6)
  clear b6 A5 X5
  have u1 : ((countM m : Int) == 0) = false := beq_eq_false_iff_ne.2 (by have := HCP.out; omega)
  have u2 : (countM m == 0) = false := beq_eq_false_iff_ne.2 (by have := HCP.out; omega)
  generalize hcn : countM m = n at *
  have HKS := Lib.hid (show ∀ W, Below w6.heap.size w6 W → W.rangeAt p 0 (manA m (some ⟨t, 0, none⟩) ct).toList ∧ W.rangeAt w.heap.size 0 (manA m A k).toList from fun W hW => ⟨(X6.out.step hW).pc.hd.man, (A6.out.keep hW).row⟩)
  have HSM := Lib.hid (show ∀ W, Below w6.heap.size w6 W → Calls Tryz.prog 10 #[.agg (manA m (some ⟨t, 0, none⟩) ct), .agg (manA m A k)] W fun e w' => e = .returned (.bool true) ∧ Below W.heap.size W w' from fun W hW => by
    have := mf_same W m (some ⟨t, 0, none⟩) ct m A k (X6.out.step hW).pc.sin (HSI.out.keep (X6.out.step hW).below) (by have := HLN.out; omega)
    rw [sameM_self] at this
    exact this)
  have HIL1 := Lib.hid (pcIL m (some ⟨t, 0, none⟩) ct)
  have HIL2 := Lib.hid (pcIL m A k)
  go_wp2_with (fail)
  have b00 := below_drewN (Below.refl w6.heap.size w6) 1
  have k0 := HKS.out _ b00
  -- HAND
  refine wp_region_noPanic ?_
  refine wp_region_held_drew (S := (fun W : World => W.rangeAt p 0 (manA m (some ⟨t, 0, none⟩) ct).toList ∧ W.rangeAt w.heap.size 0 (manA m A k).toList)) (by kernel_rfl) k0 (fun hHeld => ?_)
  refine wpAnyH_takeAt (i := 0) (v := .int .i64 0) 49 rfl rfl (by kernel_rfl) (by kernel_rfl) (by kernel_rfl) (fun _ _ _ h => h) (Or.inl ⟨by rfl, ?_⟩) hHeld ?_
  · intro W hW
    try dsimp only at hW
    go_simp
  simp only [Act.put, List.setIfInBounds_toArray, List.set_cons_succ, List.set_cons_zero]
  refine wpAnyH_takeAt (i := 1) (v := .bool false) 50 rfl rfl (by kernel_rfl) (by kernel_rfl) (by kernel_rfl) (fun _ _ _ h => h) (Or.inl ⟨by rfl, ?_⟩) hHeld ?_
  · intro W hW
    try dsimp only at hW
    go_simp
  simp only [Act.put, List.setIfInBounds_toArray, List.set_cons_succ, List.set_cons_zero]
  refine wpAnyH_takeAt (i := 2) (v := .bool false) 51 rfl rfl (by kernel_rfl) (by kernel_rfl) (by kernel_rfl) (fun _ _ _ h => h) (Or.inl ⟨by rfl, ?_⟩) hHeld ?_
  · intro W hW
    try dsimp only at hW
    go_simp
  simp only [Act.put, List.setIfInBounds_toArray, List.set_cons_succ, List.set_cons_zero]
  refine wpAnyH_takeAt (i := 3) (v := .pointer (some ⟨p, 0, none⟩)) 52 rfl rfl (by kernel_rfl) (by kernel_rfl) (by kernel_rfl) (fun _ _ _ h => h) (Or.inl ⟨by rfl, ?_⟩) hHeld ?_
  · intro W hW
    try dsimp only at hW
    go_simp
  simp only [Act.put, List.setIfInBounds_toArray, List.set_cons_succ, List.set_cons_zero]
  refine wpAnyH_takeAt (i := 4) (v := .bool false) 53 rfl rfl (by kernel_rfl) (by kernel_rfl) (by kernel_rfl) (fun _ _ _ h => h) (Or.inl ⟨by rfl, ?_⟩) hHeld ?_
  · intro W hW
    try dsimp only at hW
    go_simp
  simp only [Act.put, List.setIfInBounds_toArray, List.set_cons_succ, List.set_cons_zero]
  refine wpAnyH_takeAt (i := 5) (v := .bool false) 54 rfl rfl (by kernel_rfl) (by kernel_rfl) (by kernel_rfl) (fun _ _ _ h => h) (Or.inl ⟨by rfl, ?_⟩) hHeld ?_
  · intro W hW
    try dsimp only at hW
    go_simp
  simp only [Act.put, List.setIfInBounds_toArray, List.set_cons_succ, List.set_cons_zero]
  refine wpAnyH_takeAt (i := 6) (v := .bool false) 55 rfl rfl (by kernel_rfl) (by kernel_rfl) (by kernel_rfl) (fun _ _ _ h => h) (Or.inl ⟨by rfl, ?_⟩) hHeld ?_
  · intro W hW
    try dsimp only at hW
    go_simp
  simp only [Act.put, List.setIfInBounds_toArray, List.set_cons_succ, List.set_cons_zero]
  refine wpAnyH_takeAt (i := 7) (v := .pointer (some ⟨p, 0, none⟩)) 56 rfl rfl (by kernel_rfl) (by kernel_rfl) (by kernel_rfl) (fun _ _ _ h => h) (Or.inl ⟨by rfl, ?_⟩) hHeld ?_
  · intro W hW
    try dsimp only at hW
    go_simp
  simp only [Act.put, List.setIfInBounds_toArray, List.set_cons_succ, List.set_cons_zero]
  refine wpAnyH_takeAt (i := 8) (v := .pointer (some ⟨p, 0, none⟩)) 57 rfl rfl (by kernel_rfl) (by kernel_rfl) (by kernel_rfl) (fun _ _ _ h => h) (Or.inl ⟨by rfl, ?_⟩) hHeld ?_
  · intro W hW
    try dsimp only at hW
    go_simp
  simp only [Act.put, List.setIfInBounds_toArray, List.set_cons_succ, List.set_cons_zero]
  refine wpAnyH_takeAt (i := 9) (v := .pointer (some ⟨p, 0, none⟩)) 58 rfl rfl (by kernel_rfl) (by kernel_rfl) (by kernel_rfl) (fun _ _ _ h => h) (Or.inl ⟨by rfl, ?_⟩) hHeld ?_
  · intro W hW
    try dsimp only at hW
    go_simp
  simp only [Act.put, List.setIfInBounds_toArray, List.set_cons_succ, List.set_cons_zero]
  refine wpAnyH_takeAt (i := 10) (v := .agg (manA m (some ⟨t, 0, none⟩) ct).toList.toArray) 59 rfl rfl (by kernel_rfl) (by kernel_rfl) (by kernel_rfl) (fun _ _ _ h => h) (yieldsIf_load_mid (by rfl) 26 _ rfl p (0) rfl (manA m (some ⟨t, 0, none⟩) ct).toList _ (fun W hW => hW.1) Tryz.underlying26 rfl HIL1.out) hHeld ?_
  simp only [Act.put, List.setIfInBounds_toArray, List.set_cons_succ, List.set_cons_zero]
  refine wpAnyH_takeAt (i := 11) (v := .agg (manA m A k).toList.toArray) 60 rfl rfl (by kernel_rfl) (by kernel_rfl) (by kernel_rfl) (fun _ _ _ h => h) (yieldsIf_load_mid (by rfl) 26 _ rfl w.heap.size (0) rfl (manA m A k).toList _ (fun W hW => hW.2) Tryz.underlying26 rfl HIL2.out) hHeld ?_
  simp only [Act.put, List.setIfInBounds_toArray, List.set_cons_succ, List.set_cons_zero]
  refine wpAnyH_ready (rs := [12]) (by kernel_rfl) (by simp) ?_
  refine AllReadyH.cons rfl (fun K hK => ?_) AllReadyH.nil
  go_simp
  refine (HSM.out _ b00).mono ?_
  rintro e v1 ⟨rfl, bb1⟩
  have hk1 := b00.trans (bb1.mono b00.size)
  clear bb1
  refine hK.out _ _ (HKS.out _ hk1) (fun hHeld2 => ?_)
  clear hK K hHeld
  have hHeld := hHeld2
  clear hHeld2
  try simp only [Act.put, List.setIfInBounds_toArray, List.set_cons_succ, List.set_cons_zero]
  refine wpAnyH_takeAt (i := 13) (v := .bool false) 62 rfl rfl (by kernel_rfl) (by kernel_rfl) (by kernel_rfl) (fun _ _ _ h => h) (Or.inl ⟨by rfl, ?_⟩) hHeld ?_
  · intro W hW
    try dsimp only at hW
    go_simp
  simp only [Act.put, List.setIfInBounds_toArray, List.set_cons_succ, List.set_cons_zero]
  refine wpAnyH_takeAt (i := 14) (v := .bool false) 63 rfl rfl (by kernel_rfl) (by kernel_rfl) (by kernel_rfl) (fun _ _ _ h => h) (Or.inl ⟨by rfl, ?_⟩) hHeld ?_
  · intro W hW
    try dsimp only at hW
    go_simp
  simp only [Act.put, List.setIfInBounds_toArray, List.set_cons_succ, List.set_cons_zero]
  refine wpAnyH_done (by kernel_rfl) ?_ _
  refine NoPanic.normal ?_
  -- DNAH
  have X7 := Lib.hid (X6.out.step hk1)
  clear hk1 b00 k0 HKS HSM X6 A6 hHeld HIL1 HIL2 u1 u2
  go_wp2_with (fail)
  go_loopw [8, 9] (fun x i wr => ∃ (j : Nat) (q : Nat → ByteArray), i = .int .i64 (j : Int) ∧ j ≤ len ∧ x = .int .i64 (cnt (hasQ q) n : Int) ∧ Ex w BP BR m p t ct sb ab rp B c rab n q wr) (fun _ i _ => match i with | .int _ j => len - j.toNat | _ => 0)
  case atStart => exact ⟨0, noQ, rfl, Nat.zero_le _, by rw [cnt_noQ]; rfl, X7.out⟩
  case round =>
    clear X7
    obtain ⟨j, q, rfl, hj, rfl, hx⟩ := hrel
    have HX := Lib.hid hx
    clear hx
    by_cases hlt : j < len
    · have x0 : (j : Int) < (len : Int) := by omega
      have x1 : decide ((j : Int) < (len : Int)) = true := decide_eq_true x0
      have x2 : 0 ≤ (j : Int) := by omega
      have HLT := Lib.hid hlt
      obtain ⟨pb, po, rfl, hc⟩ := HAC.out (by omega)
      obtain ⟨c1, c2⟩ := hc j hlt
      have hpb := block_lt_of_cell c1
      have HKA := Lib.hid (show ∀ W, Below w.heap.size w W → W.cell? ⟨pb, po + j * 2, none⟩ = some (.int .i64 (N j)) ∧ W.cell? ⟨pb, po + j * 2 + 1, none⟩ = some (.string (D j)) from fun W hW => ⟨(hW.cell (p := ⟨pb, po + j * 2, none⟩) hpb).trans c1, (hW.cell (p := ⟨pb, po + j * 2 + 1, none⟩) hpb).trans c2⟩)
      have hw1 := IntWalk.wrap64_in ((j : Int) + 1) (by have := HLN.out; omega)
      have HW1 := Lib.hid hw1
      clear hc c1 c2 hpb hw1 hlt hj
      obtain ⟨d1, d2⟩ := HKA.out _ HX.out.below
      by_cases h3 : 300 < (D j).size
      · have t1 : decide (300 < ((D j).size : Int)) = true := decide_eq_true (by omega)
        have t2 : decide (300 < (D j).size) = true := decide_eq_true h3
        have t3 : (300 : Int) < ((D j).size : Int) := by omega
        clear h3
        go_wp2_with (fail)
        exact bodyPost_ret (results_tmp rfl _ _ _) rfl ⟨rfl, HX.out.below⟩
      · have t1 : decide (300 < ((D j).size : Int)) = false := decide_eq_false (by omega)
        have t2 : decide (300 < (D j).size) = false := decide_eq_false h3
        have t3 : ¬ (300 : Int) < ((D j).size : Int) := by omega
        have HDZ := Lib.hid (show (D j).size ≤ 300 by omega)
        have HRP := Lib.hid (fun W (h : Ex w BP BR m p t ct sb ab rp B c rab n q W) => ref21_put h.rc HCE.out (N j) (D j))
        have HPP := Lib.hid (fun W (h : Ey w BP BR m p t ct sb ab rp B c rab n q (putS m q (N j) (D j)) W) => pc_put h.pc (N j) (D j) (by have := HDZ.out; omega) (HT.out.below h.below))
        have HCQ := Lib.hid (cnt_put (m := m) (q := q) (a := N j) (d := D j) n HCE.out)
        clear h3
        generalize putS m q (N j) (D j) = q' at *
        generalize putE m q (N j) (D j) = E at *
        generalize N j = at' at *
        generalize D j = d at *
        go_wp2_with (fail)
        have XD := Lib.hid (show Ex w BP BR m p t ct sb ab rp B c rab n q wr.drew from HX.out.step (below_drewN (Below.refl wr.heap.size wr) 1))
        have k0 := HKA.out _ XD.out.below
        go_region_held3 (fun W : World => W.cell? ⟨pb, po + j * 2, none⟩ = some (.int .i64 at') ∧ W.cell? ⟨pb, po + j * 2 + 1, none⟩ = some (.string d)) (first | exact k0 | assumption)
          (first | (go_at_call 11; (with_reducible refine (HRP.out _ XD.out).mono ?_); rintro e w8 ⟨rfl, r8, o8⟩; have X8 := Lib.hid (XD.out.ref r8 o8); have k8 := HKA.out _ X8.out.below; clear r8 o8))
        clear k0 k8 d1 d2 XD HX
        go_wp2_with (fail)
        have YD := Lib.hid (show Ey w BP BR m p t ct sb ab rp B c rab n q q' w8.drew from X8.out.step (below_drewN (Below.refl w8.heap.size w8) 1))
        have k0 := HKA.out _ YD.out.below
        go_region_held3 (fun W : World => W.cell? ⟨pb, po + j * 2, none⟩ = some (.int .i64 at') ∧ W.cell? ⟨pb, po + j * 2 + 1, none⟩ = some (.string d)) (first | exact k0 | assumption)
          (first | (go_at_call 12; (with_reducible refine (HPP.out _ YD.out).mono ?_); rintro e w10 ⟨rfl, p10, o10⟩; have X10 := Lib.hid (YD.out.prog p10 o10); have k10 := HKA.out _ X10.out.below; clear p10 o10))
        clear k0 k10 YD X8 HPP HRP
        have hub := cnt_le (hasQ q) n
        have HUB := Lib.hid (show cnt (hasQ q) n ≤ 100 by have := HLN.out; have := HCE.out; omega)
        rcases HCQ.out with ⟨he, hcq⟩ | ⟨he, hsq⟩
        · subst he
          generalize cnt (hasQ q) n = u at *
          have hw2 := IntWalk.wrap64_in ((u : Int) + 1) (by have := HUB.out; omega)
          have HW2 := Lib.hid hw2
          have hcq : ((cnt (hasQ q') n : Nat) : Int) = (u : Int) + 1 := by rw [hcq]; rfl
          cases hv : wholeB q' n
          all_goals
            have HTX := Lib.hid (fun W (h : Ex w BP BR m p t ct sb ab rp B c rab n q' W) => show Calls Tryz.prog 13 #[.pointer (some ⟨p, 0, none⟩)] W fun e w' => e = .returned (.tuple #[.string (textP q' n), .int .i64 (textE q' n)]) ∧ Below W.heap.size W w' from by
              have := pc_text h.pc
              rw [← HCE.out] at this
              exact this)
            have HRT := Lib.hid (fun W (h : Ex w BP BR m p t ct sb ab rp B c rab n q' W) => ref21_text h.rc (by have := h.pc.n2; have := HCE.out; omega) h.pc.fit)
            have HMI := Lib.hid (fun W (h : Ex w BP BR m p t ct sb ab rp B c rab n q' W) => show Calls Tryz.prog 15 #[.pointer (some ⟨p, 0, none⟩)] W fun e w' => e = .returned (.int .i64 (fstB n (hasQ q'))) ∧ Below W.heap.size W w' from by
              have := pc_missing h.pc
              rw [← HCE.out] at this
              exact this)
            have HRM := Lib.hid (fun W (h : Ex w BP BR m p t ct sb ab rp B c rab n q' W) => ref21_missing h.rc (by have := h.pc.n2; have := HCE.out; omega))
            have HWH := Lib.hid (fun W (h : Ex w BP BR m p t ct sb ab rp B c rab n q' W) => show Calls Tryz.prog 17 #[.pointer (some ⟨p, 0, none⟩)] W fun e w' => e = .returned (.bool (wholeB q' n)) ∧ Below W.heap.size W w' from by
              have := pc_whole h.pc
              rw [← HCE.out] at this
              exact this)
            have HHV := Lib.hid (fun W (h : Ex w BP BR m p t ct sb ab rp B c rab n q' W) => show Calls Tryz.prog 18 #[.pointer (some ⟨p, 0, none⟩)] W fun e w' => e = .returned (.int .i64 ((u : Int) + 1)) ∧ Below W.heap.size W w' from by
              have := pc_have h.pc
              rw [← HCE.out, hcq] at this
              exact this)
            rw [hv] at HRT HWH
            have HTE := Lib.hid (show textE q' n = if wholeB q' n = true then 0 else 7 from rfl)
            rw [hv] at HTE
            rw [show textE q' n = _ from HTE.out] at HTX
            simp only [Bool.false_eq_true, if_true, if_false] at HTX
            generalize textP q' n = T at *
            generalize fstB n (hasQ q') = z at *
            clear hv HTE
            go_wp2_with (fail)
            refine (HTX.out _ X10.out).mono ?_
            rintro e w11 ⟨rfl, b11⟩
            have X11 := Lib.hid (X10.out.step b11)
            clear b11
            go_wp2_with (fail)
            refine (HRT.out _ X11.out).mono ?_
            rintro e w12 ⟨rfl, rfl⟩
            go_wp2_with (fail)
            refine (HMI.out _ X11.out).mono ?_
            rintro e w13 ⟨rfl, b13⟩
            have X13 := Lib.hid (X11.out.step b13)
            clear b13
            go_wp2_with (fail)
            refine (HRM.out _ X13.out).mono ?_
            rintro e w14 ⟨rfl, rfl⟩
            go_wp2_with (fail)
            refine (HWH.out _ X13.out).mono ?_
            rintro e w15 ⟨rfl, b15⟩
            have X15 := Lib.hid (X13.out.step b15)
            clear b15
            go_wp2_with (fail)
            refine (HHV.out _ X15.out).mono ?_
            rintro e w16 ⟨rfl, b16⟩
            have X16 := Lib.hid (X15.out.step b16)
            clear b16
            go_wp2_with (fail)
            try rw [HW1.out]
            exact ⟨⟨j + 1, q', rfl, HLT.out, by first | rfl | (rw [hcq]) | (rw [HW2.out, hcq]), X16.out⟩, pcLess j len HLT.out⟩
        · subst hsq
          have tE : (E == 0) = false := beq_eq_false_iff_ne.2 he
          clear he
          generalize hu : cnt (hasQ q') n = u at *
          have hcq : ((cnt (hasQ q') n : Nat) : Int) = (u : Int) := by rw [hu]
          cases hv : wholeB q' n
          all_goals
            have HTX := Lib.hid (fun W (h : Ex w BP BR m p t ct sb ab rp B c rab n q' W) => show Calls Tryz.prog 13 #[.pointer (some ⟨p, 0, none⟩)] W fun e w' => e = .returned (.tuple #[.string (textP q' n), .int .i64 (textE q' n)]) ∧ Below W.heap.size W w' from by
              have := pc_text h.pc
              rw [← HCE.out] at this
              exact this)
            have HRT := Lib.hid (fun W (h : Ex w BP BR m p t ct sb ab rp B c rab n q' W) => ref21_text h.rc (by have := h.pc.n2; have := HCE.out; omega) h.pc.fit)
            have HMI := Lib.hid (fun W (h : Ex w BP BR m p t ct sb ab rp B c rab n q' W) => show Calls Tryz.prog 15 #[.pointer (some ⟨p, 0, none⟩)] W fun e w' => e = .returned (.int .i64 (fstB n (hasQ q'))) ∧ Below W.heap.size W w' from by
              have := pc_missing h.pc
              rw [← HCE.out] at this
              exact this)
            have HRM := Lib.hid (fun W (h : Ex w BP BR m p t ct sb ab rp B c rab n q' W) => ref21_missing h.rc (by have := h.pc.n2; have := HCE.out; omega))
            have HWH := Lib.hid (fun W (h : Ex w BP BR m p t ct sb ab rp B c rab n q' W) => show Calls Tryz.prog 17 #[.pointer (some ⟨p, 0, none⟩)] W fun e w' => e = .returned (.bool (wholeB q' n)) ∧ Below W.heap.size W w' from by
              have := pc_whole h.pc
              rw [← HCE.out] at this
              exact this)
            have HHV := Lib.hid (fun W (h : Ex w BP BR m p t ct sb ab rp B c rab n q' W) => show Calls Tryz.prog 18 #[.pointer (some ⟨p, 0, none⟩)] W fun e w' => e = .returned (.int .i64 (u : Int)) ∧ Below W.heap.size W w' from by
              have := pc_have h.pc
              rw [← HCE.out, hcq] at this
              exact this)
            rw [hv] at HRT HWH
            have HTE := Lib.hid (show textE q' n = if wholeB q' n = true then 0 else 7 from rfl)
            rw [hv] at HTE
            rw [show textE q' n = _ from HTE.out] at HTX
            simp only [Bool.false_eq_true, if_true, if_false] at HTX
            generalize textP q' n = T at *
            generalize fstB n (hasQ q') = z at *
            clear hv HTE
            go_wp2_with (fail)
            refine (HTX.out _ X10.out).mono ?_
            rintro e w11 ⟨rfl, b11⟩
            have X11 := Lib.hid (X10.out.step b11)
            clear b11
            go_wp2_with (fail)
            refine (HRT.out _ X11.out).mono ?_
            rintro e w12 ⟨rfl, rfl⟩
            go_wp2_with (fail)
            refine (HMI.out _ X11.out).mono ?_
            rintro e w13 ⟨rfl, b13⟩
            have X13 := Lib.hid (X11.out.step b13)
            clear b13
            go_wp2_with (fail)
            refine (HRM.out _ X13.out).mono ?_
            rintro e w14 ⟨rfl, rfl⟩
            go_wp2_with (fail)
            refine (HWH.out _ X13.out).mono ?_
            rintro e w15 ⟨rfl, b15⟩
            have X15 := Lib.hid (X13.out.step b15)
            clear b15
            go_wp2_with (fail)
            refine (HHV.out _ X15.out).mono ?_
            rintro e w16 ⟨rfl, b16⟩
            have X16 := Lib.hid (X15.out.step b16)
            clear b16
            go_wp2_with (fail)
            try rw [HW1.out]
            exact ⟨⟨j + 1, q', rfl, HLT.out, by first | rfl | (rw [hcq]) | (rw [HW2.out, hcq]), X16.out⟩, pcLess j len HLT.out⟩
    · have hje : j = len := by omega
      subst hje
      have x0 : ¬ (j : Int) < (j : Int) := by omega
      have x1 : decide ((j : Int) < (j : Int)) = false := decide_eq_false x0
      have X8 := HX.out
      clear HX
      have HX := Lib.hid X8.below
      clear X8
      go_wp2_with (fail)
      refine (pc_text_nil _).mono ?_
      rintro e w8 ⟨rfl, rfl⟩
      go_wp2_with (fail)
      refine (HTN.out _).mono ?_
      rintro e w9 ⟨b, rfl, _, _, b9⟩
      have HX9 := Lib.hid (HX.out.trans (b9.mono HX.out.size))
      clear b9
      go_wp2_with (fail)
      refine (pc_mbuild_nil _ _).mono ?_
      rintro e w10 ⟨rfl, rfl⟩
      go_wp2_with (fail)
      refine (pc_put_nil _ _ _).mono ?_
      rintro e w11 ⟨rfl, rfl⟩
      go_wp2_with (fail)
      refine (pc_missing_nil _).mono ?_
      rintro e w12 ⟨rfl, rfl⟩
      go_wp2_with (fail)
      refine (pc_whole_nil _).mono ?_
      rintro e w13 ⟨rfl, rfl⟩
      go_wp2_with (fail)
      refine (pc_have_nil _).mono ?_
      rintro e w14 ⟨rfl, rfl⟩
      go_wp2_with (fail)
      exact bodyPost_ret (results_tmp rfl _ _ _) rfl ⟨rfl, HX9.out⟩
end Go.Proofs.YtlechjpaldpgnaaGreatDoor.parcelExact
