/-
  A disk that is laid out, in plain words: its superblock, its record, what a save leaves; what stands where nothing was written. No program here. No conditions.
-/
import Derived.Test.YtnmgkkjnjllpbaaGreatDoorMg15
set_option maxRecDepth 100000
namespace Go.Proofs.YtnmgkkjnjllpbaaGreatDoor
open Go Go.RowKit Pn Dk Sl Ly Tw

namespace Ly
/-- A record of r sectors, from 2 on: the last copy, and the other one. -/
structure Rec (x : Dk.St) (r : Nat) (s : ByteArray) (g side : Nat) : Prop where
  size : s.size ≤ 1024
  fits : szN s.size ≤ r / 2
  one : 1 ≤ g
  sd : side < 2
  cur : Whole x.now (2 + side * (r / 2)) s g
  old : Old x.now (2 + (1 - side) * (r / 2)) g (r / 2)
theorem Rec.opens {x : Dk.St} {r g side : Nat} {s : ByteArray} (h : Rec x r s g side) (hg : g ≤ 2147483647) : acc x 2 r 2 = (s, g, side) := Tw.opens h.size h.fits h.one h.cur h.old h.sd rfl rfl rfl hg
theorem Old.congr {F H : Nat → UInt8} {o gen lim : Nat} (h : Old F o gen lim) (e : ∀ i, i < lim → ∀ j, j < 32 → sect H (o + i) j = sect F (o + i) j) : Old H o gen lim := h.zeroed fun i hi => .inr (e i hi)
theorem side_in {r side i : Nat} (hs : side < 2) (hi : i < r / 2) : 2 ≤ 2 + side * (r / 2) + i ∧ 2 + side * (r / 2) + i < 2 + r := by
  have : side * (r / 2) ≤ 1 * (r / 2) := Nat.mul_le_mul_right _ (by omega)
  omega
/-- A record is as it was, where its sectors are. -/
theorem Rec.keep {x y : Dk.St} {r g side : Nat} {s : ByteArray} (h : Rec x r s g side) (e : ∀ q, 2 ≤ q → q < 2 + r → ∀ j, j < 32 → sect y.now q j = sect x.now q j) : Rec y r s g side := by
  have hf := h.fits
  refine ⟨h.size, h.fits, h.one, h.sd, h.cur.congr fun i hi j hj => ?_, Old.congr h.old fun i hi j hj => ?_⟩
  · have := side_in (r := r) h.sd (show i < r / 2 by omega)
    exact e _ this.1 this.2 j hj
  · have := side_in (r := r) (side := 1 - side) (by omega) hi
    exact e _ this.1 this.2 j hj
theorem sides_apart {r side i j : Nat} (hs : side < 2) (hi : i < r / 2) (hj : j < r / 2) : 2 + side * (r / 2) + i ≠ 2 + (1 - side) * (r / 2) + j := by
  rcases (show side = 0 ∨ side = 1 by omega) with rfl | rfl
  · simp only [Nat.zero_mul, Nat.sub_zero, Nat.one_mul]; omega
  · simp only [Nat.one_mul, Nat.sub_self, Nat.zero_mul]; omega
/-- Behind a save. -/
theorem Rec.saved {x : Dk.St} {r g side : Nat} {s : ByteArray} (h : Rec x r s g side) (u : ByteArray) (hu : u.size ≤ 1024) (hp : szN u.size ≤ r / 2) (hg : g ≤ 2147483647) :
    Rec ((x.cleared (Zn.other 2 r side) (r / 2)).placed (Zn.other 2 r side) (g + 1) u) r u (g + 1) (1 - side) := by
  have hsd := h.sd
  have hf := h.fits
  have hh := h.one
  have ho : Zn.other 2 r side = 2 + (1 - side) * (r / 2) := rfl
  have e1 : 1 - (1 - side) = side := by omega
  rw [ho]
  refine ⟨hu, hp, by omega, by omega, fun i hi j hj => laid_in _ _ _ _ i hi j hj, ?_⟩
  rw [e1]
  refine ⟨s, g, ⟨h.size, h.one, hg, fun i hi => .inr fun j hj => ?_⟩, h.fits, .inl (by omega)⟩
  have hne : ∀ q, q < r / 2 → 2 + side * (r / 2) + i ≠ 2 + (1 - side) * (r / 2) + q := fun q hq => sides_apart hsd (by omega) hq
  have hout : ∀ m, m ≤ r / 2 → (2 + side * (r / 2) + i < 2 + (1 - side) * (r / 2) ∨ 2 + (1 - side) * (r / 2) + m ≤ 2 + side * (r / 2) + i) := fun m hm => by
    rcases (show side = 0 ∨ side = 1 by omega) with rfl | rfl
    · simp only [Nat.zero_mul, Nat.sub_zero, Nat.one_mul]; omega
    · simp only [Nat.one_mul, Nat.sub_self, Nat.zero_mul]; omega
  show sect ((x.filled (2 + (1 - side) * (r / 2)) (fun _ => 0) (r / 2)).burnt.synced.laid (2 + (1 - side) * (r / 2)) (secF (g + 1) (sealL u)) (szN u.size)).now _ j = _
  rw [laid_out _ _ _ _ _ (hout _ hp) j hj]
  show sect (x.filled (2 + (1 - side) * (r / 2)) (fun _ => 0) (r / 2)).now _ j = _
  rw [filled_out _ _ _ _ _ (hout _ (Nat.le_refl _)) j hj]
  exact h.cur i hi j hj
/-- A save leaves all other sectors. -/
theorem saved_out (x : Dk.St) {r g side : Nat} (hs : side < 2) (u : ByteArray) (hp : szN u.size ≤ r / 2) (q : Nat) (hq : q < 2 ∨ 2 + r ≤ q) (j : Nat) (hj : j < 32) :
    sect ((x.cleared (Zn.other 2 r side) (r / 2)).placed (Zn.other 2 r side) (g + 1) u).now q j = sect x.now q j := by
  have ho : Zn.other 2 r side = 2 + (1 - side) * (r / 2) := rfl
  have hm : (1 - side) * (r / 2) ≤ 1 * (r / 2) := Nat.mul_le_mul_right _ (by omega)
  rw [ho]
  show sect ((x.filled (2 + (1 - side) * (r / 2)) (fun _ => 0) (r / 2)).burnt.synced.laid (2 + (1 - side) * (r / 2)) (secF (g + 1) (sealL u)) (szN u.size)).now q j = _
  rw [laid_out _ _ _ _ _ (by omega) j hj]
  show sect (x.filled (2 + (1 - side) * (r / 2)) (fun _ => 0) (r / 2)).now q j = _
  rw [filled_out _ _ _ _ _ (by omega) j hj]
theorem saved_full {x : Dk.St} (h : x.Full) (o n g : Nat) (u : ByteArray) : ((x.cleared o n).placed o g u).Full :=
  (full_synced (x := ((x.cleared o n).laid o (secF g (sealL u)) (szN u.size)).burnt) (laid_full _ _ _ (full_synced (x := (x.filled o (fun _ => 0) n).burnt) (filled_full2 x o _ h n)).1 _)).1
section
variable (x : Dk.St) (nd r : Nat) (s sup : ByteArray) (hsup : szN sup.size = 2) (hr4 : 4 ≤ r) (hs : s.size ≤ 1024) (hp : szN s.size ≤ r / 2) (hnd : 2 + r ≤ nd)
/-- Behind a format: the superblock. -/
theorem fmt_super (h2 : sup.size ≤ 1024) (hsup : szN sup.size = 2) : getR (rdZ (x.fmt nd r s sup) 0) 2 0 = (sup, 1, 0) :=
  Sl.got (num := 1) (by decide) (by decide) h2 (by rw [hsup]; decide) fun i hi j hj => by
    show sect ((x.fmt1 nd r s).laid 0 (secF 1 (sealL sup)) (szN sup.size)).now (0 + (0 + i)) j = _
    rw [Nat.zero_add]
    exact laid_in _ _ _ _ i hi j hj
include hsup hs hp hr4
theorem fmt_rec (hx : x.Full) : Rec (x.fmt nd r s sup) r s 1 0 := by
  have hP := formatted (x := x.filled 0 (fun _ => 0) nd) (filled_full2 x 0 _ hx nd) (f := 2) (n := r) hs hp hr4 (x.fmt1 nd r s) rfl
  have h1 : Rec (x.fmt1 nd r s) r s 1 0 := ⟨hs, hp, by decide, by decide, by rw [Nat.zero_mul, Nat.add_zero]; exact hP.cur, by rw [Nat.sub_zero, Nat.one_mul]; exact hP.old⟩
  refine h1.keep fun q h2 _ j hj => ?_
  show sect ((x.fmt1 nd r s).laid 0 (secF 1 (sealL sup)) (szN sup.size)).now q j = _
  exact laid_out _ _ _ _ _ (by omega) j hj
omit hr4 hs hp in
/-- Behind a format: all else of it is nothing. -/
theorem fmt_rest (q : Nat) (h2 : 2 + szN s.size ≤ q) (hq : q < nd) (j : Nat) (hj : j < 32) : sect (x.fmt nd r s sup).now q j = 0 := by
  show sect ((x.fmt1 nd r s).laid 0 (secF 1 (sealL sup)) (szN sup.size)).now q j = _
  rw [laid_out _ _ _ _ _ (by omega) j hj]
  show sect ((x.fmt0 nd r).laid 2 (secF 1 (sealL s)) (szN s.size)).now q j = _
  rw [laid_out _ _ _ _ _ (by omega) j hj]
  by_cases hr : q < 2 + r
  · have := filled_in (x.filled 0 (fun _ => 0) nd) 2 (fun _ => 0) r (q - 2) (by omega) j hj
    rw [show 2 + (q - 2) = q by omega] at this
    exact this
  · show sect ((x.filled 0 (fun _ => 0) nd).filled 2 (fun _ => 0) r).now q j = _
    rw [filled_out _ _ _ _ _ (by omega) j hj]
    have := filled_in x 0 (fun _ => 0) nd q (by omega) j hj
    rw [Nat.zero_add] at this
    exact this
end
theorem fmt_full {x : Dk.St} (hx : x.Full) (nd r : Nat) (s sup : ByteArray) : (x.fmt nd r s sup).Full := by
  have h0 : (x.fmt0 nd r).Full := filled_full2 _ 2 _ (filled_full2 x 0 _ hx nd) r
  have h1 : (x.fmt1 nd r s).Full := (full_synced (x := ((x.fmt0 nd r).laid 2 (secF 1 (sealL s)) (szN s.size)).burnt) (laid_full _ _ _ h0 _)).1
  exact (full_synced (x := ((x.fmt1 nd r s).laid 0 (secF 1 (sealL sup)) (szN sup.size)).burnt) (laid_full _ _ _ h1 _)).1
end Ly
end Go.Proofs.YtnmgkkjnjllpbaaGreatDoor
