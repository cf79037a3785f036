/-
  StoreApart in plain words: a store's sectors, what a put and a save leave; the same bytes on another disk. No program here. No conditions.
-/
import Derived.Test.YtnmgkkjnjllpbaaGreatDoorMg16
import Derived.Test.YtnmgkkjnjllpbaaGreatDoorMg37
import Derived.Test.YtnmgkkjnjllpbaaGreatDoorMg19
set_option maxRecDepth 100000
namespace Go.Proofs.YtnmgkkjnjllpbaaGreatDoor
open Go Go.RowKit Pn Dk Sl Ly Tw

namespace StAp
def noT : ByteArray := ⟨#[]⟩
theorem sz20 : szN 20 = 2 := rfl
theorem sz_two {u : ByteArray} (h : u.size ≤ 20) : szN u.size = 2 := by unfold szN; omega
def slotF (n k : Nat) : Nat := fromN 6 20 n k
theorem slotF_eq (n k : Nat) : slotF n k = 8 + k * n * 2 := by unfold slotF fromN; rw [sz20]
/-- The chunk at of the slot k has a text, or none. -/
def Has (F : Nat → UInt8) (n k at_ : Nat) (u : ByteArray) : Prop := (u = noT ∧ numG (sect F (slotF n k + at_ * 2)) = 0) ∨ (1 ≤ u.size ∧ u.size ≤ 20 ∧ ∀ q, q < 2 → ∀ j, j < 32 → sect F (slotF n k + at_ * 2 + q) j = secF 7 (sealL u) q j)
theorem place_in {n k at_ q : Nat} (hk : k < 2) (ha : at_ < n) (hq : q < 2) : 8 ≤ slotF n k + at_ * 2 + q ∧ slotF n k + at_ * 2 + q < 8 + 4 * n := by
  rw [slotF_eq]
  rcases (show k = 0 ∨ k = 1 by omega) with rfl | rfl <;> omega
theorem place_ne {n k k' a a' q q' : Nat} (hk : k < 2) (hk' : k' < 2) (ha : a < n) (ha' : a' < n) (hq : q < 2) (hq' : q' < 2) (h : ¬ (k = k' ∧ a = a')) : slotF n k + a * 2 + q ≠ slotF n k' + a' * 2 + q' := by
  rw [slotF_eq, slotF_eq]
  rcases (show k = 0 ∨ k = 1 by omega) with rfl | rfl <;> rcases (show k' = 0 ∨ k' = 1 by omega) with rfl | rfl <;> omega
theorem Has.keep {F G : Nat → UInt8} {n k a : Nat} {u : ByteArray} (h : Has F n k a u) (hk : k < 2) (ha : a < n) (e : ∀ q, 8 ≤ q → q < 8 + 4 * n → ∀ j, j < 32 → sect G q j = sect F q j) : Has G n k a u := by
  rcases h with ⟨h0, h1⟩ | ⟨h1, h2, h3⟩
  · have hp := place_in (q := 0) hk ha (by decide)
    exact .inl ⟨h0, (numG_congr (e _ hp.1 hp.2)).trans h1⟩
  · refine .inr ⟨h1, h2, fun q hq j hj => ?_⟩
    have hp := place_in hk ha hq
    rw [e _ hp.1 hp.2 j hj]
    exact h3 q hq j hj
/-- What is got of it. -/
theorem Has.got {x : Dk.St} {n k a : Nat} {u : ByteArray} (h : Has x.now n k a u) (ha : a < n) : getK x (slotF n k) (n * szN 20) 20 a = if u = noT then (noT, 0, 5) else (u, 7, 0) := by
  rcases h with ⟨h0, h1⟩ | ⟨h1, h2, h3⟩
  · rw [if_pos h0]
    exact getK_none x _ _ 20 a h1
  · rw [if_neg (fun e => by rw [e] at h1; exact absurd h1 (by decide))]
    refine getK_put x _ _ 20 a 7 u (by decide) (by decide) h2 (by decide) ?_ fun q hq j hj => ?_
    · rw [sz20]; omega
    · rw [sz_two h2] at hq
      exact h3 q hq j hj
/-- A store's sectors: its superblock, its record, its chunks. -/
structure LiesS (x : Dk.St) (n : Nat) (sup : ByteArray) (s : ByteArray) (g side : Nat) (hv : Nat → Nat → ByteArray) : Prop where
  sup : ∀ q, q < 2 → ∀ j, j < 32 → sect x.now q j = secF 1 (sealL sup) q j
  rec_ : Rec x 6 s g side
  has : ∀ k a, k < 2 → a < n → Has x.now n k a (hv k a)
theorem LiesS.congr {x y : Dk.St} {n : Nat} {sup s : ByteArray} {g side : Nat} {hv : Nat → Nat → ByteArray} (h : LiesS x n sup s g side hv) (e : ∀ q, q < 8 + 4 * n → ∀ j, j < 32 → sect y.now q j = sect x.now q j) : LiesS y n sup s g side hv :=
  ⟨fun q hq j hj => (e q (by omega) j hj).trans (h.sup q hq j hj), h.rec_.keep fun q _ h2 j hj => e q (by omega) j hj, fun k a hk ha => (h.has k a hk ha).keep hk ha fun q _ h2 j hj => e q h2 j hj⟩
/-- Behind a save. -/
theorem LiesS.saved {x : Dk.St} {n : Nat} {sup s : ByteArray} {g side : Nat} {hv : Nat → Nat → ByteArray} (h : LiesS x n sup s g side hv) (u : ByteArray) (hu : u.size ≤ 20) (hg : g ≤ 2147483647) :
    LiesS ((x.cleared (Zn.other 2 6 side) (6 / 2)).placed (Zn.other 2 6 side) (g + 1) u) n sup u (g + 1) (1 - side) hv := by
  have hz := sz_two hu
  have hp : szN u.size ≤ 6 / 2 := by omega
  refine ⟨fun q hq j hj => ?_, h.rec_.saved u (by omega) hp hg, fun k a hk ha => (h.has k a hk ha).keep hk ha fun q h1 _ j hj => ?_⟩
  · rw [saved_out x h.rec_.sd u hp q (.inl hq) j hj]
    exact h.sup q hq j hj
  · exact saved_out x h.rec_.sd u hp q (.inr (by omega)) j hj
/-- Behind a put. -/
theorem LiesS.put {x : Dk.St} {n : Nat} {sup s : ByteArray} {g side : Nat} {hv : Nat → Nat → ByteArray} (h : LiesS x n sup s g side hv) (u : ByteArray) (h1 : 1 ≤ u.size) (hu : u.size ≤ 20) {k a : Nat} (hk : k < 2) (ha : a < n) :
    LiesS (x.laid (slotF n k + a * szN 20) (secF 7 (sealL u)) (szN u.size)) n sup s g side (fun k' a' => if k = k' ∧ a = a' then u else hv k' a') := by
  have hz := sz_two hu
  have hp := place_in (q := 0) hk ha (by decide)
  rw [sz20, hz]
  refine ⟨fun q hq j hj => ?_, h.rec_.keep fun q _ h2 j hj => laid_out _ _ _ _ _ (by omega) j hj, fun k' a' hk' ha' => ?_⟩
  · rw [laid_out _ _ _ _ _ (by omega) j hj]
    exact h.sup q hq j hj
  · show Has _ n k' a' (if k = k' ∧ a = a' then u else hv k' a')
    by_cases he : k = k' ∧ a = a'
    · rw [if_pos he]
      obtain ⟨rfl, rfl⟩ := he
      exact .inr ⟨h1, hu, fun q hq j hj => laid_in _ _ _ _ q hq j hj⟩
    · rw [if_neg he]
      have hne : ∀ q, q < 2 → slotF n k' + a' * 2 + q < slotF n k + a * 2 ∨ slotF n k + a * 2 + 2 ≤ slotF n k' + a' * 2 + q := fun q hq => by
        have e0 := place_ne hk hk' ha ha' (show 0 < 2 by decide) hq he
        have e1 := place_ne hk hk' ha ha' (show 1 < 2 by decide) hq he
        omega
      rcases h.has k' a' hk' ha' with ⟨g0, g1⟩ | ⟨g1, g2, g3⟩
      · have := hne 0 (by decide)
        exact .inl ⟨g0, (numG_congr fun j hj => laid_out _ _ _ _ _ (by omega) j hj).trans g1⟩
      · exact .inr ⟨g1, g2, fun q hq j hj => (laid_out _ _ _ _ _ (hne q hq) j hj).trans (g3 q hq j hj)⟩
/-- Behind a format. -/
theorem LiesS.fmt (x : Dk.St) (hx : x.Full) (n : Nat) (sup : ByteArray) (hsup : szN sup.size = 2) : LiesS (x.fmt (8 + 4 * n) 6 noT sup) n sup noT 1 0 (fun _ _ => noT) := by
  refine ⟨fun q hq j hj => ?_, fmt_rec x _ 6 noT sup hsup (by decide) (by decide) (by decide) hx, fun k a hk ha => .inl ⟨rfl, ?_⟩⟩
  · have := laid_in (x.fmt1 (8 + 4 * n) 6 noT) 0 (secF 1 (sealL sup)) (szN sup.size) q (by omega) j hj
    rw [Nat.zero_add] at this
    exact this
  · have hp := place_in (q := 0) hk ha (by decide)
    have h2 : 2 + szN noT.size ≤ 8 := by decide
    exact (numG_congr (g := fun _ => 0) fun j hj => fmt_rest x (8 + 4 * n) 6 noT sup hsup (slotF n k + a * 2) (by omega) (by omega) j hj).trans num_zero
/-- The superblock is got. -/
theorem LiesS.super {x : Dk.St} {n : Nat} {sup s : ByteArray} {g side : Nat} {hv : Nat → Nat → ByteArray} (h : LiesS x n sup s g side hv) (hsup : szN sup.size = 2) (h2 : sup.size ≤ 1024) : getR (rdZ x 0) 2 0 = (sup, 1, 0) :=
  got_keep (x := x) h2 hsup (by decide) (by decide) h.sup fun q _ j _ => rfl
/-- A disk of these bytes. -/
def copyOf (m : Nat) (F : Nat → UInt8) : Dk.St := freshSt m (bs (imgS m F))
theorem copy_sect {m : Nat} {F : Nat → UInt8} {q : Nat} (hq : q < m) (j : Nat) (hj : j < 32) : sect (copyOf m F).now q j = sect F q j := by
  show bs (imgS m F) (q * 32 + j) = F (q * 32 + j)
  unfold bs imgS
  rw [List.getD_eq_getElem?_getD]
  simp [show q * 32 + j < m * 32 by omega]
end StAp
end Go.Proofs.YtnmgkkjnjllpbaaGreatDoor
