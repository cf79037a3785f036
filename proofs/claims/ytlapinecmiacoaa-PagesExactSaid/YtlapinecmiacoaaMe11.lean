/-
  Plain numbers of layer 14: gates, and what goes through them. No program here. No conditions but those of each lemma.
-/
import Derived.Test.YtlapinecmiacoaaMe6
set_option maxRecDepth 100000
namespace Go.Proofs.Ytlapinecmiacoaa.Ac
open Go.RowKit Nm

/-- The table, a number's place in it, its gate, what goes through a gate, a row through the gates of another one. -/
def tab : List Int := [5, 8, 12, 19, 31, 47, 69, 97, 128, 159, 187, 209, 225, 237, 244, 248, 251]
def tabZ (i : Nat) : Int := tab.getD i 0
def placeN (n : Int) : Nat := (clamp (8 + div n 32) 0 16).toNat
def gate (n : Int) : Int := tabZ (placeN n)
def thr (g x : Int) : Int := mul x (gate g) 8
def pairsL (gs zs : List Int) : List Int := if gs.length = zs.length then (List.range zs.length).map fun i => thr (gs.getD i 0) (zs.getD i 0) else []
theorem pairsL_same {gs zs : List Int} (h : gs.length = zs.length) : pairsL gs zs = (List.range zs.length).map fun i => thr (gs.getD i 0) (zs.getD i 0) := if_pos h
theorem pairsL_not {gs zs : List Int} (h : gs.length ≠ zs.length) : pairsL gs zs = [] := if_neg h
theorem pairsL_length {gs zs : List Int} (h : gs.length = zs.length) : (pairsL gs zs).length = zs.length := by simp [pairsL_same h]
theorem pairsL_at {gs zs : List Int} (h : gs.length = zs.length) (i : Nat) (hi : i < zs.length) : (pairsL gs zs).getD i 0 = thr (gs.getD i 0) (zs.getD i 0) := by
  rw [pairsL_same h, List.getD_eq_getElem?_getD, List.getElem?_map, List.getElem?_range hi]
  rfl
theorem pairsL_one (g x : Int) : pairsL [g] [x] = [thr g x] := rfl
/-- Numbers that an int holds. -/
def FitL (zs : List Int) : Prop := ∀ i, i < zs.length → Fits (zs.getD i 0)
theorem FitL.take {zs : List Int} (h : FitL zs) (k : Nat) : FitL (zs.take k) := fun i hi => by
  rw [List.length_take] at hi
  have := h i (by omega)
  rwa [List.getD_eq_getElem?_getD, List.getElem?_take_of_lt (by omega), ← List.getD_eq_getElem?_getD]
theorem FitL.drop {zs : List Int} (h : FitL zs) (k : Nat) : FitL (zs.drop k) := fun i hi => by
  rw [List.length_drop] at hi
  have := h (k + i) (by omega)
  rwa [List.getD_eq_getElem?_getD, List.getElem?_drop, ← List.getD_eq_getElem?_getD]
theorem fit1 {z : Int} (h : Fits z) : FitL [z] := fun i hi => by
  match i, hi with
  | 0, _ => exact h

theorem div_32 (n : Int) : div n 32 = n / 32 := by
  unfold div
  rw [if_neg (by omega), if_neg (by omega), Int.fdiv_eq_ediv_of_nonneg _ (by omega)]
theorem div_in {n : Int} (h : Fits n) : -288230376151711744 ≤ div n 32 ∧ div n 32 ≤ 288230376151711743 := by
  rw [div_32]
  unfold Fits at h
  omega
theorem place_lt (n : Int) : placeN n < 17 := by
  have := clamp_hi (8 + div n 32) 0 16 (by omega)
  unfold placeN
  omega
theorem place_at (n : Int) : clamp (8 + div n 32) 0 16 = ((placeN n : Nat) : Int) := by
  have := clamp_lo (8 + div n 32) 0 16 (by omega)
  unfold placeN
  omega
/-- The reference's own place. -/
theorem place_ref (n : Int) : clamp (div (clamp n (-100000) 100000) 32 + 8) 0 16 = ((placeN n : Nat) : Int) := by
  rw [← place_at, div_32, div_32]
  unfold clamp
  repeat' split
  all_goals omega
theorem refDiv_in (n : Int) : -3125 ≤ div (clamp n (-100000) 100000) 32 ∧ div (clamp n (-100000) 100000) 32 ≤ 3125 := by
  have h1 := clamp_lo n (-100000) 100000 (by omega)
  have h2 := clamp_hi n (-100000) 100000 (by omega)
  rw [div_32]
  omega
theorem refClamp_fits (n : Int) : Fits (clamp n (-100000) 100000) := by
  have h1 := clamp_lo n (-100000) 100000 (by omega)
  have h2 := clamp_hi n (-100000) 100000 (by omega)
  unfold Fits
  omega
theorem tab_in : ∀ i, i < 17 → 5 ≤ tabZ i ∧ tabZ i ≤ 251 := by decide
theorem tab_up : ∀ i, i < 17 → ∀ j, j < 17 → i ≤ j → tabZ i ≤ tabZ j := by decide
theorem gate_in (n : Int) : 5 ≤ gate n ∧ gate n ≤ 251 := tab_in _ (place_lt n)
/-- A greater number's gate isn't less open. -/
theorem gate_up {a b : Int} (h : a ≤ b) : gate a ≤ gate b := by
  refine tab_up _ (place_lt a) _ (place_lt b) ?_
  unfold placeN
  rw [div_32, div_32]
  unfold clamp
  repeat' split
  all_goals omega
theorem thr_way {g x : Int} (hx : -32767 ≤ x ∧ x ≤ 32767) : thr g x = sat ((x * gate g + 128) / 256) := by
  have hg := gate_in g
  unfold thr mul
  generalize gate g = y at *
  have h1 : clamp x (-1073741824) 1073741824 = x := by
    unfold clamp
    rw [if_neg (by omega), if_neg (by omega)]
  have h2 : clamp y (-1073741824) 1073741824 = y := by
    unfold clamp
    rw [if_neg (by omega), if_neg (by omega)]
  rw [h1, h2]
  rfl
/-- What goes through a gate is no greater, without its sign, and has the same sign, or is 0. -/
theorem thr_pos {g x : Int} (h0 : 0 ≤ x) (hx : x ≤ 32767) : 0 ≤ thr g x ∧ thr g x ≤ x := by
  have hg := gate_in g
  rw [thr_way (by omega)]
  generalize gate g = y at *
  have h1 := Int.mul_le_mul_of_nonneg_left hg.2 h0
  have h2 := Int.mul_nonneg h0 (show 0 ≤ y by omega)
  generalize x * y = p at *
  unfold sat clamp
  rw [if_neg (by omega), if_neg (by omega)]
  omega
theorem thr_neg {g x : Int} (h0 : x < 0) (hx : -32767 ≤ x) : x ≤ thr g x ∧ thr g x ≤ 0 := by
  have hg := gate_in g
  rw [thr_way (by omega)]
  generalize gate g = y at *
  have h1 := Int.mul_le_mul_of_nonpos_left (show x ≤ 0 by omega) hg.2
  have h2 := Int.mul_le_mul_of_nonpos_left (show x ≤ 0 by omega) hg.1
  generalize x * y = p at *
  unfold sat clamp
  rw [if_neg (by omega), if_neg (by omega)]
  omega
theorem pairs_parts (zs : List Int) (k : Nat) : pairsL (zs.take k) (zs.take k) ++ pairsL (zs.drop k) (zs.drop k) = pairsL zs zs := by
  have e : ∀ l : List Int, pairsL l l = l.map fun x => thr x x := fun l => by
    rw [pairsL_same rfl]
    apply List.ext_getElem (by simp)
    intro i h1 h2
    simp at h1 h2 ⊢
    rw [List.getElem?_eq_getElem h2]
    rfl
  rw [e, e, e, ← List.map_append, List.take_append_drop]
end Go.Proofs.Ytlapinecmiacoaa.Ac
