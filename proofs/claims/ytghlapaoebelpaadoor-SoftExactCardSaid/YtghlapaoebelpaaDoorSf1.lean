/-
  Package soft: what counts (Exp), the clamp. Conditions: the table lies where the program looks.
-/
import Derived.Test.YtghlapaoebelpaaDoorVcKin
import Derived.Test.YtghlapaoebelpaaDoorSfPick
import Derived.Test.YtghlapaoebelpaaDoorRef01
import Derived.Laws.Shifts
namespace Go.Proofs.YtghlapaoebelpaaDoor
open Go.ChangeShapes Go.WideShapes Go.ChangeAt Go.RowKit Nm Vc Sf

namespace Sf
/-- The table lies in the package's variable. -/
def POn (w : World) : Prop := ∀ i, i < 8 → w.cell? ⟨0, i, none⟩ = some (.int .i64 (tabN i : Nat))
theorem POn.lt {w : World} (h : POn w) : 0 < w.heap.size := block_lt_of_cell (h 0 (by omega))
theorem POn.below {w w' : World} (h : POn w) {B : Nat} (k : Below B w w') (hB : w.heap.size ≤ B) : POn w' := fun i hi => (k.cell (p := ⟨0, i, none⟩) (Nat.lt_of_lt_of_le h.lt hB)).trans (h i hi)
theorem POn.keep {w w' : World} (h : POn w) {B : Nat} (k : Below B w w') (hB : 0 < B) : POn w' := fun i hi => (k.cell (p := ⟨0, i, none⟩) hB).trans (h i hi)
theorem expZ_neg {d : Int} (h : d < 0) : expZ d = expZ 0 := by unfold expZ; rw [show d.toNat = (0 : Int).toNat by omega]
theorem shr_any (t q : Nat) (ht : t ≤ 65536) : Op.shift .shr .i64 (t : Int) .i64 (q : Int) = pure (.int .i64 ((t / 2 ^ q : Nat) : Int)) := by
  rw [shift_shr_any _ _ _ _ (by omega), Int.toNat_natCast]
  congr 2
  have e : ∀ k : Nat, (t : Int) / 2 ^ k = ((t / 2 ^ k : Nat) : Int) := fun k => by rw [Int.natCast_ediv, Int.natCast_pow]; rfl
  rw [e]
  by_cases h : q ≤ 64
  · rw [show min q IntKind.i64.bits = q from Nat.min_eq_left h]
  · rw [show min q IntKind.i64.bits = 64 from Nat.min_eq_right (by show 64 ≤ q; omega), Nat.div_eq_of_lt (by omega), Nat.div_eq_of_lt (Nat.lt_of_lt_of_le (show t < 2 ^ 64 by omega) (Nat.pow_le_pow_right (by omega) (by omega)))]
end Sf
set_option maxRecDepth 100000 in
set_option maxHeartbeats 800000 in
theorem soft_exp (d : Int) (w : World) (hd : d ≤ 9223372036854775807) (hp : POn w) :
    Calls Tryd.prog 9 #[.int .i64 d] w fun e w' => e = .returned (.int .i64 (expZ d)) ∧ w = w' := by
  by_cases h0 : d < 0
  · have hc := hp 0 (by omega)
    have HE := Lib.hid (show expZ d = ((tabN 0 : Nat) : Int) by rw [expZ_neg h0]; rfl)
    generalize tabN 0 = t at hc HE
    go_enter Tryd.func9, Tryd.ntmps9
    go_wp2
    go_ret
    exact ⟨ret_i (by rw [HE.out]), rfl⟩
  obtain ⟨n, rfl⟩ : ∃ n : Nat, d = n := ⟨d.toNat, by omega⟩
  obtain ⟨q, hq⟩ : ∃ q, q = n / 8 := ⟨_, rfl⟩
  obtain ⟨r, hr⟩ : ∃ r, r = n % 8 := ⟨_, rfl⟩
  have e1 : Int.tmod (n : Int) 8 = (r : Int) := by rw [hr]; rfl
  have e2 : Int.tdiv (n : Int) 8 = (q : Int) := by rw [hq]; rfl
  have hr8 : r < 8 := by omega
  have HE := Lib.hid (show expZ n = ((tabN r / 2 ^ q : Nat) : Int) by unfold expZ expN; rw [Int.toNat_natCast, ← hq, ← hr])
  have hc := hp r hr8
  have e3 := shr_any (tabN r) q (tabN_le r)
  have e4 : wrap64 (q : Int) = (q : Int) := IntWalk.wrap64_in _ (by omega)
  generalize tabN r / 2 ^ q = z at e3 HE
  generalize tabN r = t at hc e3
  clear hp hq hr hd h0
  go_enter Tryd.func9, Tryd.ntmps9
  go_wp2
  go_ret
  exact ⟨ret_i (by rw [HE.out]), rfl⟩
theorem soft_clamp (x : Int) (w : World) :
    Calls Tryd.prog 20 #[.int .i64 x] w fun e w' => e = .returned (.int .i64 (c30 x)) ∧ w = w' := by
  go_enter Tryd.func20, Tryd.ntmps20
  go_wp2_with (fail)
  refine (clamp_any _ _ _ _).mono ?_
  rintro e w' ⟨rfl, rfl⟩
  go_wp2
  go_ret
  exact ⟨ret_i rfl, rfl⟩
theorem ref12_clamp (x : Int) (w : World) :
    Calls Tryd.prog 22 #[.int .i64 x] w fun e w' => e = .returned (.int .i64 (c30 x)) ∧ w = w' := by
  go_enter Tryd.func22, Tryd.ntmps22
  go_wp2_with (fail)
  refine (rclamp_any _ _ _ _).mono ?_
  rintro e w' ⟨rfl, rfl⟩
  go_wp2
  go_ret
  exact ⟨ret_i rfl, rfl⟩
end Go.Proofs.YtghlapaoebelpaaDoor
