/-
  Package act: Gate, through, Of. Conditions: the table lies where the program looks; numbers are such as an int holds.
-/
import Derived.Test.YtfpdlcblaodflaaDoorVcKin
import Derived.Test.YtfpdlcblaodflaaDoorAcMath
import Derived.Test.YtfpdlcblaodflaaDoorNumDiv
import Derived.Test.YtfpdlcblaodflaaDoorNumMul
namespace Go.Proofs.YtfpdlcblaodflaaDoor
open Go.ChangeShapes Go.WideShapes Go.ChangeAt Go.RowKit Nm Vc Ac

namespace Ac
/-- The table lies in the package's variable. -/
def GOn (w : World) : Prop := ∀ i, i < 17 → w.cell? ⟨0, i, none⟩ = some (.int .i64 (tabZ i))
theorem GOn.lt {w : World} (h : GOn w) : 0 < w.heap.size := block_lt_of_cell (h 0 (by omega))
theorem GOn.below {w w' : World} (h : GOn w) {B : Nat} (k : Below B w w') (hB : w.heap.size ≤ B) : GOn w' := fun i hi => (k.cell (p := ⟨0, i, none⟩) (Nat.lt_of_lt_of_le h.lt hB)).trans (h i hi)
theorem GOn.keep {w w' : World} (h : GOn w) {B : Nat} (k : Below B w w') (hB : 0 < B) : GOn w' := fun i hi => (k.cell (p := ⟨0, i, none⟩) hB).trans (h i hi)
theorem GOn.drewN {w : World} (h : GOn w) (n : Nat) : GOn (w.drewN n) := h
end Ac
set_option maxRecDepth 100000 in
set_option maxHeartbeats 800000 in
theorem act_gate (n : Int) (w : World) (hn : Fits n) (hp : GOn w) :
    Calls Tryd.prog 7 #[.int .i64 n] w fun e w' => e = .returned (.int .i64 (gate n)) ∧ w = w' := by
  have HD := Lib.hid (div_any n 32 w hn)
  have HI := Lib.hid (div_in hn)
  have HC := Lib.hid (place_at n ▸ clamp_any (8 + div n 32) 0 16 w)
  have hc := hp (placeN n) (place_lt n)
  have hlt := place_lt n
  unfold gate
  generalize tabZ (placeN n) = t at hc ⊢
  generalize placeN n = p at hc HC hlt
  have W1 := Lib.hid (IntWalk.wrap64_in (8 + div n 32) (by have := HI.out; omega))
  clear hn hp
  go_enter Tryd.func7, Tryd.ntmps7
  go_wp2_with (fail)
  refine HD.out.mono ?_
  rintro e w1 ⟨rfl, rfl⟩
  go_wp2_with (fail)
  rw [W1.out]
  refine HC.out.mono ?_
  rintro e w1 ⟨rfl, rfl⟩
  have h0 : 0 ≤ (p : Int) := by omega
  have h1 : (p : Int) < 17 := by omega
  go_wp2_with (fail)
  refine bodyPost_ret (results_tmp rfl _ _ _) rfl ?_
  exact ⟨rfl, rfl⟩
theorem act_through (g x : Int) (w : World) (hg : Fits g) (hp : GOn w) :
    Calls Tryd.prog 18 #[.int .i64 g, .int .i64 x] w fun e w' => e = .returned (.int .i64 (thr g x)) ∧ ∃ k, w' = w.drewN k := by
  have HG := Lib.hid (act_gate g w hg hp)
  unfold thr
  generalize gate g = y at HG ⊢
  clear hg hp
  go_enter Tryd.func18, Tryd.ntmps18
  go_wp2_with (fail)
  refine HG.out.mono ?_
  rintro e w1 ⟨rfl, rfl⟩
  go_wp2_with (fail)
  refine (mul_any _ _ _ _).mono ?_
  rintro e w1 ⟨rfl, k, rfl⟩
  go_wp2_with (fail)
  refine bodyPost_ret (results_tmp rfl _ _ _) rfl ?_
  exact ⟨rfl, k, rfl⟩
theorem act_of (x : Int) (w : World) (hx : Fits x) (hp : GOn w) :
    Calls Tryd.prog 9 #[.int .i64 x] w fun e w' => e = .returned (.int .i64 (thr x x)) ∧ ∃ k, w' = w.drewN k := by
  have HG := Lib.hid (act_through x x w hx hp)
  generalize thr x x = y at HG ⊢
  clear hx hp
  go_enter Tryd.func9, Tryd.ntmps9
  go_wp2_with (fail)
  refine HG.out.mono ?_
  rintro e w1 ⟨rfl, k, rfl⟩
  go_wp2_with (fail)
  refine bodyPost_ret (results_tmp rfl _ _ _) rfl ?_
  exact ⟨rfl, k, rfl⟩
end Go.Proofs.YtfpdlcblaodflaaDoor
