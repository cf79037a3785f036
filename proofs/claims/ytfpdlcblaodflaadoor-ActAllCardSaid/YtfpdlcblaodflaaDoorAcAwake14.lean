/-
  What layer 14's statements ask first: some answers by number. Conditions: the table lies where the program looks.
-/
import Derived.Test.YtfpdlcblaodflaaDoorAc2
namespace Go.Proofs.YtfpdlcblaodflaaDoor
open Go.ChangeShapes Go.WideShapes Go.ChangeAt Go.RowKit Nm Vc Ac

namespace Ac
theorem ex_gate0 : gate 0 = 128 := by decide +kernel
theorem ex_of : thr 64 64 = 47 := by decide +kernel
theorem ex_high : gate 4611686018427387904 = 251 := by decide +kernel
theorem ex_low : gate (-4611686018427387904) = 5 := by decide +kernel
end Ac
set_option maxRecDepth 100000 in
set_option maxHeartbeats 1600000 in
theorem awake14 (w : World) (hp : GOn w) : Calls Tryd.prog 6 #[] w fun e w' => e = .returned (.bool true) ∧ Below w.heap.size w w' := by
  have H1 := Lib.hid (ex_gate0 ▸ act_gate 0 w (by unfold Fits; omega) hp)
  have H2 := Lib.hid (ex_of ▸ act_of 64 w (by unfold Fits; omega) hp)
  have H3 := Lib.hid (fun (W : World) (h : GOn W) => ex_high ▸ act_gate 4611686018427387904 W (by unfold Fits; omega) h)
  have H4 := Lib.hid (fun (W : World) (h : GOn W) => ex_low ▸ act_gate (-4611686018427387904) W (by unfold Fits; omega) h)
  have H5 := Lib.hid (fun (W : World) (G A : Option Addr) (d c : Nat) =>
    show Calls Tryd.prog 13 #[.slice G 1 d, .slice A 2 c] W (fun e w' => ∃ R q, e = .returned (.slice R 0 q) ∧ Below W.heap.size W w') from
      (act_pairs_not W G 1 d [1] A 2 c [1, 2] rfl rfl (by omega)).mono fun e w' ⟨R, q, he, _, hb⟩ => ⟨R, q, by rw [he, pairsL_not (by decide)]; rfl, hb⟩)
  have HP := Lib.hid hp
  clear hp
  go_enter Tryd.func6, Tryd.ntmps6
  go_wp2_with (fail)
  refine H1.out.mono ?_
  rintro e w1 ⟨rfl, rfl⟩
  go_wp2_with (fail)
  refine H2.out.mono ?_
  rintro e w1 ⟨rfl, k, rfl⟩
  have P1 := Lib.hid (HP.out.drewN k)
  have B1 := Lib.hid (below_drewN (Below.refl w.heap.size w) k)
  clear H1 H2 HP
  generalize w.drewN k = w1 at P1 B1 ⊢
  go_wp2_with (fail)
  refine (H3.out _ P1.out).mono ?_
  rintro e w2 ⟨rfl, rfl⟩
  go_wp2_with (fail)
  refine (H4.out _ P1.out).mono ?_
  rintro e w2 ⟨rfl, rfl⟩
  clear H3 H4
  go_wp2_with (fail)
  refine (H5.out _ _ _ _ _).mono ?_
  rintro e w2 ⟨R, q, rfl, b2⟩
  have b3 := (B1.out.alloc B1.out.size (.cells #[.int .i64 1] 3)).alloc (by have := B1.out.size; simp; omega) (.cells #[.int .i64 1, .int .i64 2] 3)
  have B3 := Lib.hid (b3.trans (b2.mono b3.size))
  clear b2 b3 H5
  go_wp2_with (fail)
  refine bodyPost_ret (results_tmp rfl _ _ _) rfl ?_
  exact ⟨rfl, B3.out⟩
end Go.Proofs.YtfpdlcblaodflaaDoor
