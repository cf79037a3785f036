/-
  What layer 11's statements ask first: some answers by number. No conditions.
-/
import Derived.Test.YtclobdeaocjnoaaVcTb
import Derived.Test.YtclobdeaocjnoaaVc2
import Derived.Test.YtclobdeaocjnoaaVc3
namespace Go.Proofs.Ytclobdeaocjnoaa
open Go.ChangeShapes Go.WideShapes Go.ChangeAt Go.RowKit Nm Vc

namespace Vc
/-- The table 1 2, 3 4. -/
def d4 : List Int := listD ⟨#[1, 2, 3, 4]⟩
theorem d4_is : d4 = [1, 2, 3, 4] := rfl
theorem d4_times : timesL d4 2 2 [5, 6] 0 = [17, 39] := by decide +kernel
theorem d4_row : rowD d4 2 1 = [3, 4] := by decide +kernel
theorem d4_good : goodB 2 2 4 = true := by decide +kernel
theorem d4_plus : plusL [[1, 2], [3, 4]] 2 = [4, 6] := by decide +kernel
theorem even2 {a b : List Int} (h : b.length = a.length) : evenTo [a, b] 2 := fun i hi => by
  match i, hi with
  | 0, _ => rfl
  | 1, _ => exact h
end Vc
set_option maxRecDepth 100000 in
set_option maxHeartbeats 1600000 in
theorem awake11 (w : World) : Calls Try.prog 6 #[] w fun e w' => e = .returned (.bool true) ∧ Below w.heap.size w w' := by
  have HOF := Lib.hid (show Calls Try.prog 11 #[.int .i64 2, .int .i64 2, .string ⟨#[1, 2, 3, 4]⟩] w (fun e w' => ∃ A, e = .returned (.tuple #[.agg #[.int .i64 2, .int .i64 2, .slice A 4 4], .int .i64 0]) ∧ KIn .i8 w' A d4 ∧ Below w.heap.size w w') from vecs_of_ok w 2 2 ⟨#[1, 2, 3, 4]⟩ rfl rfl rfl)
  have HTM := Lib.hid (fun (W : World) (A V : Option Addr) (cv : Nat) (hA : KIn .i8 W A d4) (hV : KIn .i64 W V [5, 6]) =>
    show Calls Try.prog 12 #[.agg #[.int .i64 2, .int .i64 2, .slice A 4 4], .slice V 2 cv, .int .i64 0] W (fun e w' => ∃ R c, e = .returned (.tuple #[.slice R 2 c, .int .i64 0]) ∧ KIn .i64 w' R [17, 39] ∧ Below W.heap.size W w') from by
      have := table_times W 2 2 0 A 4 4 d4 V cv [5, 6] d4_good rfl hA (listD_I8 _) rfl hV
      rw [d4_times] at this
      exact this)
  have HPL := Lib.hid (fun (W : World) (A : Option Addr) (cA : Nat) (B : Nat → Option Addr) (C : Nat → Nat) (hA : LIn W A B C [[1, 2], [3, 4]]) =>
    show Calls Try.prog 17 #[.slice A 2 cA] W (fun e w' => ∃ R c, e = .returned (.tuple #[.slice R 2 c, .int .i64 0]) ∧ KIn .i64 w' R [4, 6] ∧ Below W.heap.size W w') from by
      have := vecs_plus W A cA B C [[1, 2], [3, 4]] 2 2 rfl rfl (by omega) (by omega) (by omega) hA (even2 rfl)
      rw [d4_plus] at this
      exact this)
  have HRW := Lib.hid (fun (W : World) (A : Option Addr) (hA : KIn .i8 W A d4) =>
    show Calls Try.prog 10 #[.agg #[.int .i64 2, .int .i64 2, .slice A 4 4], .int .i64 1] W (fun e w' => ∃ R c, e = .returned (.slice R 2 c) ∧ KIn .i64 w' R [3, 4] ∧ Below W.heap.size W w') from by
      have := table_row W 2 2 1 A 4 4 d4 d4_good rfl (by omega) hA (listD_I8 _)
      rw [d4_row] at this
      exact this)
  have HGD := Lib.hid (fun (W : World) (A : Option Addr) =>
    show Calls Try.prog 9 #[.agg #[.int .i64 2, .int .i64 2, .slice A 4 4]] W (fun e w' => e = .returned (.bool true) ∧ Below W.heap.size W w') from vecs_good 2 2 A 4 4 W)
  go_enter Try.func6, Try.ntmps6
  go_wp2_with (fail)
  refine HOF.out.mono ?_
  rintro e w1 ⟨A, rfl, ka, b1⟩
  have H1 := Lib.hid (show Tb w (w1.alloc (.cells #[.int .i64 2, .int .i64 2, .slice A 4 4] 24)) w1.heap.size 2 2 A 4 4 d4 from Tb.new b1 ka 2 2 4 4)
  clear ka b1 HOF
  go_wp2_with (fail)
  refine (HTM.out _ A _ 2 (H1.out.alloc (.cells #[.int .i64 5, .int .i64 6] 3)).nums (kin2 _ _ 5 6 (by simp))).mono ?_
  rintro e w3 ⟨V, cv, rfl, kv, b3⟩
  have H3 := Lib.hid ((H1.out.alloc (.cells #[.int .i64 5, .int .i64 6] 3)).step b3)
  have K3 := Lib.hid kv
  clear b3 kv H1 HTM
  generalize w1.heap.size = T at H3 ⊢
  go_wp2_with (fail)
  have l3 := lin2 (c := 2) (d := 2) (w := (w3.alloc (.cells #[.int .i64 1, .int .i64 2] 3)).alloc (.cells #[.int .i64 3, .int .i64 4] 3)) (w3.heap.size + 1 + 1) (by simp) (n := 2) (m := 2) (zs := [1, 2]) (us := [3, 4]) rfl rfl ((kin2 w3 _ 1 2 rfl).alloc _) (kin2 _ (w3.heap.size + 1) 3 4 (by simp))
  refine (HPL.out _ _ 2 _ _ l3).mono ?_
  rintro e w4 ⟨P, cp, rfl, kp, b4⟩
  have b5 := (((Below.refl w3.heap.size w3).alloc (Nat.le_refl _) (.cells #[.int .i64 1, .int .i64 2] 3)).alloc (by simp) (.cells #[.int .i64 3, .int .i64 4] 3)).alloc (by simp; omega) (.cells #[.slice (some ⟨w3.heap.size, 0, none⟩) 2 2, .slice (some ⟨w3.heap.size + 1, 0, none⟩) 2 2] 30)
  have b6 := b5.trans (b4.mono b5.size)
  have H4 := Lib.hid (H3.out.step b6)
  have K4 := Lib.hid (K3.out.below b6 (Nat.le_refl _))
  have P4 := Lib.hid kp
  clear b4 b5 b6 kp H3 K3 l3 HPL
  go_wp2_with (fail)
  refine (ints_same _ V 2 cv _ 2 [17, 39] rfl (by omega) (K4.out.alloc _) (kin2 w4 _ 17 39 rfl)).mono ?_
  rintro e w5 ⟨rfl, d5, rfl⟩
  have H5 := Lib.hid ((H4.out.alloc (.cells #[.int .i64 17, .int .i64 39] 3)).drewN d5)
  have P5 := Lib.hid ((P4.out.alloc (.cells #[.int .i64 17, .int .i64 39] 3)).drewN d5)
  clear H4 K4 P4
  generalize (w4.alloc (.cells #[.int .i64 17, .int .i64 39] 3)).drewN d5 = w5 at H5 P5 ⊢
  go_wp2_with (fail)
  refine (ints_same _ P 2 cp _ 2 [4, 6] rfl (by omega) (P5.out.alloc _) (kin2 w5 _ 4 6 rfl)).mono ?_
  rintro e w6 ⟨rfl, d6, rfl⟩
  have H6 := Lib.hid ((H5.out.alloc (.cells #[.int .i64 4, .int .i64 6] 3)).drewN d6)
  clear H5 P5
  generalize (w5.alloc (.cells #[.int .i64 4, .int .i64 6] 3)).drewN d6 = w6 at H6 ⊢
  have c0 := tb0 H6.out.blk
  have c1 := tb1 H6.out.blk
  have c2 := tb2 H6.out.blk
  go_wp2_with (fail)
  refine (HRW.out w6 A H6.out.nums).mono ?_
  rintro e w7 ⟨R, cr, rfl, kr, b7⟩
  have H7 := Lib.hid (H6.out.step b7)
  have K7 := Lib.hid kr
  clear b7 kr H6 c0 c1 c2 HRW
  go_wp2_with (fail)
  refine (ints_same _ R 2 cr _ 2 [3, 4] rfl (by omega) (K7.out.alloc _) (kin2 w7 _ 3 4 rfl)).mono ?_
  rintro e w8 ⟨rfl, d8, rfl⟩
  have H8 := Lib.hid ((H7.out.alloc (.cells #[.int .i64 3, .int .i64 4] 3)).drewN d8)
  clear H7 K7
  generalize (w7.alloc (.cells #[.int .i64 3, .int .i64 4] 3)).drewN d8 = w8 at H8 ⊢
  have c0 := tb0 H8.out.blk
  have c1 := tb1 H8.out.blk
  have c2 := tb2 H8.out.blk
  go_wp2_with (fail)
  refine (HGD.out w8 A).mono ?_
  rintro e w9 ⟨rfl, b9⟩
  have H9 := Lib.hid (H8.out.step b9)
  clear b9 H8 c0 c1 c2 HGD
  go_wp2_with (fail)
  refine bodyPost_ret (results_tmp rfl _ _ _) rfl ?_
  exact ⟨rfl, H9.out.below⟩
end Go.Proofs.Ytclobdeaocjnoaa
