/-
  Package soft: Weights. Conditions: the numbers are there; the table lies where the program looks.
-/
import Derived.Test.YtghlapaoebelpaaDoorSf2
import Derived.Test.YtghlapaoebelpaaDoorNumMax
namespace Go.Proofs.YtghlapaoebelpaaDoor
open Go.ChangeShapes Go.WideShapes Go.ChangeAt Go.RowKit Nm Vc Sf

namespace Sf
/-- Scores, clamped. -/
def clamped (l : List Int) : List Int := l.map c30
theorem clamped_length (l : List Int) : (clamped l).length = l.length := by simp [clamped]
theorem clamped_at (l : List Int) (i : Nat) (h : i < l.length) : (clamped l).getD i 0 = c30 (l.getD i 0) := by
  unfold clamped
  rw [List.getD_eq_getElem?_getD, List.getElem?_map, List.getD_eq_getElem?_getD (l := l), List.getElem?_eq_getElem h]
  rfl
theorem foldl_clamped (l : List Int) : ∀ m : Int, (clamped l).foldl max m = l.foldl (fun m x => max m (c30 x)) m := by
  induction l with
  | nil => intro m; rfl
  | cons a l ih => intro m; exact ih _
theorem most_clamped {l : List Int} (h : 0 < l.length) : most ((clamped l).getD 0 0) ((clamped l).drop 1) = highL l := by
  cases l with
  | nil => exact absurd h (by simp)
  | cons a l =>
    rw [← high_start (l := a :: l) (a := a) (by simp)]
    show (clamped l).foldl max (c30 a) = _
    rw [foldl_clamped, List.foldl_cons, Int.max_self]
theorem high_sub (l : List Int) (x : Int) : -2147483648 ≤ highL l - c30 x ∧ highL l - c30 x ≤ 2147483648 := by
  have h1 := high_in l
  have h2 := c30_in x
  omega
/-- Cells of numbers of which the first k are the new ones. -/
def prt2 (R O : List Int) (k i : Nat) : Value := if i < k then .int .i64 (R.getD i 0) else .int .i64 (O.getD i 0)
theorem prt2_none (R O : List Int) : prt2 R O 0 = fun i => .int .i64 (O.getD i 0) := by
  funext i
  exact if_neg (by omega)
theorem prt2_all (R O : List Int) (n i : Nat) (h : i < n) : prt2 R O n i = .int .i64 (R.getD i 0) := if_pos h
theorem prt2_old (R O : List Int) (k : Nat) : prt2 R O k k = .int .i64 (O.getD k 0) := if_neg (by omega)
theorem prt2_set {w : World} {g n : Nat} {t : TypeId} {R O : List Int} {k : Nat} {z : Int} (h : w.rowIs g t n (prt2 R O k)) (hz : R.getD k 0 = z) : (w.setCell ⟨g, k, none⟩ (.int .i64 z)).rowIs g t n (prt2 R O (k + 1)) :=
  (h.set k _).congr fun i _ => by
    unfold prt2
    by_cases e : i = k
    · subst e
      rw [if_pos rfl, if_pos (by omega), hz]
    · rw [if_neg e]
      by_cases hi : i < k
      · rw [if_pos hi, if_pos (by omega)]
      · rw [if_neg hi, if_neg (by omega)]
theorem holds_drop {w : World} {g n : Nat} {t : TypeId} {O : List Int} (h : w.rowIs g t n fun i => .int .i64 (O.getD i 0)) (hn : O.length = n) : Holds w g 1 (O.drop 1) := fun i hi => by
  rw [List.length_drop] at hi
  have hl : 1 + i < O.length := by omega
  rw [h.cell (show 1 + i < n by omega), List.getD_eq_getElem?_getD, List.getElem?_eq_getElem hl, List.getD_eq_getElem?_getD, List.getElem?_drop, List.getElem?_eq_getElem hl]
end Sf
theorem max_drop {w : World} {g n : Nat} {t : TypeId} {O : List Int} (h : w.rowIs g t n fun i => .int .i64 (O.getD i 0)) (hn : O.length = n) (hm : n ≤ 1000000) :
    Calls Tryd.prog 21 #[.int .i64 (O.getD 0 0), .slice (if n = 1 then some ⟨g, 0, none⟩ else some ⟨g, 1, none⟩) (n - 1) (n - 1)] w fun e w' => e = .returned (.int .i64 (most (O.getD 0 0) (O.drop 1))) ∧ w = w' := by
  by_cases h1 : n = 1
  · rw [if_pos h1]
    exact max_any _ _ _ _ _ _ _ (by rw [List.length_drop, hn]) (by unfold maxLen; omega) fun i hi => by
      rw [List.length_drop] at hi
      omega
  · rw [if_neg h1]
    exact max_any _ _ _ _ _ _ _ (by rw [List.length_drop, hn]) (by unfold maxLen; omega) (holds_drop h hn)
section
variable (w : World) (A : Option Addr) (n c : Nat) (zs : List Int)
set_option maxRecDepth 100000 in
set_option maxHeartbeats 800000 in
theorem soft_weights_nil (c : Nat) : Calls Tryd.prog 12 #[.slice A 0 c] w (RowSays w (fun v => v) (weightsL [])) := by
  go_enter Tryd.func12, Tryd.ntmps12
  go_wp2_with (fail)
  refine bodyPost_ret (results_tmp rfl _ _ _) rfl ?_
  exact ⟨none, 0, rfl, KIn.nil _ _ _, Below.refl _ _⟩
set_option maxRecDepth 100000 in
set_option maxHeartbeats 3200000 in
theorem soft_weights_some (hz : zs.length = n) (h0 : 0 < n) (hm : n ≤ 1000000) (hA : KIn .i64 w A zs) (hp : POn w) :
    Calls Tryd.prog 12 #[.slice A n c] w fun e w' => ∃ A, e = .returned (.slice A n n) ∧ KIn .i64 w' A (weightsL zs) ∧ Below w.heap.size w w' := by
  have HA := Lib.hid hA
  have HP := Lib.hid hp
  obtain ⟨i0, hi, hz0, hz1, hz2⟩ := info_parts info_int
  have HI := Lib.hid hi
  have HZ0 := Lib.hid hz0
  have HZ1 := Lib.hid hz1
  have HZ2 := Lib.hid hz2
  have HZL := Lib.hid hz
  have HOL := Lib.hid ((clamped_length zs).trans hz)
  have HOA := Lib.hid (fun i (h : i < n) => clamped_at zs i (by omega))
  have HMO := Lib.hid (most_clamped (l := zs) (by omega))
  have HLR := Lib.hid ((weightsL_length zs).trans hz)
  have HAT := Lib.hid (fun i (h : i < n) => weightsL_at zs i (by omega))
  have HHS := Lib.hid (high_sub zs)
  have t0 : ((n : Int) == 0) = false := beq_eq_false_iff_ne.2 (by omega)
  clear hi hz0 hz1 hz2 hA hz hp
  generalize weightsL zs = R at HLR HAT ⊢
  generalize clamped zs = O at HOL HOA HMO
  generalize highL zs = hh at HMO HAT HHS
  go_enter Tryd.func12, Tryd.ntmps12
  go_wp2_with (at_make; refine wpList_make_row _ rfl _ _ 22 rfl 3 i0 (.int .i64 0) Tryd.underlying22 HI.out HZ0.out HZ1.out rfl .i64 .i64 n rfl rfl (by rw [HZ2.out]; omega) (by omega) ?_)
  have HR0 := Lib.hid (show (w.alloc (.cells (madeCells #[.int .i64 0] n) 3)).rowIs w.heap.size 3 n (prt .i64 O 0) from (World.rowIs_made w (.int .i64 0) n 3).congr fun i _ => by rw [prt_none])
  have HB0 := Lib.hid ((Below.refl w.heap.size w).alloc (Nat.le_refl _) (.cells (madeCells #[.int .i64 0] n) 3))
  go_loopw [17] (fun i wr => ∃ j : Nat, i = .int .i64 (j : Int) ∧ j ≤ n ∧ wr.rowIs w.heap.size 3 n (prt .i64 O j) ∧ Below w.heap.size w wr) (fun i _ => match i with | .int _ k => n - k.toNat | _ => 0)
  case atStart => exact ⟨0, rfl, Nat.zero_le _, HR0.out, HB0.out⟩
  case round =>
    clear HR0 HB0
    obtain ⟨j, rfl, hj, hr, hb⟩ := hrel
    have HR := Lib.hid hr
    have HB := Lib.hid hb
    clear hr hb
    have x2 : 0 ≤ (j : Int) := by omega
    by_cases hlt : j < n
    · have x0 : (j : Int) < (n : Int) := by omega
      have x1 : decide ((j : Int) < (n : Int)) = true := decide_eq_true x0
      have HJ := Lib.hid (show j + 1 ≤ n by omega)
      have HXJ := Lib.hid (HOA.out j hlt)
      obtain ⟨pb, po, rfl, hcell⟩ := (HA.out.below HB.out (Nat.le_refl _)).at (show j < zs.length by rw [HZL.out]; exact hlt)
      generalize zs.getD j 0 = z at hcell HXJ
      go_wp2_with (fail)
      refine (soft_clamp z wr).mono ?_
      rintro e w2 ⟨rfl, rfl⟩
      rw [← HXJ.out]
      have f1 := HR.out.frozen j
      have c1 := HR.out.cell hlt
      have HPS := Lib.hid (prt_set HR.out (rfl : O.getD j 0 = O.getD j 0))
      have HBS := Lib.hid (HB.out.setCell (p := ⟨w.heap.size, j, none⟩) (Nat.le_refl _) (.int .i64 (O.getD j 0)))
      have x3 := IntWalk.wrap64_in ((j : Int) + 1) (by omega)
      generalize O.getD j 0 = z at HPS HBS ⊢
      go_wp2_with (fail)
      exact ⟨⟨j + 1, rfl, HJ.out, HPS.out, HBS.out⟩, vc_less j n hlt⟩
    · have hke : j = n := by omega
      have x0 : ¬ (j : Int) < (n : Int) := by omega
      have x1 : decide ((j : Int) < (n : Int)) = false := decide_eq_false x0
      rw [hke] at HR
      have HO := Lib.hid (HR.out.congr (fun i hi => prt_all .i64 O n i hi))
      have c0 := HO.out.cell h0
      have HMX := Lib.hid (fun (q : Nat) => max_drop (w := wr.drewN q) (show (wr.drewN q).rowIs w.heap.size 3 n _ from HO.out) HOL.out hm)
      rw [HMO.out] at HMX
      generalize O.getD 0 0 = o0 at c0 HMX
      clear HR hke hlt hj x2
      go_wp2_with (fail)
      go_quiet ((go_at_call 21; exact quiet_here (HMX.out _)))
      have HB3 := Lib.hid (below_drewN HB.out nq)
      have HO3 : Hid ((wr.drewN nq).rowIs w.heap.size 3 n (prt2 R O 0)) := Lib.hid (show (wr.drewN nq).rowIs w.heap.size 3 n (prt2 R O 0) from HO.out.congr fun i _ => by rw [prt2_none])
      clear HB HO HMX c0 HMO HOL x0 x1
      generalize (if n = 1 then some (⟨w.heap.size, 0, none⟩ : Addr) else some ⟨w.heap.size, 1, none⟩) = pt
      generalize wr.drewN nq = w3 at HB3 HO3 ⊢
      go_wp2_with (fail)
      go_loopw [36] (fun i wr => ∃ j : Nat, i = .int .i64 (j : Int) ∧ j ≤ n ∧ wr.rowIs w.heap.size 3 n (prt2 R O j) ∧ Below w.heap.size w wr) (fun i _ => match i with | .int _ k => n - k.toNat | _ => 0)
      case atStart => exact ⟨0, rfl, Nat.zero_le _, HO3.out, HB3.out⟩
      case round =>
        clear HO3 HB3
        obtain ⟨j, rfl, hj, hr, hb⟩ := hrel
        have HR := Lib.hid hr
        have HB := Lib.hid hb
        clear hr hb
        have x2 : 0 ≤ (j : Int) := by omega
        by_cases hlt : j < n
        · have x0 : (j : Int) < (n : Int) := by omega
          have x1 : decide ((j : Int) < (n : Int)) = true := decide_eq_true x0
          have HJ := Lib.hid (show j + 1 ≤ n by omega)
          have c1 := HR.out.cell hlt
          rw [prt2_old, HOA.out j hlt] at c1
          have HXJ := Lib.hid (HAT.out j hlt)
          have hs := HHS.out (zs.getD j 0)
          have x4 : wrap64 (hh - c30 (zs.getD j 0)) = hh - c30 (zs.getD j 0) := IntWalk.wrap64_in _ (by omega)
          have HEX := Lib.hid (soft_exp (hh - c30 (zs.getD j 0)) wr (by omega) (HP.out.below HB.out (Nat.le_refl _)))
          clear hs
          generalize c30 (zs.getD j 0) = z at c1 x4 HEX HXJ
          generalize hd : hh - z = d at x4 HEX HXJ
          go_wp2_with (fail)
          rw [x4]
          refine HEX.out.mono ?_
          rintro e w2 ⟨rfl, rfl⟩
          rw [← HXJ.out]
          have f1 := HR.out.frozen j
          have HPS := Lib.hid (prt2_set HR.out (rfl : R.getD j 0 = R.getD j 0))
          have HBS := Lib.hid (HB.out.setCell (p := ⟨w.heap.size, j, none⟩) (Nat.le_refl _) (.int .i64 (R.getD j 0)))
          have x3 := IntWalk.wrap64_in ((j : Int) + 1) (by omega)
          generalize R.getD j 0 = y at HPS HBS ⊢
          go_wp2_with (fail)
          exact ⟨⟨j + 1, rfl, HJ.out, HPS.out, HBS.out⟩, vc_less j n hlt⟩
        · have hke : j = n := by omega
          have x0 : ¬ (j : Int) < (n : Int) := by omega
          have x1 : decide ((j : Int) < (n : Int)) = false := decide_eq_false x0
          rw [hke] at HR
          go_wp2_with (fail)
          refine bodyPost_ret (results_tmp rfl _ _ _) rfl ?_
          exact ⟨some ⟨w.heap.size, 0, none⟩, rfl, KIn.row (HR.out.congr fun i hi => prt2_all _ _ _ _ hi) (Nat.le_of_eq HLR.out), HB.out⟩
theorem soft_weights (hz : zs.length = n) (hm : n ≤ 1000000) (hA : KIn .i64 w A zs) (hp : POn w) :
    Calls Tryd.prog 12 #[.slice A n c] w (RowSays w (fun v => v) (weightsL zs)) := by
  by_cases h0 : 0 < n
  · refine (soft_weights_some w A n c zs hz h0 hm hA hp).mono ?_
    rintro e w' ⟨X, rfl, hk, hb⟩
    exact ⟨X, n, by rw [weightsL_length, hz], hk, hb⟩
  · obtain rfl : n = 0 := by omega
    obtain rfl := List.length_eq_zero_iff.1 hz
    exact soft_weights_nil w A c
end
end Go.Proofs.YtghlapaoebelpaaDoor
