/-
  The reference of layer 18: Next. Conditions: the scores are there, few.
  Package gen: what Check and Next answer. Conditions: a model stands in its block, its weights are as many as its shape asks; the tokens and the scores are there; the table of powers lies where it is looked up.
-/
import Derived.Test.YtkdkeokldcehhaaGreatDoorMg18
import Derived.Test.YtkdkeokldcehhaaGreatDoorMg13
import Derived.Test.YtkdkeokldcehhaaGreatDoorMg22
set_option maxRecDepth 100000
namespace Go.Proofs.YtkdkeokldcehhaaGreatDoor
open Go.ChangeShapes Go.WideShapes Go.ChangeAt Go.RowKit Vc Sf Sp Gn

namespace Gn
theorem next_max (d : Int) {sc : List Int} (h : sc.length ≤ 64) : nextZ d sc = max (chooseL d (weightsL sc)) 0 := by
  by_cases h0 : sc.length = 0
  · obtain rfl := List.length_eq_zero_iff.1 h0
    have h1 : ¬ okP (weightsL []) := fun h => by have := h.2.2; simp [weightsL, total] at this
    rw [choose_not h1]
    rfl
  · have h1 := next_in (d := d) (sc := sc) (by omega) h
    unfold nextZ at h1 ⊢
    rw [if_neg h0] at h1 ⊢
    omega
end Gn
section
variable (w : World) (d : Int) (A : Option Addr) (n c : Nat) (zs : List Int)
set_option maxRecDepth 100000 in
set_option maxHeartbeats 800000 in
theorem ref18_next (hz : zs.length = n) (hm : n ≤ 64) (hA : KIn .i64 w A zs) :
    Calls Tryz.prog 47 #[.int .i64 d, .slice A n c] w fun e w' => e = .returned (.int .i64 (nextZ d zs)) ∧ Below w.heap.size w w' := by
  have HW := Lib.hid (ref12_weights w A n c zs hz (by omega) hA)
  have HX := Lib.hid (next_max d (sc := zs) (by omega))
  have HL := Lib.hid ((weightsL_length zs).trans hz)
  have HM := Lib.hid hm
  clear hz hm hA
  generalize nextZ d zs = R at HX ⊢
  generalize weightsL zs = L at HX HL HW
  unfold RowSays at HW
  rw [HL.out] at HW
  have HR := Lib.hid HX.out
  have HC := Lib.hid (fun W B q (hk : KIn .i64 W B L) => ref12_choose W d B n q L HL.out (by have := HM.out; omega) hk)
  clear HX
  generalize chooseL d L = u at HC HR
  go_enter Tryz.func47, Tryz.ntmps47
  go_wp2_with (fail)
  refine HW.out.mono ?_
  rintro e w1 ⟨B, q, rfl, hk, b1⟩
  have HC := Lib.hid (HC.out w1 B q hk)
  have HB := Lib.hid b1
  clear hk b1
  go_wp2_with (fail)
  refine HC.out.mono ?_
  rintro e w2 ⟨rfl, rfl⟩
  go_wp2_with (fail)
  exact bodyPost_ret (results_tmp rfl _ _ _) rfl ⟨by rw [HR.out]; rfl, HB.out⟩
end
end Go.Proofs.YtkdkeokldcehhaaGreatDoor
namespace Go.Proofs.YtkdkeokldcehhaaGreatDoor
open Go.ChangeShapes Go.WideShapes Go.ChangeAt Go.RowKit Cf Vc Br Sf Sp Gn

theorem eg_gcheck1 : ∀ args w, (callFunc 51 args).run Tryz.prog w = .ok (.enter 51 args) w := Go.Proofs.enters_of Tryz.func51 (by kernel_rfl) rfl
section
variable (w : World) (b : Nat) (x : Cfg) (s : ByteArray) (h : w.heap[b]? = some (brO x s))
include h
set_option maxRecDepth 100000 in
set_option maxHeartbeats 1600000 in
theorem gen_check1 (B : Nat) (hB : w.heap[B]? = some (bxO b)) (z : Int) :
    Calls Tryz.prog 51 #[.int .i64 z, .pointer (some ⟨B, 0, none⟩)] w fun e' w' => e' = .returned (.bool (!tokB x z)) ∧ Below w.heap.size w w' := by
  obtain ⟨e0, e1, e2, e3, e4, e5, e6⟩ := seven h
  have x0 := bx0 hB
  clear h hB
  by_cases h1 : z < 0
  · have hr := Lib.hid (show tokB x z = false by unfold tokB; rw [decide_eq_false (by omega)]; rfl)
    have t1 : decide (z < 0) = true := decide_eq_true h1
    go_enter Tryz.func51, Tryz.ntmps51
    go_wp2_with (fail)
    exact bodyPost_ret (results_tmp rfl _ _ _) rfl ⟨by rw [hr.out]; rfl, Below.refl _ _⟩
  · have t1 : decide (z < 0) = false := decide_eq_false h1
    by_cases h2 : z < x.v
    · have hr := Lib.hid (show tokB x z = true by unfold tokB; rw [decide_eq_true (show 0 ≤ z by omega), decide_eq_true h2]; rfl)
      have t2 : decide (x.v ≤ z) = false := decide_eq_false (by omega)
      have t3 : ¬ x.v ≤ z := by omega
      go_enter Tryz.func51, Tryz.ntmps51
      go_wp2_with (fail)
      exact bodyPost_ret (results_tmp rfl _ _ _) rfl ⟨by rw [hr.out]; rfl, Below.refl _ _⟩
    · have hr := Lib.hid (show tokB x z = false by unfold tokB; rw [decide_eq_false h2, Bool.and_false])
      have t3 : x.v ≤ z := by omega
      have t2 : decide (x.v ≤ z) = true := decide_eq_true t3
      go_enter Tryz.func51, Tryz.ntmps51
      go_wp2_with (fail)
      exact bodyPost_ret (results_tmp rfl _ _ _) rfl ⟨by rw [hr.out]; rfl, Below.refl _ _⟩
end
section
variable (w : World) (T : Option Addr) (m d : Nat) (ts : List Int) (most : Int)
set_option maxRecDepth 100000 in
theorem gen_check_nil : Calls Tryz.prog 23 #[.pointer none, .int .i64 most, .slice T m d] w fun e w' => e = .returned (.int .i64 2) ∧ Below w.heap.size w w' := by
  have HB0 := Lib.hid ((Below.refl w.heap.size w).alloc (Nat.le_refl _) (.cells #[.pointer none] 30 (0, 0)))
  go_enter Tryz.func23, Tryz.ntmps23
  go_wp2_with (fail)
  exact bodyPost_ret (results_tmp rfl _ _ _) rfl ⟨rfl, HB0.out⟩
set_option maxRecDepth 100000 in
set_option maxHeartbeats 3200000 in
theorem gen_check (b : Nat) (x : Cfg) (s : ByteArray) (h : w.heap[b]? = some (brO x s)) (hT : ts.length = m) (hm : m ≤ 1000000) (hK : KIn .i64 w T ts) :
    Calls Tryz.prog 23 #[.pointer (some ⟨b, 0, none⟩), .int .i64 most, .slice T m d] w fun e w' => e = .returned (.int .i64 (errG x most ts)) ∧ Below w.heap.size w w' := by
  have hb0 := (Below.refl w.heap.size w).alloc (Nat.le_refl _) (bxO b)
  have HB0 := Lib.hid hb0
  have HN0 := Lib.hid (heap_alloc_new w (bxO b))
  have HH := Lib.hid h
  have HC2 := Lib.hid (fun W (hW : Below w.heap.size w W) (hX : W.heap[w.heap.size]? = some (bxO b)) => show Calls Tryz.prog 52 #[.slice T m d, .func (.func 51) #[] #[.pointer (some ⟨w.heap.size, 0, none⟩)]] W fun e w' => e = .returned (.bool (!ts.all (tokB x))) ∧ Below W.heap.size W w' from by
    have := any_ints W T m d 51 #[.pointer (some ⟨w.heap.size, 0, none⟩)] (fun i => !tokB x (ts.getD i 0)) ts hT hm (hK.below hW (Nat.le_refl _)) eg_gcheck1 (fun W2 hW2 j hj =>
      gen_check1 W2 b x s (Br.stays (Br.stays h hW) hW2) w.heap.size (bx_stays hX hW2) _)
    have e := all_range ts 0 (tokB x)
    rw [hT] at e
    rwa [e] at this)
  have x0 := bx0 HN0.out
  have HR := Lib.hid (show errG x most ts = if 0 < m ∧ 1 ≤ most ∧ most ≤ 32 then (if ts.all (tokB x) = true then (if (m : Int) + most ≤ x.c then 0 else 12) else 3) else 1 by
    unfold errG
    rw [hT])
  have HM := Lib.hid hm
  unfold bxO at HB0 HN0 x0 HC2
  clear h hK hb0 hT
  generalize errG x most ts = R at HR ⊢
  generalize ts.all (tokB x) = k2 at HC2 HR
  by_cases h0 : m = 0
  · subst h0
    have HR := Lib.hid (show R = 1 from HR.out.trans (if_neg (by omega)))
    go_enter Tryz.func23, Tryz.ntmps23
    go_wp2_with (fail)
    exact bodyPost_ret (results_tmp rfl _ _ _) rfl ⟨by rw [HR.out]; rfl, HB0.out⟩
  have t0 : ((m : Int) == 0) = false := beq_eq_false_iff_ne.2 (by omega)
  have HM0 := Lib.hid h0
  clear h0
  by_cases h1 : most < 1
  · have HR := Lib.hid (show R = 1 from HR.out.trans (if_neg (by omega)))
    have t1 : decide (most < 1) = true := decide_eq_true h1
    clear hm
    go_enter Tryz.func23, Tryz.ntmps23
    go_wp2_with (fail)
    exact bodyPost_ret (results_tmp rfl _ _ _) rfl ⟨by rw [HR.out]; rfl, HB0.out⟩
  have t1 : decide (most < 1) = false := decide_eq_false h1
  by_cases h2 : 32 < most
  · have HR := Lib.hid (show R = 1 from HR.out.trans (if_neg (by omega)))
    have t2 : decide (32 < most) = true := decide_eq_true h2
    clear hm
    go_enter Tryz.func23, Tryz.ntmps23
    go_wp2_with (fail)
    exact bodyPost_ret (results_tmp rfl _ _ _) rfl ⟨by rw [HR.out]; rfl, HB0.out⟩
  have t2 : decide (32 < most) = false := decide_eq_false h2
  have HR1 := Lib.hid (HR.out.trans (if_pos ⟨by have := HM0.out; omega, by omega, by omega⟩))
  have HMO := Lib.hid (show 1 ≤ most ∧ most ≤ 32 by omega)
  clear HR
  cases k2 with
  | false =>
    have HR := Lib.hid (show R = 3 from HR1.out)
    clear hm
    go_enter Tryz.func23, Tryz.ntmps23
    go_wp2_with (fail)
    refine (HC2.out _ HB0.out HN0.out).mono ?_
    rintro e w3 ⟨rfl, b3⟩
    have HB3 := Lib.hid (HB0.out.trans (b3.mono HB0.out.size))
    clear b3
    go_wp2_with (fail)
    exact bodyPost_ret (results_tmp rfl _ _ _) rfl ⟨by rw [HR.out]; rfl, HB3.out⟩
  | true =>
    have HR2 := Lib.hid (show R = if (m : Int) + most ≤ x.c then 0 else 12 from HR1.out)
    have HS := Lib.hid (show wrap64 ((m : Int) + most) = (m : Int) + most from IntWalk.wrap64_in _ (by have := HM.out; have := HMO.out; omega))
    clear hm
    go_enter Tryz.func23, Tryz.ntmps23
    go_wp2_with (fail)
    refine (HC2.out _ HB0.out HN0.out).mono ?_
    rintro e w3 ⟨rfl, b3⟩
    have HB3 := Lib.hid (HB0.out.trans (b3.mono HB0.out.size))
    have HN3 := Lib.hid ((b3.block _ (Array.getElem?_eq_some_iff.1 HN0.out).1).trans HN0.out)
    obtain ⟨e0, e1, e2, e3, e4, e5, e6⟩ := seven (Br.stays HH.out HB3.out)
    have x0 := bx0 HN3.out
    have hs := HS.out
    clear b3
    by_cases hc : (m : Int) + most ≤ x.c
    · have HR := Lib.hid (show R = 0 from HR2.out.trans (if_pos hc))
      have t3 : ¬ x.c < (m : Int) + most := by omega
      have t4 : decide (x.c < (m : Int) + most) = false := decide_eq_false t3
      clear hc
      go_wp2_with (fail)
      exact bodyPost_ret (results_tmp rfl _ _ _) rfl ⟨by rw [HR.out]; rfl, HB3.out⟩
    · have HR := Lib.hid (show R = 12 from HR2.out.trans (if_neg hc))
      have t3 : x.c < (m : Int) + most := by omega
      have t4 : decide (x.c < (m : Int) + most) = true := decide_eq_true t3
      clear hc
      go_wp2_with (fail)
      exact bodyPost_ret (results_tmp rfl _ _ _) rfl ⟨by rw [HR.out]; rfl, HB3.out⟩
end
section
variable (w : World) (d : Int) (A : Option Addr) (n c : Nat) (zs : List Int)
set_option maxRecDepth 100000 in
set_option maxHeartbeats 1600000 in
theorem gen_next (hz : zs.length = n) (hm : n ≤ 1000000) (hA : KIn .i64 w A zs) (hp : POn w) :
    Calls Tryz.prog 43 #[.int .i64 d, .slice A n c] w fun e w' => e = .returned (.int .i64 (nextZ d zs)) ∧ Below w.heap.size w w' := by
  have HW := Lib.hid (soft_weights w A n c zs hz hm hA hp)
  have HX := Lib.hid (show nextZ d zs = if n = 0 then 0 else chooseL d (weightsL zs) by unfold nextZ; rw [hz])
  have HL := Lib.hid ((weightsL_length zs).trans hz)
  have HM := Lib.hid hm
  clear hz hm hA hp
  generalize nextZ d zs = R at HX ⊢
  generalize weightsL zs = L at HX HL HW
  by_cases h0 : n = 0
  · subst h0
    have HR := Lib.hid (show R = 0 from HX.out.trans (if_pos rfl))
    go_enter Tryz.func43, Tryz.ntmps43
    go_wp2_with (fail)
    exact bodyPost_ret (results_tmp rfl _ _ _) rfl ⟨by rw [HR.out]; rfl, Below.refl _ _⟩
  · have HR := Lib.hid (show R = chooseL d L from HX.out.trans (if_neg h0))
    have t0 : ((n : Int) == 0) = false := beq_eq_false_iff_ne.2 (by omega)
    unfold RowSays at HW
    rw [HL.out] at HW
    clear h0 HX
    go_enter Tryz.func43, Tryz.ntmps43
    go_wp2_with (fail)
    refine HW.out.mono ?_
    rintro e w1 ⟨B, q, rfl, hk, b1⟩
    have HC := Lib.hid (soft_choose w1 d B n q L HL.out HM.out hk)
    have HB := Lib.hid b1
    clear hk b1
    go_wp2_with (fail)
    refine HC.out.mono ?_
    rintro e w2 ⟨rfl, rfl⟩
    go_wp2_with (fail)
    exact bodyPost_ret (results_tmp rfl _ _ _) rfl ⟨by rw [HR.out]; rfl, HB.out⟩
end
end Go.Proofs.YtkdkeokldcehhaaGreatDoor
