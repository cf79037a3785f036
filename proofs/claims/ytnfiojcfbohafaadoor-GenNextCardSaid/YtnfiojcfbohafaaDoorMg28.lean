/-
  The reference of layer 18: Next. Conditions: the scores are there, few.
  GenNext: of every draw and scores the token is the document's. The walk. Condition: the tables lie where they are looked up.
-/
import Derived.Test.YtnfiojcfbohafaaDoorMg18
import Derived.Test.YtnfiojcfbohafaaDoorMg27
import Derived.Test.YtnfiojcfbohafaaDoorMg26
set_option maxRecDepth 100000
namespace Go.Proofs.YtnfiojcfbohafaaDoor
open Go.ChangeShapes Go.WideShapes Go.ChangeAt Go.RowKit Vc Sf Sp Gn

namespace Gn
theorem next_max (d : Int) {sc : List Int} (h : sc.length ≤ 64) : nextZ d sc = max (chooseL d (weightsL sc)) 0 := by
  by_cases h0 : sc.length = 0
  · obtain rfl := List.length_eq_zero_iff.1 h0
    have h1 : ¬ okP (weightsL []) := fun h => by have := h.2.2; simp [weightsL, total] at this
    rw [choose_not h1]
    rfl
  · have h1 := next_in (d := d) (sc := sc) (by omega) h
    unfold nextZ at h1 ⊢
    rw [if_neg h0] at h1 ⊢
    omega
end Gn
section
variable (w : World) (d : Int) (A : Option Addr) (n c : Nat) (zs : List Int)
set_option maxRecDepth 100000 in
set_option maxHeartbeats 800000 in
theorem ref18_next (hz : zs.length = n) (hm : n ≤ 64) (hA : KIn .i64 w A zs) :
    Calls Tryd.prog 9 #[.int .i64 d, .slice A n c] w fun e w' => e = .returned (.int .i64 (nextZ d zs)) ∧ Below w.heap.size w w' := by
  have HW := Lib.hid (ref12_weights w A n c zs hz (by omega) hA)
  have HX := Lib.hid (next_max d (sc := zs) (by omega))
  have HL := Lib.hid ((weightsL_length zs).trans hz)
  have HM := Lib.hid hm
  clear hz hm hA
  generalize nextZ d zs = R at HX ⊢
  generalize weightsL zs = L at HX HL HW
  unfold RowSays at HW
  rw [HL.out] at HW
  have HR := Lib.hid HX.out
  have HC := Lib.hid (fun W B q (hk : KIn .i64 W B L) => ref12_choose W d B n q L HL.out (by have := HM.out; omega) hk)
  clear HX
  generalize chooseL d L = u at HC HR
  go_enter Tryd.func9, Tryd.ntmps9
  go_wp2_with (fail)
  refine HW.out.mono ?_
  rintro e w1 ⟨B, q, rfl, hk, b1⟩
  have HC := Lib.hid (HC.out w1 B q hk)
  have HB := Lib.hid b1
  clear hk b1
  go_wp2_with (fail)
  refine HC.out.mono ?_
  rintro e w2 ⟨rfl, rfl⟩
  go_wp2_with (fail)
  exact bodyPost_ret (results_tmp rfl _ _ _) rfl ⟨by rw [HR.out]; rfl, HB.out⟩
end
end Go.Proofs.YtnfiojcfbohafaaDoor
namespace Go.Proofs.YtnfiojcfbohafaaDoor
open Go.ChangeShapes Go.WideShapes Go.ChangeAt Go.RowKit Cf Vc Br Nr Sf Ac Sp Gn

namespace genNext
set_option maxRecDepth 100000 in
set_option maxHeartbeats 1600000 in
theorem walk (w : World) (d : Int) (T : Option Addr) (n c : Nat) (ts : List Int) (hts : ts.length = n) (hK : KIn .i64 w T ts) (hT : POn w ∧ GOn w) : Calls Tryd.prog 3 #[.int .i64 d, .slice T n c] w fun e w' => e = .returned (.bool true) ∧ Below w.heap.size w w' := by
  have HAW := Lib.hid (awake18 w hT.1 hT.2)
  have HP := Lib.hid hT.1
  have HK := Lib.hid hK
  have HL := Lib.hid hts
  clear hT hK hts
  by_cases h : 40 < n
  · have t0 : 40 < (n : Int) := by omega
    have t1 : decide (40 < (n : Int)) = true := decide_eq_true t0
    clear h
    go_enter Tryd.func3, Tryd.ntmps3
    go_wp2_with (fail)
    refine HAW.out.mono ?_
    rintro e w1 ⟨rfl, b1⟩
    have HB1 := Lib.hid b1
    clear b1
    go_wp2_with (fail)
    exact bodyPost_ret (results_tmp rfl _ _ _) rfl ⟨rfl, HB1.out⟩
  · have t0 : ¬ 40 < (n : Int) := by omega
    have t1 : decide (40 < (n : Int)) = false := decide_eq_false t0
    have HN := Lib.hid (show n ≤ 40 by omega)
    clear h
    go_enter Tryd.func3, Tryd.ntmps3
    go_wp2_with (fail)
    refine HAW.out.mono ?_
    rintro e w1 ⟨rfl, b1⟩
    have HB1 := Lib.hid b1
    clear b1
    go_wp2_with (fail)
    refine (gen_next w1 d T n c ts HL.out (by have := HN.out; omega) (HK.out.below HB1.out (Nat.le_refl _)) (HP.out.below HB1.out (Nat.le_refl _))).mono ?_
    rintro e w2 ⟨rfl, b2⟩
    have HB2 := Lib.hid (HB1.out.trans (b2.mono HB1.out.size))
    clear b2
    go_wp2_with (fail)
    refine (ref18_next w2 d T n c ts HL.out (by have := HN.out; omega) (HK.out.below HB2.out (Nat.le_refl _))).mono ?_
    rintro e w3 ⟨rfl, b3⟩
    have HB3 := Lib.hid (HB2.out.trans (b3.mono HB2.out.size))
    clear b3
    have t2 : (nextZ d ts == nextZ d ts) = true := beq_self_eq_true _
    generalize nextZ d ts = z at t2 ⊢
    go_wp2_with (fail)
    exact bodyPost_ret (results_tmp rfl _ _ _) rfl ⟨rfl, HB3.out⟩
end genNext
end Go.Proofs.YtnfiojcfbohafaaDoor
