/-
  Law 14's ActOpens: it answers true, whatever the two numbers are. Conditions: the table lies where the program looks.
-/
import Derived.Test.YtfpdlcblaodflaaDoorAcAwake14
namespace Go.Proofs.YtfpdlcblaodflaaDoor.actOpens
open Go.ChangeShapes Go.WideShapes Go.ChangeAt Go.RowKit Nm Vc Ac

/-- Whether a number is no activation. -/
def Out (x : Int) : Prop := 32767 < x ∨ x < -32767
set_option maxRecDepth 100000 in
set_option maxHeartbeats 800000 in
theorem walk_out (w : World) (a b : Int) (hp : GOn w) (h : Out a ∨ Out b) :
    Calls Tryd.prog 4 #[.int .i64 a, .int .i64 b] w fun e w' => e = .returned (.bool true) ∧ Below w.heap.size w w' := by
  have HW := Lib.hid (awake14 w hp)
  unfold Out at h
  by_cases h1 : 32767 < a
  · have t1 : decide (32767 < a) = true := decide_eq_true h1
    clear h
    go_enter Tryd.func4, Tryd.ntmps4
    go_wp2_with (fail)
    refine HW.out.mono ?_
    rintro e w1 ⟨rfl, b1⟩
    have B1 := Lib.hid b1
    clear b1
    go_wp2_with (fail)
    refine bodyPost_ret (results_tmp rfl _ _ _) rfl ?_
    exact ⟨rfl, B1.out⟩
  have t1 : decide (32767 < a) = false := decide_eq_false h1
  by_cases h2 : a < -32767
  · have t2 : decide (a < -32767) = true := decide_eq_true h2
    clear h
    go_enter Tryd.func4, Tryd.ntmps4
    go_wp2_with (fail)
    refine HW.out.mono ?_
    rintro e w1 ⟨rfl, b1⟩
    have B1 := Lib.hid b1
    clear b1
    go_wp2_with (fail)
    refine bodyPost_ret (results_tmp rfl _ _ _) rfl ?_
    exact ⟨rfl, B1.out⟩
  have t2 : decide (a < -32767) = false := decide_eq_false h2
  by_cases h3 : 32767 < b
  · have t3 : decide (32767 < b) = true := decide_eq_true h3
    clear h
    go_enter Tryd.func4, Tryd.ntmps4
    go_wp2_with (fail)
    refine HW.out.mono ?_
    rintro e w1 ⟨rfl, b1⟩
    have B1 := Lib.hid b1
    clear b1
    go_wp2_with (fail)
    refine bodyPost_ret (results_tmp rfl _ _ _) rfl ?_
    exact ⟨rfl, B1.out⟩
  have t3 : decide (32767 < b) = false := decide_eq_false h3
  have t4 : decide (b < -32767) = true := decide_eq_true (by omega)
  clear h
  go_enter Tryd.func4, Tryd.ntmps4
  go_wp2_with (fail)
  refine HW.out.mono ?_
  rintro e w1 ⟨rfl, b1⟩
  have B1 := Lib.hid b1
  clear b1
  go_wp2_with (fail)
  refine bodyPost_ret (results_tmp rfl _ _ _) rfl ?_
  exact ⟨rfl, B1.out⟩
set_option maxRecDepth 100000 in
set_option maxHeartbeats 6400000 in
theorem walk_in (w : World) (a b : Int) (hp : GOn w) (ha : ¬ Out a) (hb : ¬ Out b) :
    Calls Tryd.prog 4 #[.int .i64 a, .int .i64 b] w fun e w' => e = .returned (.bool true) ∧ Below w.heap.size w w' := by
  have HW := Lib.hid (awake14 w hp)
  have HP := Lib.hid hp
  unfold Out at ha hb
  have t1 : decide (32767 < a) = false := decide_eq_false (by omega)
  have t2 : decide (a < -32767) = false := decide_eq_false (by omega)
  have t3 : decide (32767 < b) = false := decide_eq_false (by omega)
  have t4 : decide (b < -32767) = false := decide_eq_false (by omega)
  have HOF := Lib.hid (fun (W : World) (h : GOn W) => act_of a W (by unfold Fits; omega) h)
  have HGA := Lib.hid (fun (W : World) (h : GOn W) => act_gate a W (by unfold Fits; omega) h)
  have HGB := Lib.hid (fun (W : World) (h : GOn W) => act_gate b W (by unfold Fits; omega) h)
  have HPR := Lib.hid (fun (W : World) (h : GOn W) (p q : Nat) (hA : KIn .i64 W (some ⟨p, 0, none⟩) [a]) (hB : KIn .i64 W (some ⟨q, 0, none⟩) [b]) =>
    show Calls Tryd.prog 13 #[.slice (some ⟨p, 0, none⟩) 1 1, .slice (some ⟨q, 0, none⟩) 1 1] W (fun e w' => ∃ g, e = .returned (.slice (some ⟨g, 0, none⟩) 1 1) ∧ w'.cell? ⟨g, 0, none⟩ = some (.int .i64 (thr a b)) ∧ Below W.heap.size W w') from
      (act_pairs_same W (some ⟨p, 0, none⟩) 1 [a] (some ⟨q, 0, none⟩) 1 1 [b] rfl rfl (by omega) hA hB (fit1 (by unfold Fits; omega)) h).mono fun e w' ⟨g, he, _, ho, hb⟩ =>
        ⟨g, he, (Own.kin ho).holds 0 (by show 0 < 1; omega), hb⟩)
  have g0 := gate_in a
  have u0 : decide (0 ≤ gate a) = true := decide_eq_true (by omega)
  have u1 : decide (gate a ≤ 256) = true := decide_eq_true (by omega)
  have HUP := Lib.hid (fun h => @gate_up a b h)
  have HXP := Lib.hid (fun (h : 0 ≤ a) => thr_pos (g := a) h (by omega))
  have HXN := Lib.hid (fun (h : a < 0) => thr_neg (g := a) h (by omega))
  have HYP := Lib.hid (fun (h : 0 ≤ b) => thr_pos (g := a) h (by omega))
  have HYN := Lib.hid (fun (h : b < 0) => thr_neg (g := a) h (by omega))
  clear hp ha hb g0
  generalize gate a = ga at HGA HUP u0 u1
  generalize gate b = gb at HGB HUP
  generalize thr a a = x at HOF HXP HXN
  generalize thr a b = y at HPR HYP HYN
  have each : ∀ A B C : Bool, decide (a < b) = A → decide (0 ≤ a) = B → decide (0 ≤ b) = C → Calls Tryd.prog 4 #[.int .i64 a, .int .i64 b] w fun e w' => e = .returned (.bool true) ∧ Below w.heap.size w w' := by
    intro A B C hA hB hC
    have c1 : A = true → decide (gb < ga) = false := fun h => decide_eq_false (by subst h; have := HUP.out (by have := of_decide_eq_true hA; omega); omega)
    have c2 : B = true → decide (x < 0) = false ∧ decide (a < x) = false ∧ decide (a < 0) = false := fun h => by
      subst h
      have h1 := of_decide_eq_true hB
      have h2 := HXP.out h1
      exact ⟨decide_eq_false (by omega), decide_eq_false (by omega), decide_eq_false (by omega)⟩
    have c3 : B = false → decide (0 < x) = false ∧ decide (x < a) = false ∧ decide (a < 0) = true := fun h => by
      subst h
      have h1 := of_decide_eq_false hB
      have h2 := HXN.out (by omega)
      exact ⟨decide_eq_false (by omega), decide_eq_false (by omega), decide_eq_true (by omega)⟩
    have c4 : C = true → decide (0 ≤ y) = true ∧ decide (y ≤ b) = true ∧ decide (b < 0) = false := fun h => by
      subst h
      have h1 := of_decide_eq_true hC
      have h2 := HYP.out h1
      exact ⟨decide_eq_true (by omega), decide_eq_true (by omega), decide_eq_false (by omega)⟩
    have c5 : C = false → decide (y ≤ 0) = true ∧ decide (b ≤ y) = true ∧ decide (b < 0) = true := fun h => by
      subst h
      have h1 := of_decide_eq_false hC
      have h2 := HYN.out (by omega)
      exact ⟨decide_eq_true (by omega), decide_eq_true (by omega), decide_eq_true (by omega)⟩
    clear HUP HXP HXN HYP HYN
    cases A <;> cases B <;> cases C <;>
      (first
        | (have c1' := c1 rfl; clear c1)
        | clear c1) <;>
      (first
        | (obtain ⟨d1, d2, d3⟩ := c2 rfl; clear c2 c3)
        | (obtain ⟨d1, d2, d3⟩ := c3 rfl; clear c2 c3)) <;>
      (first
        | (obtain ⟨d4, d5, d6⟩ := c4 rfl; clear c4 c5)
        | (obtain ⟨d4, d5, d6⟩ := c5 rfl; clear c4 c5))
    all_goals (
      go_enter Tryd.func4, Tryd.ntmps4
      go_wp2_with (fail)
      refine HW.out.mono ?_
      rintro e w1 ⟨rfl, b1⟩
      have B1 := Lib.hid b1
      have P1 := Lib.hid (HP.out.below b1 (Nat.le_refl _))
      clear b1
      go_wp2_with (fail)
      refine (HOF.out _ P1.out).mono ?_
      rintro e w2 ⟨rfl, k2, rfl⟩
      have B2 := Lib.hid (below_drewN B1.out k2)
      have P2 := Lib.hid (P1.out.drewN k2)
      clear B1 P1
      generalize w1.drewN k2 = w2 at B2 P2 ⊢
      go_wp2_with (first
        | (go_at_call 7; (with_reducible refine (HGA.out _ P2.out).mono ?_); rintro e w3 ⟨rfl, rfl⟩)
        | (go_at_call 7; (with_reducible refine (HGB.out _ P2.out).mono ?_); rintro e w3 ⟨rfl, rfl⟩))
      have b3 := (Below.refl w2.heap.size w2).alloc (Nat.le_refl _) (.cells #[.int .i64 a] 3)
      have b4 := b3.alloc (by simp) (.cells #[.int .i64 b] 3)
      refine (HPR.out _ (P2.out.below b4 (Nat.le_refl _)) _ _ ((kin1 w2 _ a rfl).alloc _) (kin1 _ (w2.heap.size + 1) b (by simp))).mono ?_
      rintro e w5 ⟨g5, rfl, hc5, b5⟩
      have B5 := Lib.hid (B2.out.trans ((b4.trans (b5.mono b4.size)).mono B2.out.size))
      clear b3 b4 b5
      go_wp2_with (fail)
      refine bodyPost_ret (results_tmp rfl _ _ _) rfl ?_
      exact ⟨rfl, B5.out⟩)
  exact each _ _ _ rfl rfl rfl
theorem walk (w : World) (a b : Int) (hp : GOn w) :
    Calls Tryd.prog 4 #[.int .i64 a, .int .i64 b] w fun e w' => e = .returned (.bool true) ∧ Below w.heap.size w w' := by
  by_cases h : Out a ∨ Out b
  · exact walk_out w a b hp h
  · exact walk_in w a b hp (fun h1 => h (.inl h1)) (fun h1 => h (.inr h1))
end Go.Proofs.YtfpdlcblaodflaaDoor.actOpens
