/-
  Package patch: inside, tellable and Good; the reference's Good. No conditions.
-/
import Derived.Test.YtiehpaffbaafcaaPtSpec
namespace Go.Proofs.Ytiehpaffbaafcaa
open Go.ChangeShapes Go.WideShapes Go.ChangeAt Go.RowKit Pn Pt

set_option maxRecDepth 100000 in
theorem pt_inside (n f s : Int) (hn0 : 0 ≤ n) (hn : n ≤ 9223372036854775807) (w : World) : Calls Try.prog 31 #[.int .i64 n, .int .i64 f, .int .i64 s] w fun e w' => e = .returned (.bool (insZ n f s)) ∧ w = w' := by
  have fin : ∀ a b c d : Bool, decide (1 ≤ s) = a → decide (s ≤ n) = b → decide (0 ≤ f) = c → decide (f ≤ n - s) = d → insZ n f s = (a && b && c && d) := fun a b c d h1 h2 h3 h4 => by unfold insZ; rw [h1, h2, h3, h4]
  have HF := Lib.hid fin
  clear fin
  by_cases h1 : 1 ≤ s
  · have t1 : decide (1 ≤ s) = true := decide_eq_true h1
    by_cases h2 : s ≤ n
    · have t2 : decide (s ≤ n) = true := decide_eq_true h2
      by_cases h3 : 0 ≤ f
      · have t3 : decide (0 ≤ f) = true := decide_eq_true h3
        have e1 : IntKind.i64.wrap (n - s) = n - s := IntWalk.i64_in _ (by omega)
        have HG := Lib.hid (HF.out _ _ _ _ t1 t2 t3 rfl)
        go_enter Try.func31, Try.ntmps31
        go_wp2_with (fail)
        refine bodyPost_ret (results_tmp rfl _ _ _) rfl ?_
        rw [HG.out]
        exact ⟨rfl, rfl⟩
      · have t3 : decide (0 ≤ f) = false := decide_eq_false h3
        have HG := Lib.hid (HF.out _ _ _ _ t1 t2 t3 rfl)
        go_enter Try.func31, Try.ntmps31
        go_wp2_with (fail)
        refine bodyPost_ret (results_tmp rfl _ _ _) rfl ?_
        rw [HG.out]
        exact ⟨rfl, rfl⟩
    · have t2 : decide (s ≤ n) = false := decide_eq_false h2
      have HG := Lib.hid (HF.out _ _ _ _ t1 t2 rfl rfl)
      go_enter Try.func31, Try.ntmps31
      go_wp2_with (fail)
      refine bodyPost_ret (results_tmp rfl _ _ _) rfl ?_
      rw [HG.out]
      exact ⟨rfl, rfl⟩
  · have t1 : decide (1 ≤ s) = false := decide_eq_false h1
    have HG := Lib.hid (HF.out _ _ _ _ t1 rfl rfl rfl)
    go_enter Try.func31, Try.ntmps31
    go_wp2_with (fail)
    refine bodyPost_ret (results_tmp rfl _ _ _) rfl ?_
    rw [HG.out]
    exact ⟨rfl, rfl⟩
set_option maxRecDepth 100000 in
theorem pt_tellable (d : ByteArray) (w : World) : Calls Try.prog 32 #[.string d] w fun e w' => e = .returned (.bool (telB d)) ∧ w = w' := by
  by_cases h1 : 1 ≤ d.size
  · have t1 : decide (1 ≤ (d.size : Int)) = true := decide_eq_true (by omega)
    have HG := Lib.hid (show telB d = decide ((d.size : Int) ≤ 8192) by unfold telB; rw [decide_eq_true h1, Bool.true_and]; exact decide_eq_decide.2 (by omega))
    have h1' : (1 : Int) ≤ (d.size : Int) := by omega
    go_enter Try.func32, Try.ntmps32
    go_wp2_with (fail)
    refine bodyPost_ret (results_tmp rfl _ _ _) rfl ?_
    rw [HG.out]
    exact ⟨rfl, rfl⟩
  · have t1 : decide (1 ≤ (d.size : Int)) = false := decide_eq_false (by omega)
    have HG := Lib.hid (show telB d = false by unfold telB; rw [decide_eq_false h1, Bool.false_and])
    have h1' : ¬ (1 : Int) ≤ (d.size : Int) := by omega
    go_enter Try.func32, Try.ntmps32
    go_wp2_with (fail)
    refine bodyPost_ret (results_tmp rfl _ _ _) rfl ?_
    rw [HG.out]
    exact ⟨rfl, rfl⟩
theorem str_some {d : ByteArray} (h : decide (d.size = 0) = false) : d.toList.isEmpty = false := not_empty (by have := of_decide_eq_false h; omega)
set_option maxRecDepth 100000 in
set_option maxHeartbeats 3200000 in
theorem pt_good (n : Int) (hn0 : 0 ≤ n) (hn : n ≤ 9223372036854775807) (o : Deed) (w : World) : Calls Try.prog 15 #[.int .i64 n, dv o] w fun e w' => e = .returned (.bool (okD n o)) ∧ Below w.heap.size w w' := by
  have HB := Lib.hid ((Below.refl w.heap.size w).alloc (Nat.le_refl _) (.cells #[.int .i64 o.k, .int .i64 o.f, .int .i64 o.s, .string o.d] 42))
  have HI := Lib.hid (fun f s W => pt_inside n f s hn0 hn W)
  have HT := Lib.hid (fun W => pt_tellable o.d W)
  have fin : okD n o = if o.k = 1 then decide (o.d.size = 0) && insZ n o.f o.s else if o.k = 2 then decide (o.f = 0) && decide (o.s = 0) && telB o.d else if o.k = 3 then decide (o.s = 0) && telB o.d && insZ n o.f (o.d.size : Int) else false := rfl
  obtain ⟨k, f, s, d⟩ := o
  unfold dv
  simp only at fin HB HT
  have HF := Lib.hid fin
  clear fin hn0 hn
  by_cases hk1 : k = 1
  · subst hk1
    have HG := Lib.hid (HF.out.trans (if_pos rfl))
    clear HF
    cases hd : decide (d.size = 0) with
    | true =>
      obtain rfl := empty_of_size (of_decide_eq_true hd)
      cases hq : insZ n f s
      all_goals
        rw [hd, hq] at HG
        go_enter Try.func15, Try.ntmps15
        go_wp2_with (first | (go_at_call 31; refine (HI.out _ _ _).mono ?_; rintro e w' ⟨rfl, rfl⟩; rw [hq]))
        refine bodyPost_ret (results_tmp rfl _ _ _) rfl ?_
        rw [HG.out]
        exact ⟨rfl, HB.out⟩
    | false =>
      have he := str_some hd
      rw [hd, Bool.false_and] at HG
      go_enter Try.func15, Try.ntmps15
      go_wp2_with (fail)
      refine bodyPost_ret (results_tmp rfl _ _ _) rfl ?_
      rw [HG.out]
      exact ⟨rfl, HB.out⟩
  have k1 : decide (k = 1) = false := decide_eq_false hk1
  by_cases hk2 : k = 2
  · subst hk2
    have HG := Lib.hid (HF.out.trans ((if_neg (by decide)).trans (if_pos rfl)))
    clear HF
    by_cases hf : f = 0
    · subst hf
      by_cases hs : s = 0
      · subst hs
        cases ht : telB d
        all_goals
          rw [ht] at HG
          go_enter Try.func15, Try.ntmps15
          go_wp2_with (first | (go_at_call 32; refine (HT.out _).mono ?_; rintro e w' ⟨rfl, rfl⟩; rw [ht]))
          refine bodyPost_ret (results_tmp rfl _ _ _) rfl ?_
          rw [HG.out]
          exact ⟨rfl, HB.out⟩
      · have s1 : decide (s = 0) = false := decide_eq_false hs
        rw [s1] at HG
        go_enter Try.func15, Try.ntmps15
        go_wp2_with (fail)
        refine bodyPost_ret (results_tmp rfl _ _ _) rfl ?_
        rw [HG.out]
        exact ⟨rfl, HB.out⟩
    · have f1 : decide (f = 0) = false := decide_eq_false hf
      rw [f1] at HG
      go_enter Try.func15, Try.ntmps15
      go_wp2_with (fail)
      refine bodyPost_ret (results_tmp rfl _ _ _) rfl ?_
      rw [HG.out]
      exact ⟨rfl, HB.out⟩
  have k2 : decide (k = 2) = false := decide_eq_false hk2
  by_cases hk3 : k = 3
  · subst hk3
    have HG := Lib.hid (HF.out.trans ((if_neg (by decide)).trans ((if_neg (by decide)).trans (if_pos rfl))))
    clear HF
    by_cases hs : s = 0
    · subst hs
      cases ht : telB d with
      | false =>
        rw [ht] at HG
        go_enter Try.func15, Try.ntmps15
        go_wp2_with (first | (go_at_call 32; refine (HT.out _).mono ?_; rintro e w' ⟨rfl, rfl⟩; rw [ht]))
        refine bodyPost_ret (results_tmp rfl _ _ _) rfl ?_
        rw [HG.out]
        exact ⟨rfl, HB.out⟩
      | true =>
        cases hq : insZ n f (d.size : Int)
        all_goals
          rw [ht, hq] at HG
          go_enter Try.func15, Try.ntmps15
          go_wp2_with (first | (go_at_call 32; refine (HT.out _).mono ?_; rintro e w' ⟨rfl, rfl⟩; rw [ht]) | (go_at_call 31; refine (HI.out _ _ _).mono ?_; rintro e w' ⟨rfl, rfl⟩; rw [hq]))
          refine bodyPost_ret (results_tmp rfl _ _ _) rfl ?_
          rw [HG.out]
          exact ⟨rfl, HB.out⟩
    · have s1 : decide (s = 0) = false := decide_eq_false hs
      rw [s1] at HG
      go_enter Try.func15, Try.ntmps15
      go_wp2_with (fail)
      refine bodyPost_ret (results_tmp rfl _ _ _) rfl ?_
      rw [HG.out]
      exact ⟨rfl, HB.out⟩
  have k3 : decide (k = 3) = false := decide_eq_false hk3
  have HG := Lib.hid (HF.out.trans ((if_neg hk1).trans ((if_neg hk2).trans (if_neg hk3))))
  clear HF
  go_enter Try.func15, Try.ntmps15
  go_wp2_with (fail)
  refine bodyPost_ret (results_tmp rfl _ _ _) rfl ?_
  rw [HG.out]
  exact ⟨rfl, HB.out⟩
end Go.Proofs.Ytiehpaffbaafcaa
