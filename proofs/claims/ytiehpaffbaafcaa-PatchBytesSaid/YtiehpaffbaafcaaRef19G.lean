/-
  The reference of layer 19: Good, of a base of 2^31 - 1 bytes. No conditions.
-/
import Derived.Test.YtiehpaffbaafcaaPtSpec
import Derived.Test.YtiehpaffbaafcaaPtMem
import Derived.Test.YtiehpaffbaafcaaPenEye
namespace Go.Proofs.Ytiehpaffbaafcaa
open Go.ChangeShapes Go.WideShapes Go.ChangeAt Go.RowKit Pn Pt
namespace Pt
theorem ok_copy {f s : Int} {d : ByteArray} (hd : d.size = 0) (h1 : 1 ≤ s) (h2 : 0 ≤ f) (h3 : s ≤ 2147483647 - f) : okD mxB ⟨1, f, s, d⟩ = true := by
  show (decide (d.size = 0) && insZ mxB f s) = true
  rw [decide_eq_true hd, ins_iff.2 ⟨h1, by unfold mxB; omega, h2, by unfold mxB; omega⟩]
  rfl
theorem ok_lay {f s : Int} {d : ByteArray} (h1 : f = 0) (h2 : s = 0) (h3 : 1 ≤ d.size) (h4 : d.size ≤ 8192) : okD mxB ⟨2, f, s, d⟩ = true := by
  show (decide (f = 0) && decide (s = 0) && telB d) = true
  rw [decide_eq_true h1, decide_eq_true h2, tel_iff.2 ⟨h3, h4⟩]
  rfl
theorem ok_add {f s : Int} {d : ByteArray} (h1 : s = 0) (h2 : 1 ≤ d.size) (h3 : d.size ≤ 8192) (h4 : 0 ≤ f) (h5 : (d.size : Int) ≤ 2147483647 - f) : okD mxB ⟨3, f, s, d⟩ = true := by
  show (decide (s = 0) && telB d && insZ mxB f (d.size : Int)) = true
  rw [decide_eq_true h1, tel_iff.2 ⟨h2, h3⟩, ins_iff.2 ⟨by omega, by unfold mxB; omega, h4, by unfold mxB; omega⟩]
  rfl
theorem not_copy {f s : Int} {d : ByteArray} (h : ¬ (1 ≤ s ∧ 0 ≤ f ∧ f ≤ 2147483647 ∧ s ≤ 2147483647 - f ∧ d.size = 0)) : okD mxB ⟨1, f, s, d⟩ = false := Bool.eq_false_iff.2 fun hg => by
  rcases way hg with ⟨hk, hd, hi⟩ | ⟨hk, _⟩ | ⟨hk, _⟩
  · have := ins_iff.1 hi
    unfold mxB at this
    simp only at hd this
    omega
  · exact absurd hk (show ¬ (1 : Int) = 2 by decide)
  · exact absurd hk (show ¬ (1 : Int) = 3 by decide)
theorem not_lay {f s : Int} {d : ByteArray} (h : ¬ (f = 0 ∧ s = 0 ∧ 1 ≤ d.size ∧ d.size ≤ 8192)) : okD mxB ⟨2, f, s, d⟩ = false := Bool.eq_false_iff.2 fun hg => by
  rcases way hg with ⟨hk, _⟩ | ⟨hk, hf, hs, ht⟩ | ⟨hk, _⟩
  · exact absurd hk (show ¬ (2 : Int) = 1 by decide)
  · have := tel_iff.1 ht
    simp only at hf hs this
    omega
  · exact absurd hk (show ¬ (2 : Int) = 3 by decide)
theorem not_add {f s : Int} {d : ByteArray} (h : ¬ (s = 0 ∧ 1 ≤ d.size ∧ d.size ≤ 8192 ∧ 0 ≤ f ∧ f ≤ 2147483647 ∧ (d.size : Int) ≤ 2147483647 - f)) : okD mxB ⟨3, f, s, d⟩ = false := Bool.eq_false_iff.2 fun hg => by
  rcases way hg with ⟨hk, _⟩ | ⟨hk, _⟩ | ⟨hk, hs, ht, hi⟩
  · exact absurd hk (show ¬ (3 : Int) = 1 by decide)
  · exact absurd hk (show ¬ (3 : Int) = 2 by decide)
  · have h1 := tel_iff.1 ht
    have h2 := ins_iff.1 hi
    unfold mxB at h2
    simp only at hs h1 h2
    omega
theorem not_none {k f s : Int} {d : ByteArray} (h1 : ¬ k = 1) (h2 : ¬ k = 2) (h3 : ¬ k = 3) : okD mxB ⟨k, f, s, d⟩ = false := Bool.eq_false_iff.2 fun hg => by
  rcases way hg with ⟨hk, _⟩ | ⟨hk, _⟩ | ⟨hk, _⟩
  · exact h1 hk
  · exact h2 hk
  · exact h3 hk
theorem data_some {d : ByteArray} (h : ¬ d.size = 0) : d.toList.isEmpty = false := not_empty (by omega)
end Pt
set_option maxRecDepth 100000 in
set_option maxHeartbeats 6400000 in
theorem ref19_good (o : Deed) (w : World) : Calls Try.prog 19 #[.int .i64 2147483647, dv o] w fun e w' => e = .returned (.bool (okD mxB o)) ∧ Below w.heap.size w w' := by
  have HB := Lib.hid ((Below.refl w.heap.size w).alloc (Nat.le_refl _) (.cells #[.int .i64 o.k, .int .i64 o.f, .int .i64 o.s, .string o.d] 38))
  obtain ⟨k, f, s, d⟩ := o
  unfold dv
  simp only at HB
  generalize hV : okD mxB ⟨k, f, s, d⟩ = V
  have HV := Lib.hid hV
  clear hV
  by_cases k1 : k = 1
  · subst k1
    by_cases c0 : 1 ≤ s
    · have t0 : decide (1 ≤ s) = true := decide_eq_true (by omega)
      by_cases c1 : 0 ≤ f
      · have t1 : decide (0 ≤ f) = true := decide_eq_true (by omega)
        by_cases c2 : f ≤ 2147483647
        · have t2 : decide (f ≤ 2147483647) = true := decide_eq_true (by omega)
          by_cases c3 : s ≤ 2147483647 - f
          · have e1 := IntWalk.wrap64_in (2147483647 - f) (by omega)
            have e2 : IntKind.i64.wrap (2147483647 - f) = 2147483647 - f := IntWalk.i64_in _ (by omega)
            have t3 : decide (s ≤ 2147483647 - f) = true := decide_eq_true (by omega)
            by_cases c4 : d.size = 0
            · have z4 := c4
              obtain rfl := empty_of_size c4
              have HG := Lib.hid (HV.out.symm.trans (ok_copy (by rfl) (by omega) (by omega) (by omega)))
              clear HV
              go_enter Try.func19, Try.ntmps19
              go_wp2_with (fail)
              refine bodyPost_ret (results_tmp rfl _ _ _) rfl ?_
              rw [HG.out]
              exact ⟨rfl, HB.out⟩
            · have t4 := data_some c4
              have HG := Lib.hid (HV.out.symm.trans (not_copy (by omega)))
              clear HV
              go_enter Try.func19, Try.ntmps19
              go_wp2_with (fail)
              refine bodyPost_ret (results_tmp rfl _ _ _) rfl ?_
              rw [HG.out]
              exact ⟨rfl, HB.out⟩
          · have e1 := IntWalk.wrap64_in (2147483647 - f) (by omega)
            have e2 : IntKind.i64.wrap (2147483647 - f) = 2147483647 - f := IntWalk.i64_in _ (by omega)
            have t3 : decide (s ≤ 2147483647 - f) = false := decide_eq_false (by omega)
            have HG := Lib.hid (HV.out.symm.trans (not_copy (by omega)))
            clear HV
            go_enter Try.func19, Try.ntmps19
            go_wp2_with (fail)
            refine bodyPost_ret (results_tmp rfl _ _ _) rfl ?_
            rw [HG.out]
            exact ⟨rfl, HB.out⟩
        · have t2 : decide (f ≤ 2147483647) = false := decide_eq_false (by omega)
          have HG := Lib.hid (HV.out.symm.trans (not_copy (by omega)))
          clear HV
          go_enter Try.func19, Try.ntmps19
          go_wp2_with (fail)
          refine bodyPost_ret (results_tmp rfl _ _ _) rfl ?_
          rw [HG.out]
          exact ⟨rfl, HB.out⟩
      · have t1 : decide (0 ≤ f) = false := decide_eq_false (by omega)
        have HG := Lib.hid (HV.out.symm.trans (not_copy (by omega)))
        clear HV
        go_enter Try.func19, Try.ntmps19
        go_wp2_with (fail)
        refine bodyPost_ret (results_tmp rfl _ _ _) rfl ?_
        rw [HG.out]
        exact ⟨rfl, HB.out⟩
    · have t0 : decide (1 ≤ s) = false := decide_eq_false (by omega)
      have HG := Lib.hid (HV.out.symm.trans (not_copy (by omega)))
      clear HV
      go_enter Try.func19, Try.ntmps19
      go_wp2_with (fail)
      refine bodyPost_ret (results_tmp rfl _ _ _) rfl ?_
      rw [HG.out]
      exact ⟨rfl, HB.out⟩
  have j1 : (k == 1) = false := beq_eq_false_iff_ne.2 k1
  by_cases k2 : k = 2
  · subst k2
    by_cases c0 : f = 0
    · subst c0
      by_cases c1 : s = 0
      · subst c1
        by_cases c2 : 1 ≤ d.size
        · have t2 : decide (1 ≤ (d.size : Int)) = true := decide_eq_true (by omega)
          have u2 : 1 ≤ (d.size : Int) := by omega
          by_cases c3 : d.size ≤ 8192
          · have t3 : decide ((d.size : Int) ≤ 8192) = true := decide_eq_true (by omega)
            have u3 : (d.size : Int) ≤ 8192 := by omega
            have HG := Lib.hid (HV.out.symm.trans (ok_lay rfl rfl (by omega) (by omega)))
            clear HV
            go_enter Try.func19, Try.ntmps19
            go_wp2_with (fail)
            refine bodyPost_ret (results_tmp rfl _ _ _) rfl ?_
            rw [HG.out]
            exact ⟨rfl, HB.out⟩
          · have t3 : decide ((d.size : Int) ≤ 8192) = false := decide_eq_false (by omega)
            have u3 : ¬ ((d.size : Int) ≤ 8192) := by omega
            have HG := Lib.hid (HV.out.symm.trans (not_lay (by omega)))
            clear HV
            go_enter Try.func19, Try.ntmps19
            go_wp2_with (fail)
            refine bodyPost_ret (results_tmp rfl _ _ _) rfl ?_
            rw [HG.out]
            exact ⟨rfl, HB.out⟩
        · have t2 : decide (1 ≤ (d.size : Int)) = false := decide_eq_false (by omega)
          have u2 : ¬ (1 ≤ (d.size : Int)) := by omega
          have HG := Lib.hid (HV.out.symm.trans (not_lay (by omega)))
          clear HV
          go_enter Try.func19, Try.ntmps19
          go_wp2_with (fail)
          refine bodyPost_ret (results_tmp rfl _ _ _) rfl ?_
          rw [HG.out]
          exact ⟨rfl, HB.out⟩
      · have t1 : (s == 0) = false := beq_eq_false_iff_ne.2 c1
        have v1 : decide (s = 0) = false := decide_eq_false c1
        have HG := Lib.hid (HV.out.symm.trans (not_lay (by omega)))
        clear HV
        go_enter Try.func19, Try.ntmps19
        go_wp2_with (fail)
        refine bodyPost_ret (results_tmp rfl _ _ _) rfl ?_
        rw [HG.out]
        exact ⟨rfl, HB.out⟩
    · have t0 : (f == 0) = false := beq_eq_false_iff_ne.2 c0
      have v0 : decide (f = 0) = false := decide_eq_false c0
      have HG := Lib.hid (HV.out.symm.trans (not_lay (by omega)))
      clear HV
      go_enter Try.func19, Try.ntmps19
      go_wp2_with (fail)
      refine bodyPost_ret (results_tmp rfl _ _ _) rfl ?_
      rw [HG.out]
      exact ⟨rfl, HB.out⟩
  have j2 : (k == 2) = false := beq_eq_false_iff_ne.2 k2
  by_cases k3 : k = 3
  · subst k3
    by_cases c0 : s = 0
    · subst c0
      by_cases c1 : 1 ≤ d.size
      · have t1 : decide (1 ≤ (d.size : Int)) = true := decide_eq_true (by omega)
        have u1 : 1 ≤ (d.size : Int) := by omega
        by_cases c2 : d.size ≤ 8192
        · have t2 : decide ((d.size : Int) ≤ 8192) = true := decide_eq_true (by omega)
          have u2 : (d.size : Int) ≤ 8192 := by omega
          by_cases c3 : 0 ≤ f
          · have t3 : decide (0 ≤ f) = true := decide_eq_true (by omega)
            by_cases c4 : f ≤ 2147483647
            · have t4 : decide (f ≤ 2147483647) = true := decide_eq_true (by omega)
              by_cases c5 : (d.size : Int) ≤ 2147483647 - f
              · have e1 := IntWalk.wrap64_in (2147483647 - f) (by omega)
                have e2 : IntKind.i64.wrap (2147483647 - f) = 2147483647 - f := IntWalk.i64_in _ (by omega)
                have t5 : decide ((d.size : Int) ≤ 2147483647 - f) = true := decide_eq_true (by omega)
                have HG := Lib.hid (HV.out.symm.trans (ok_add rfl (by omega) (by omega) (by omega) (by omega)))
                clear HV
                go_enter Try.func19, Try.ntmps19
                go_wp2_with (fail)
                refine bodyPost_ret (results_tmp rfl _ _ _) rfl ?_
                rw [HG.out]
                exact ⟨rfl, HB.out⟩
              · have e1 := IntWalk.wrap64_in (2147483647 - f) (by omega)
                have e2 : IntKind.i64.wrap (2147483647 - f) = 2147483647 - f := IntWalk.i64_in _ (by omega)
                have t5 : decide ((d.size : Int) ≤ 2147483647 - f) = false := decide_eq_false (by omega)
                have HG := Lib.hid (HV.out.symm.trans (not_add (by omega)))
                clear HV
                go_enter Try.func19, Try.ntmps19
                go_wp2_with (fail)
                refine bodyPost_ret (results_tmp rfl _ _ _) rfl ?_
                rw [HG.out]
                exact ⟨rfl, HB.out⟩
            · have t4 : decide (f ≤ 2147483647) = false := decide_eq_false (by omega)
              have HG := Lib.hid (HV.out.symm.trans (not_add (by omega)))
              clear HV
              go_enter Try.func19, Try.ntmps19
              go_wp2_with (fail)
              refine bodyPost_ret (results_tmp rfl _ _ _) rfl ?_
              rw [HG.out]
              exact ⟨rfl, HB.out⟩
          · have t3 : decide (0 ≤ f) = false := decide_eq_false (by omega)
            have HG := Lib.hid (HV.out.symm.trans (not_add (by omega)))
            clear HV
            go_enter Try.func19, Try.ntmps19
            go_wp2_with (fail)
            refine bodyPost_ret (results_tmp rfl _ _ _) rfl ?_
            rw [HG.out]
            exact ⟨rfl, HB.out⟩
        · have t2 : decide ((d.size : Int) ≤ 8192) = false := decide_eq_false (by omega)
          have u2 : ¬ ((d.size : Int) ≤ 8192) := by omega
          have HG := Lib.hid (HV.out.symm.trans (not_add (by omega)))
          clear HV
          go_enter Try.func19, Try.ntmps19
          go_wp2_with (fail)
          refine bodyPost_ret (results_tmp rfl _ _ _) rfl ?_
          rw [HG.out]
          exact ⟨rfl, HB.out⟩
      · have t1 : decide (1 ≤ (d.size : Int)) = false := decide_eq_false (by omega)
        have u1 : ¬ (1 ≤ (d.size : Int)) := by omega
        have HG := Lib.hid (HV.out.symm.trans (not_add (by omega)))
        clear HV
        go_enter Try.func19, Try.ntmps19
        go_wp2_with (fail)
        refine bodyPost_ret (results_tmp rfl _ _ _) rfl ?_
        rw [HG.out]
        exact ⟨rfl, HB.out⟩
    · have t0 : (s == 0) = false := beq_eq_false_iff_ne.2 c0
      have v0 : decide (s = 0) = false := decide_eq_false c0
      have HG := Lib.hid (HV.out.symm.trans (not_add (by omega)))
      clear HV
      go_enter Try.func19, Try.ntmps19
      go_wp2_with (fail)
      refine bodyPost_ret (results_tmp rfl _ _ _) rfl ?_
      rw [HG.out]
      exact ⟨rfl, HB.out⟩
  have j3 : (k == 3) = false := beq_eq_false_iff_ne.2 k3
  have HG := Lib.hid (HV.out.symm.trans (not_none k1 k2 k3))
  clear HV
  go_enter Try.func19, Try.ntmps19
  go_wp2_with (fail)
  refine bodyPost_ret (results_tmp rfl _ _ _) rfl ?_
  rw [HG.out]
  exact ⟨rfl, HB.out⟩
end Go.Proofs.Ytiehpaffbaafcaa
