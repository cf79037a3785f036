/-
  The reference of layer 19: Good, of a base of 2^31 - 1 bytes. No conditions.
  The reference of layer 19: Good, of a base of whatever size. Condition: it has 2^31 bytes at most.
  The reference of layer 19: Apply. Conditions: the deeds stand where it looks, a million at most; the base has 2^30 bytes at most.
  The reference of layer 19: Parse. Conditions: none.
-/
import Derived.Test.YtlechjpaldpgnaaGreatDoorMg15
import Derived.Test.YtlechjpaldpgnaaGreatDoorMg30
import Derived.Test.YtlechjpaldpgnaaGreatDoorMg3
import Derived.Test.YtlechjpaldpgnaaGreatDoorMg22
import Derived.Test.YtlechjpaldpgnaaGreatDoorMg27
import Derived.Test.YtlechjpaldpgnaaGreatDoorMg24
import Derived.Test.YtlechjpaldpgnaaGreatDoorMg9
import Derived.Test.YtlechjpaldpgnaaGreatDoorMg19
set_option maxRecDepth 100000
namespace Go.Proofs.YtlechjpaldpgnaaGreatDoor
open Go.ChangeShapes Go.WideShapes Go.ChangeAt Go.RowKit Pn Pt
namespace Pt
theorem ok_copy {f s : Int} {d : ByteArray} (hd : d.size = 0) (h1 : 1 ≤ s) (h2 : 0 ≤ f) (h3 : s ≤ 2147483647 - f) : okD mxB ⟨1, f, s, d⟩ = true := by
  show (decide (d.size = 0) && insZ mxB f s) = true
  rw [decide_eq_true hd, ins_iff.2 ⟨h1, by unfold mxB; omega, h2, by unfold mxB; omega⟩]
  rfl
theorem ok_lay {f s : Int} {d : ByteArray} (h1 : f = 0) (h2 : s = 0) (h3 : 1 ≤ d.size) (h4 : d.size ≤ 8192) : okD mxB ⟨2, f, s, d⟩ = true := by
  show (decide (f = 0) && decide (s = 0) && telB d) = true
  rw [decide_eq_true h1, decide_eq_true h2, tel_iff.2 ⟨h3, h4⟩]
  rfl
theorem ok_add {f s : Int} {d : ByteArray} (h1 : s = 0) (h2 : 1 ≤ d.size) (h3 : d.size ≤ 8192) (h4 : 0 ≤ f) (h5 : (d.size : Int) ≤ 2147483647 - f) : okD mxB ⟨3, f, s, d⟩ = true := by
  show (decide (s = 0) && telB d && insZ mxB f (d.size : Int)) = true
  rw [decide_eq_true h1, tel_iff.2 ⟨h2, h3⟩, ins_iff.2 ⟨by omega, by unfold mxB; omega, h4, by unfold mxB; omega⟩]
  rfl
theorem not_copy {f s : Int} {d : ByteArray} (h : ¬ (1 ≤ s ∧ 0 ≤ f ∧ f ≤ 2147483647 ∧ s ≤ 2147483647 - f ∧ d.size = 0)) : okD mxB ⟨1, f, s, d⟩ = false := Bool.eq_false_iff.2 fun hg => by
  rcases way hg with ⟨hk, hd, hi⟩ | ⟨hk, _⟩ | ⟨hk, _⟩
  · have := ins_iff.1 hi
    unfold mxB at this
    simp only at hd this
    omega
  · exact absurd hk (show ¬ (1 : Int) = 2 by decide)
  · exact absurd hk (show ¬ (1 : Int) = 3 by decide)
theorem not_lay {f s : Int} {d : ByteArray} (h : ¬ (f = 0 ∧ s = 0 ∧ 1 ≤ d.size ∧ d.size ≤ 8192)) : okD mxB ⟨2, f, s, d⟩ = false := Bool.eq_false_iff.2 fun hg => by
  rcases way hg with ⟨hk, _⟩ | ⟨hk, hf, hs, ht⟩ | ⟨hk, _⟩
  · exact absurd hk (show ¬ (2 : Int) = 1 by decide)
  · have := tel_iff.1 ht
    simp only at hf hs this
    omega
  · exact absurd hk (show ¬ (2 : Int) = 3 by decide)
theorem not_add {f s : Int} {d : ByteArray} (h : ¬ (s = 0 ∧ 1 ≤ d.size ∧ d.size ≤ 8192 ∧ 0 ≤ f ∧ f ≤ 2147483647 ∧ (d.size : Int) ≤ 2147483647 - f)) : okD mxB ⟨3, f, s, d⟩ = false := Bool.eq_false_iff.2 fun hg => by
  rcases way hg with ⟨hk, _⟩ | ⟨hk, _⟩ | ⟨hk, hs, ht, hi⟩
  · exact absurd hk (show ¬ (3 : Int) = 1 by decide)
  · exact absurd hk (show ¬ (3 : Int) = 2 by decide)
  · have h1 := tel_iff.1 ht
    have h2 := ins_iff.1 hi
    unfold mxB at h2
    simp only at hs h1 h2
    omega
theorem not_none {k f s : Int} {d : ByteArray} (h1 : ¬ k = 1) (h2 : ¬ k = 2) (h3 : ¬ k = 3) : okD mxB ⟨k, f, s, d⟩ = false := Bool.eq_false_iff.2 fun hg => by
  rcases way hg with ⟨hk, _⟩ | ⟨hk, _⟩ | ⟨hk, _⟩
  · exact h1 hk
  · exact h2 hk
  · exact h3 hk
theorem data_some {d : ByteArray} (h : ¬ d.size = 0) : d.toList.isEmpty = false := not_empty (by omega)
end Pt
set_option maxRecDepth 100000 in
set_option maxHeartbeats 6400000 in
theorem ref19_good (o : Deed) (w : World) : Calls Tryz.prog 81 #[.int .i64 2147483647, dv o] w fun e w' => e = .returned (.bool (okD mxB o)) ∧ Below w.heap.size w w' := by
  have HB := Lib.hid ((Below.refl w.heap.size w).alloc (Nat.le_refl _) (.cells #[.int .i64 o.k, .int .i64 o.f, .int .i64 o.s, .string o.d] 146))
  obtain ⟨k, f, s, d⟩ := o
  unfold dv
  simp only at HB
  generalize hV : okD mxB ⟨k, f, s, d⟩ = V
  have HV := Lib.hid hV
  clear hV
  by_cases k1 : k = 1
  · subst k1
    by_cases c0 : 1 ≤ s
    · have t0 : decide (1 ≤ s) = true := decide_eq_true (by omega)
      by_cases c1 : 0 ≤ f
      · have t1 : decide (0 ≤ f) = true := decide_eq_true (by omega)
        by_cases c2 : f ≤ 2147483647
        · have t2 : decide (f ≤ 2147483647) = true := decide_eq_true (by omega)
          by_cases c3 : s ≤ 2147483647 - f
          · have e1 := IntWalk.wrap64_in (2147483647 - f) (by omega)
            have e2 : IntKind.i64.wrap (2147483647 - f) = 2147483647 - f := IntWalk.i64_in _ (by omega)
            have t3 : decide (s ≤ 2147483647 - f) = true := decide_eq_true (by omega)
            by_cases c4 : d.size = 0
            · have z4 := c4
              obtain rfl := empty_of_size c4
              have HG := Lib.hid (HV.out.symm.trans (ok_copy (by rfl) (by omega) (by omega) (by omega)))
              clear HV
              go_enter Tryz.func81, Tryz.ntmps81
              go_wp2_with (fail)
              refine bodyPost_ret (results_tmp rfl _ _ _) rfl ?_
              rw [HG.out]
              exact ⟨rfl, HB.out⟩
            · have t4 := data_some c4
              have HG := Lib.hid (HV.out.symm.trans (not_copy (by omega)))
              clear HV
              go_enter Tryz.func81, Tryz.ntmps81
              go_wp2_with (fail)
              refine bodyPost_ret (results_tmp rfl _ _ _) rfl ?_
              rw [HG.out]
              exact ⟨rfl, HB.out⟩
          · have e1 := IntWalk.wrap64_in (2147483647 - f) (by omega)
            have e2 : IntKind.i64.wrap (2147483647 - f) = 2147483647 - f := IntWalk.i64_in _ (by omega)
            have t3 : decide (s ≤ 2147483647 - f) = false := decide_eq_false (by omega)
            have HG := Lib.hid (HV.out.symm.trans (not_copy (by omega)))
            clear HV
            go_enter Tryz.func81, Tryz.ntmps81
            go_wp2_with (fail)
            refine bodyPost_ret (results_tmp rfl _ _ _) rfl ?_
            rw [HG.out]
            exact ⟨rfl, HB.out⟩
        · have t2 : decide (f ≤ 2147483647) = false := decide_eq_false (by omega)
          have HG := Lib.hid (HV.out.symm.trans (not_copy (by omega)))
          clear HV
          go_enter Tryz.func81, Tryz.ntmps81
          go_wp2_with (fail)
          refine bodyPost_ret (results_tmp rfl _ _ _) rfl ?_
          rw [HG.out]
          exact ⟨rfl, HB.out⟩
      · have t1 : decide (0 ≤ f) = false := decide_eq_false (by omega)
        have HG := Lib.hid (HV.out.symm.trans (not_copy (by omega)))
        clear HV
        go_enter Tryz.func81, Tryz.ntmps81
        go_wp2_with (fail)
        refine bodyPost_ret (results_tmp rfl _ _ _) rfl ?_
        rw [HG.out]
        exact ⟨rfl, HB.out⟩
    · have t0 : decide (1 ≤ s) = false := decide_eq_false (by omega)
      have HG := Lib.hid (HV.out.symm.trans (not_copy (by omega)))
      clear HV
      go_enter Tryz.func81, Tryz.ntmps81
      go_wp2_with (fail)
      refine bodyPost_ret (results_tmp rfl _ _ _) rfl ?_
      rw [HG.out]
      exact ⟨rfl, HB.out⟩
  have j1 : (k == 1) = false := beq_eq_false_iff_ne.2 k1
  by_cases k2 : k = 2
  · subst k2
    by_cases c0 : f = 0
    · subst c0
      by_cases c1 : s = 0
      · subst c1
        by_cases c2 : 1 ≤ d.size
        · have t2 : decide (1 ≤ (d.size : Int)) = true := decide_eq_true (by omega)
          have u2 : 1 ≤ (d.size : Int) := by omega
          by_cases c3 : d.size ≤ 8192
          · have t3 : decide ((d.size : Int) ≤ 8192) = true := decide_eq_true (by omega)
            have u3 : (d.size : Int) ≤ 8192 := by omega
            have HG := Lib.hid (HV.out.symm.trans (ok_lay rfl rfl (by omega) (by omega)))
            clear HV
            go_enter Tryz.func81, Tryz.ntmps81
            go_wp2_with (fail)
            refine bodyPost_ret (results_tmp rfl _ _ _) rfl ?_
            rw [HG.out]
            exact ⟨rfl, HB.out⟩
          · have t3 : decide ((d.size : Int) ≤ 8192) = false := decide_eq_false (by omega)
            have u3 : ¬ ((d.size : Int) ≤ 8192) := by omega
            have HG := Lib.hid (HV.out.symm.trans (not_lay (by omega)))
            clear HV
            go_enter Tryz.func81, Tryz.ntmps81
            go_wp2_with (fail)
            refine bodyPost_ret (results_tmp rfl _ _ _) rfl ?_
            rw [HG.out]
            exact ⟨rfl, HB.out⟩
        · have t2 : decide (1 ≤ (d.size : Int)) = false := decide_eq_false (by omega)
          have u2 : ¬ (1 ≤ (d.size : Int)) := by omega
          have HG := Lib.hid (HV.out.symm.trans (not_lay (by omega)))
          clear HV
          go_enter Tryz.func81, Tryz.ntmps81
          go_wp2_with (fail)
          refine bodyPost_ret (results_tmp rfl _ _ _) rfl ?_
          rw [HG.out]
          exact ⟨rfl, HB.out⟩
      · have t1 : (s == 0) = false := beq_eq_false_iff_ne.2 c1
        have v1 : decide (s = 0) = false := decide_eq_false c1
        have HG := Lib.hid (HV.out.symm.trans (not_lay (by omega)))
        clear HV
        go_enter Tryz.func81, Tryz.ntmps81
        go_wp2_with (fail)
        refine bodyPost_ret (results_tmp rfl _ _ _) rfl ?_
        rw [HG.out]
        exact ⟨rfl, HB.out⟩
    · have t0 : (f == 0) = false := beq_eq_false_iff_ne.2 c0
      have v0 : decide (f = 0) = false := decide_eq_false c0
      have HG := Lib.hid (HV.out.symm.trans (not_lay (by omega)))
      clear HV
      go_enter Tryz.func81, Tryz.ntmps81
      go_wp2_with (fail)
      refine bodyPost_ret (results_tmp rfl _ _ _) rfl ?_
      rw [HG.out]
      exact ⟨rfl, HB.out⟩
  have j2 : (k == 2) = false := beq_eq_false_iff_ne.2 k2
  by_cases k3 : k = 3
  · subst k3
    by_cases c0 : s = 0
    · subst c0
      by_cases c1 : 1 ≤ d.size
      · have t1 : decide (1 ≤ (d.size : Int)) = true := decide_eq_true (by omega)
        have u1 : 1 ≤ (d.size : Int) := by omega
        by_cases c2 : d.size ≤ 8192
        · have t2 : decide ((d.size : Int) ≤ 8192) = true := decide_eq_true (by omega)
          have u2 : (d.size : Int) ≤ 8192 := by omega
          by_cases c3 : 0 ≤ f
          · have t3 : decide (0 ≤ f) = true := decide_eq_true (by omega)
            by_cases c4 : f ≤ 2147483647
            · have t4 : decide (f ≤ 2147483647) = true := decide_eq_true (by omega)
              by_cases c5 : (d.size : Int) ≤ 2147483647 - f
              · have e1 := IntWalk.wrap64_in (2147483647 - f) (by omega)
                have e2 : IntKind.i64.wrap (2147483647 - f) = 2147483647 - f := IntWalk.i64_in _ (by omega)
                have t5 : decide ((d.size : Int) ≤ 2147483647 - f) = true := decide_eq_true (by omega)
                have HG := Lib.hid (HV.out.symm.trans (ok_add rfl (by omega) (by omega) (by omega) (by omega)))
                clear HV
                go_enter Tryz.func81, Tryz.ntmps81
                go_wp2_with (fail)
                refine bodyPost_ret (results_tmp rfl _ _ _) rfl ?_
                rw [HG.out]
                exact ⟨rfl, HB.out⟩
              · have e1 := IntWalk.wrap64_in (2147483647 - f) (by omega)
                have e2 : IntKind.i64.wrap (2147483647 - f) = 2147483647 - f := IntWalk.i64_in _ (by omega)
                have t5 : decide ((d.size : Int) ≤ 2147483647 - f) = false := decide_eq_false (by omega)
                have HG := Lib.hid (HV.out.symm.trans (not_add (by omega)))
                clear HV
                go_enter Tryz.func81, Tryz.ntmps81
                go_wp2_with (fail)
                refine bodyPost_ret (results_tmp rfl _ _ _) rfl ?_
                rw [HG.out]
                exact ⟨rfl, HB.out⟩
            · have t4 : decide (f ≤ 2147483647) = false := decide_eq_false (by omega)
              have HG := Lib.hid (HV.out.symm.trans (not_add (by omega)))
              clear HV
              go_enter Tryz.func81, Tryz.ntmps81
              go_wp2_with (fail)
              refine bodyPost_ret (results_tmp rfl _ _ _) rfl ?_
              rw [HG.out]
              exact ⟨rfl, HB.out⟩
          · have t3 : decide (0 ≤ f) = false := decide_eq_false (by omega)
            have HG := Lib.hid (HV.out.symm.trans (not_add (by omega)))
            clear HV
            go_enter Tryz.func81, Tryz.ntmps81
            go_wp2_with (fail)
            refine bodyPost_ret (results_tmp rfl _ _ _) rfl ?_
            rw [HG.out]
            exact ⟨rfl, HB.out⟩
        · have t2 : decide ((d.size : Int) ≤ 8192) = false := decide_eq_false (by omega)
          have u2 : ¬ ((d.size : Int) ≤ 8192) := by omega
          have HG := Lib.hid (HV.out.symm.trans (not_add (by omega)))
          clear HV
          go_enter Tryz.func81, Tryz.ntmps81
          go_wp2_with (fail)
          refine bodyPost_ret (results_tmp rfl _ _ _) rfl ?_
          rw [HG.out]
          exact ⟨rfl, HB.out⟩
      · have t1 : decide (1 ≤ (d.size : Int)) = false := decide_eq_false (by omega)
        have u1 : ¬ (1 ≤ (d.size : Int)) := by omega
        have HG := Lib.hid (HV.out.symm.trans (not_add (by omega)))
        clear HV
        go_enter Tryz.func81, Tryz.ntmps81
        go_wp2_with (fail)
        refine bodyPost_ret (results_tmp rfl _ _ _) rfl ?_
        rw [HG.out]
        exact ⟨rfl, HB.out⟩
    · have t0 : (s == 0) = false := beq_eq_false_iff_ne.2 c0
      have v0 : decide (s = 0) = false := decide_eq_false c0
      have HG := Lib.hid (HV.out.symm.trans (not_add (by omega)))
      clear HV
      go_enter Tryz.func81, Tryz.ntmps81
      go_wp2_with (fail)
      refine bodyPost_ret (results_tmp rfl _ _ _) rfl ?_
      rw [HG.out]
      exact ⟨rfl, HB.out⟩
  have j3 : (k == 3) = false := beq_eq_false_iff_ne.2 k3
  have HG := Lib.hid (HV.out.symm.trans (not_none k1 k2 k3))
  clear HV
  go_enter Tryz.func81, Tryz.ntmps81
  go_wp2_with (fail)
  refine bodyPost_ret (results_tmp rfl _ _ _) rfl ?_
  rw [HG.out]
  exact ⟨rfl, HB.out⟩
end Go.Proofs.YtlechjpaldpgnaaGreatDoor
namespace Go.Proofs.YtlechjpaldpgnaaGreatDoor
open Go.ChangeShapes Go.WideShapes Go.ChangeAt Go.RowKit Pn Pt
namespace Pt
theorem ok_copyN {N f s : Int} {d : ByteArray} (hd : d.size = 0) (h1 : 1 ≤ s) (h2 : 0 ≤ f) (h3 : s ≤ N - f) : okD N ⟨1, f, s, d⟩ = true := by
  show (decide (d.size = 0) && insZ N f s) = true
  rw [decide_eq_true hd, ins_iff.2 ⟨h1, by omega, h2, by omega⟩]
  rfl
theorem ok_layN {N f s : Int} {d : ByteArray} (h1 : f = 0) (h2 : s = 0) (h3 : 1 ≤ d.size) (h4 : d.size ≤ 8192) : okD N ⟨2, f, s, d⟩ = true := by
  show (decide (f = 0) && decide (s = 0) && telB d) = true
  rw [decide_eq_true h1, decide_eq_true h2, tel_iff.2 ⟨h3, h4⟩]
  rfl
theorem ok_addN {N f s : Int} {d : ByteArray} (h1 : s = 0) (h2 : 1 ≤ d.size) (h3 : d.size ≤ 8192) (h4 : 0 ≤ f) (h5 : (d.size : Int) ≤ N - f) : okD N ⟨3, f, s, d⟩ = true := by
  show (decide (s = 0) && telB d && insZ N f (d.size : Int)) = true
  rw [decide_eq_true h1, tel_iff.2 ⟨h2, h3⟩, ins_iff.2 ⟨by omega, by omega, h4, by omega⟩]
  rfl
theorem not_copyN {N f s : Int} {d : ByteArray} (h : ¬ (1 ≤ s ∧ 0 ≤ f ∧ f ≤ N ∧ s ≤ N - f ∧ d.size = 0)) : okD N ⟨1, f, s, d⟩ = false := Bool.eq_false_iff.2 fun hg => by
  rcases way hg with ⟨hk, hd, hi⟩ | ⟨hk, _⟩ | ⟨hk, _⟩
  · have := ins_iff.1 hi
    simp only at hd this
    omega
  · exact absurd hk (show ¬ (1 : Int) = 2 by decide)
  · exact absurd hk (show ¬ (1 : Int) = 3 by decide)
theorem not_layN {N f s : Int} {d : ByteArray} (h : ¬ (f = 0 ∧ s = 0 ∧ 1 ≤ d.size ∧ d.size ≤ 8192)) : okD N ⟨2, f, s, d⟩ = false := Bool.eq_false_iff.2 fun hg => by
  rcases way hg with ⟨hk, _⟩ | ⟨hk, hf, hs, ht⟩ | ⟨hk, _⟩
  · exact absurd hk (show ¬ (2 : Int) = 1 by decide)
  · have := tel_iff.1 ht
    simp only at hf hs this
    omega
  · exact absurd hk (show ¬ (2 : Int) = 3 by decide)
theorem not_addN {N f s : Int} {d : ByteArray} (h : ¬ (s = 0 ∧ 1 ≤ d.size ∧ d.size ≤ 8192 ∧ 0 ≤ f ∧ f ≤ N ∧ (d.size : Int) ≤ N - f)) : okD N ⟨3, f, s, d⟩ = false := Bool.eq_false_iff.2 fun hg => by
  rcases way hg with ⟨hk, _⟩ | ⟨hk, _⟩ | ⟨hk, hs, ht, hi⟩
  · exact absurd hk (show ¬ (3 : Int) = 1 by decide)
  · exact absurd hk (show ¬ (3 : Int) = 2 by decide)
  · have h1 := tel_iff.1 ht
    have h2 := ins_iff.1 hi
    simp only at hs h1 h2
    omega
theorem not_noneN {N k f s : Int} {d : ByteArray} (h1 : ¬ k = 1) (h2 : ¬ k = 2) (h3 : ¬ k = 3) : okD N ⟨k, f, s, d⟩ = false := Bool.eq_false_iff.2 fun hg => by
  rcases way hg with ⟨hk, _⟩ | ⟨hk, _⟩ | ⟨hk, _⟩
  · exact h1 hk
  · exact h2 hk
  · exact h3 hk
end Pt
set_option maxRecDepth 100000 in
set_option maxHeartbeats 6400000 in
theorem ref19_goodN (N : Int) (hN0 : 0 ≤ N) (hN1 : N ≤ 2147483648) (o : Deed) (w : World) : Calls Tryz.prog 81 #[.int .i64 N, dv o] w fun e w' => e = .returned (.bool (okD N o)) ∧ Below w.heap.size w w' := by
  have HB := Lib.hid ((Below.refl w.heap.size w).alloc (Nat.le_refl _) (.cells #[.int .i64 o.k, .int .i64 o.f, .int .i64 o.s, .string o.d] 146))
  obtain ⟨k, f, s, d⟩ := o
  unfold dv
  simp only at HB
  generalize hV : okD N ⟨k, f, s, d⟩ = V
  have HV := Lib.hid hV
  clear hV
  by_cases k1 : k = 1
  · subst k1
    by_cases c0 : 1 ≤ s
    · have t0 : decide (1 ≤ s) = true := decide_eq_true (by omega)
      by_cases c1 : 0 ≤ f
      · have t1 : decide (0 ≤ f) = true := decide_eq_true (by omega)
        by_cases c2 : f ≤ N
        · have t2 : decide (f ≤ N) = true := decide_eq_true (by omega)
          by_cases c3 : s ≤ N - f
          · have e1 := IntWalk.wrap64_in (N - f) (by omega)
            have e2 : IntKind.i64.wrap (N - f) = N - f := IntWalk.i64_in _ (by omega)
            have t3 : decide (s ≤ N - f) = true := decide_eq_true (by omega)
            by_cases c4 : d.size = 0
            · have z4 := c4
              obtain rfl := empty_of_size c4
              have HG := Lib.hid (HV.out.symm.trans (ok_copyN (by rfl) (by omega) (by omega) (by omega)))
              clear HV
              go_enter Tryz.func81, Tryz.ntmps81
              go_wp2_with (fail)
              refine bodyPost_ret (results_tmp rfl _ _ _) rfl ?_
              rw [HG.out]
              exact ⟨rfl, HB.out⟩
            · have t4 := data_some c4
              have HG := Lib.hid (HV.out.symm.trans (not_copyN (by omega)))
              clear HV
              go_enter Tryz.func81, Tryz.ntmps81
              go_wp2_with (fail)
              refine bodyPost_ret (results_tmp rfl _ _ _) rfl ?_
              rw [HG.out]
              exact ⟨rfl, HB.out⟩
          · have e1 := IntWalk.wrap64_in (N - f) (by omega)
            have e2 : IntKind.i64.wrap (N - f) = N - f := IntWalk.i64_in _ (by omega)
            have t3 : decide (s ≤ N - f) = false := decide_eq_false (by omega)
            have HG := Lib.hid (HV.out.symm.trans (not_copyN (by omega)))
            clear HV
            go_enter Tryz.func81, Tryz.ntmps81
            go_wp2_with (fail)
            refine bodyPost_ret (results_tmp rfl _ _ _) rfl ?_
            rw [HG.out]
            exact ⟨rfl, HB.out⟩
        · have t2 : decide (f ≤ N) = false := decide_eq_false (by omega)
          have HG := Lib.hid (HV.out.symm.trans (not_copyN (by omega)))
          clear HV
          go_enter Tryz.func81, Tryz.ntmps81
          go_wp2_with (fail)
          refine bodyPost_ret (results_tmp rfl _ _ _) rfl ?_
          rw [HG.out]
          exact ⟨rfl, HB.out⟩
      · have t1 : decide (0 ≤ f) = false := decide_eq_false (by omega)
        have HG := Lib.hid (HV.out.symm.trans (not_copyN (by omega)))
        clear HV
        go_enter Tryz.func81, Tryz.ntmps81
        go_wp2_with (fail)
        refine bodyPost_ret (results_tmp rfl _ _ _) rfl ?_
        rw [HG.out]
        exact ⟨rfl, HB.out⟩
    · have t0 : decide (1 ≤ s) = false := decide_eq_false (by omega)
      have HG := Lib.hid (HV.out.symm.trans (not_copyN (by omega)))
      clear HV
      go_enter Tryz.func81, Tryz.ntmps81
      go_wp2_with (fail)
      refine bodyPost_ret (results_tmp rfl _ _ _) rfl ?_
      rw [HG.out]
      exact ⟨rfl, HB.out⟩
  have j1 : (k == 1) = false := beq_eq_false_iff_ne.2 k1
  by_cases k2 : k = 2
  · subst k2
    by_cases c0 : f = 0
    · subst c0
      by_cases c1 : s = 0
      · subst c1
        by_cases c2 : 1 ≤ d.size
        · have t2 : decide (1 ≤ (d.size : Int)) = true := decide_eq_true (by omega)
          have u2 : 1 ≤ (d.size : Int) := by omega
          by_cases c3 : d.size ≤ 8192
          · have t3 : decide ((d.size : Int) ≤ 8192) = true := decide_eq_true (by omega)
            have u3 : (d.size : Int) ≤ 8192 := by omega
            have HG := Lib.hid (HV.out.symm.trans (ok_layN rfl rfl (by omega) (by omega)))
            clear HV
            go_enter Tryz.func81, Tryz.ntmps81
            go_wp2_with (fail)
            refine bodyPost_ret (results_tmp rfl _ _ _) rfl ?_
            rw [HG.out]
            exact ⟨rfl, HB.out⟩
          · have t3 : decide ((d.size : Int) ≤ 8192) = false := decide_eq_false (by omega)
            have u3 : ¬ ((d.size : Int) ≤ 8192) := by omega
            have HG := Lib.hid (HV.out.symm.trans (not_layN (by omega)))
            clear HV
            go_enter Tryz.func81, Tryz.ntmps81
            go_wp2_with (fail)
            refine bodyPost_ret (results_tmp rfl _ _ _) rfl ?_
            rw [HG.out]
            exact ⟨rfl, HB.out⟩
        · have t2 : decide (1 ≤ (d.size : Int)) = false := decide_eq_false (by omega)
          have u2 : ¬ (1 ≤ (d.size : Int)) := by omega
          have HG := Lib.hid (HV.out.symm.trans (not_layN (by omega)))
          clear HV
          go_enter Tryz.func81, Tryz.ntmps81
          go_wp2_with (fail)
          refine bodyPost_ret (results_tmp rfl _ _ _) rfl ?_
          rw [HG.out]
          exact ⟨rfl, HB.out⟩
      · have t1 : (s == 0) = false := beq_eq_false_iff_ne.2 c1
        have v1 : decide (s = 0) = false := decide_eq_false c1
        have HG := Lib.hid (HV.out.symm.trans (not_layN (by omega)))
        clear HV
        go_enter Tryz.func81, Tryz.ntmps81
        go_wp2_with (fail)
        refine bodyPost_ret (results_tmp rfl _ _ _) rfl ?_
        rw [HG.out]
        exact ⟨rfl, HB.out⟩
    · have t0 : (f == 0) = false := beq_eq_false_iff_ne.2 c0
      have v0 : decide (f = 0) = false := decide_eq_false c0
      have HG := Lib.hid (HV.out.symm.trans (not_layN (by omega)))
      clear HV
      go_enter Tryz.func81, Tryz.ntmps81
      go_wp2_with (fail)
      refine bodyPost_ret (results_tmp rfl _ _ _) rfl ?_
      rw [HG.out]
      exact ⟨rfl, HB.out⟩
  have j2 : (k == 2) = false := beq_eq_false_iff_ne.2 k2
  by_cases k3 : k = 3
  · subst k3
    by_cases c0 : s = 0
    · subst c0
      by_cases c1 : 1 ≤ d.size
      · have t1 : decide (1 ≤ (d.size : Int)) = true := decide_eq_true (by omega)
        have u1 : 1 ≤ (d.size : Int) := by omega
        by_cases c2 : d.size ≤ 8192
        · have t2 : decide ((d.size : Int) ≤ 8192) = true := decide_eq_true (by omega)
          have u2 : (d.size : Int) ≤ 8192 := by omega
          by_cases c3 : 0 ≤ f
          · have t3 : decide (0 ≤ f) = true := decide_eq_true (by omega)
            by_cases c4 : f ≤ N
            · have t4 : decide (f ≤ N) = true := decide_eq_true (by omega)
              by_cases c5 : (d.size : Int) ≤ N - f
              · have e1 := IntWalk.wrap64_in (N - f) (by omega)
                have e2 : IntKind.i64.wrap (N - f) = N - f := IntWalk.i64_in _ (by omega)
                have t5 : decide ((d.size : Int) ≤ N - f) = true := decide_eq_true (by omega)
                have HG := Lib.hid (HV.out.symm.trans (ok_addN rfl (by omega) (by omega) (by omega) (by omega)))
                clear HV
                go_enter Tryz.func81, Tryz.ntmps81
                go_wp2_with (fail)
                refine bodyPost_ret (results_tmp rfl _ _ _) rfl ?_
                rw [HG.out]
                exact ⟨rfl, HB.out⟩
              · have e1 := IntWalk.wrap64_in (N - f) (by omega)
                have e2 : IntKind.i64.wrap (N - f) = N - f := IntWalk.i64_in _ (by omega)
                have t5 : decide ((d.size : Int) ≤ N - f) = false := decide_eq_false (by omega)
                have HG := Lib.hid (HV.out.symm.trans (not_addN (by omega)))
                clear HV
                go_enter Tryz.func81, Tryz.ntmps81
                go_wp2_with (fail)
                refine bodyPost_ret (results_tmp rfl _ _ _) rfl ?_
                rw [HG.out]
                exact ⟨rfl, HB.out⟩
            · have t4 : decide (f ≤ N) = false := decide_eq_false (by omega)
              have HG := Lib.hid (HV.out.symm.trans (not_addN (by omega)))
              clear HV
              go_enter Tryz.func81, Tryz.ntmps81
              go_wp2_with (fail)
              refine bodyPost_ret (results_tmp rfl _ _ _) rfl ?_
              rw [HG.out]
              exact ⟨rfl, HB.out⟩
          · have t3 : decide (0 ≤ f) = false := decide_eq_false (by omega)
            have HG := Lib.hid (HV.out.symm.trans (not_addN (by omega)))
            clear HV
            go_enter Tryz.func81, Tryz.ntmps81
            go_wp2_with (fail)
            refine bodyPost_ret (results_tmp rfl _ _ _) rfl ?_
            rw [HG.out]
            exact ⟨rfl, HB.out⟩
        · have t2 : decide ((d.size : Int) ≤ 8192) = false := decide_eq_false (by omega)
          have u2 : ¬ ((d.size : Int) ≤ 8192) := by omega
          have HG := Lib.hid (HV.out.symm.trans (not_addN (by omega)))
          clear HV
          go_enter Tryz.func81, Tryz.ntmps81
          go_wp2_with (fail)
          refine bodyPost_ret (results_tmp rfl _ _ _) rfl ?_
          rw [HG.out]
          exact ⟨rfl, HB.out⟩
      · have t1 : decide (1 ≤ (d.size : Int)) = false := decide_eq_false (by omega)
        have u1 : ¬ (1 ≤ (d.size : Int)) := by omega
        have HG := Lib.hid (HV.out.symm.trans (not_addN (by omega)))
        clear HV
        go_enter Tryz.func81, Tryz.ntmps81
        go_wp2_with (fail)
        refine bodyPost_ret (results_tmp rfl _ _ _) rfl ?_
        rw [HG.out]
        exact ⟨rfl, HB.out⟩
    · have t0 : (s == 0) = false := beq_eq_false_iff_ne.2 c0
      have v0 : decide (s = 0) = false := decide_eq_false c0
      have HG := Lib.hid (HV.out.symm.trans (not_addN (by omega)))
      clear HV
      go_enter Tryz.func81, Tryz.ntmps81
      go_wp2_with (fail)
      refine bodyPost_ret (results_tmp rfl _ _ _) rfl ?_
      rw [HG.out]
      exact ⟨rfl, HB.out⟩
  have j3 : (k == 3) = false := beq_eq_false_iff_ne.2 k3
  have HG := Lib.hid (HV.out.symm.trans (not_noneN k1 k2 k3))
  clear HV
  go_enter Tryz.func81, Tryz.ntmps81
  go_wp2_with (fail)
  refine bodyPost_ret (results_tmp rfl _ _ _) rfl ?_
  rw [HG.out]
  exact ⟨rfl, HB.out⟩
end Go.Proofs.YtlechjpaldpgnaaGreatDoor
namespace Go.Proofs.YtlechjpaldpgnaaGreatDoor
open Go.ChangeShapes Go.WideShapes Go.ChangeAt Go.RowKit Pn Pt
namespace Pt
/-- The byte that comes at a place. -/
def rdB (b : ByteArray) (o : Deed) (j : Nat) : UInt8 := if o.k = 1 then byAt b (o.f.toNat + j) else if o.k = 3 then byAt b (o.f.toNat + j) + byAt o.d j else byAt o.d j
theorem byAt_get {b : ByteArray} {i : Nat} (h : i < b.size) : b.data.toList[i]? = some (byAt b i) := by
  unfold byAt
  rw [List.getD_eq_getElem?_getD, List.getElem?_eq_getElem (show i < b.data.toList.length from h)]
  rfl
theorem come_next {b : ByteArray} {o : Deed} (h : okD (b.size : Int) o = true) {j : Nat} (hj : j < numD o) : (comeL b o).take (j + 1) = (comeL b o).take j ++ [rdB b o j] := by
  have hl := come_length h
  rw [List.take_succ_eq_append_getElem (by omega)]
  congr 1
  have he : (comeL b o)[j]? = some (rdB b o j) := by
    unfold numD at hj
    unfold comeL rdB
    cases way h with
    | copy k d i =>
      have := ins_iff.1 i
      rw [if_pos k, if_pos k, List.getElem?_take_of_lt (by omega), List.getElem?_drop]
      exact byAt_get (by omega)
    | lay k f s t =>
      rw [if_neg (by omega), if_neg (by omega), if_neg (by omega), if_neg (by omega)]
      exact byAt_get (by omega)
    | add k s t i =>
      have := ins_iff.1 i
      rw [if_neg (by omega), if_pos k, if_neg (by omega), if_pos k, List.getElem?_map, List.getElem?_range (by omega), Option.map_some, UInt8.add_comm]
  rw [List.getElem?_eq_getElem (by omega)] at he
  injection he with he
  rw [he]
theorem num_max {n : Int} {o : Deed} (h : okD n o = true) : max o.s (o.d.size : Int) = (numD o : Int) := by
  unfold numD
  cases way h with
  | copy k d i => have := ins_iff.1 i; omega
  | lay k f s t => omega
  | add k s t i => omega
/-- While a deed is done in the document's way: what came, the deed. -/
structure Ag (w : World) (base bx : Nat) (o : Deed) (wr : World) (v : Value) (l : List UInt8) : Prop where
  own : OwnT wr base v l
  box : wr.heap[bx]? = some (boxD 146 o)
  ne : v.ownBlock ≠ some bx
  below : Below base w wr
theorem Ag.lt {w wr : World} {base bx : Nat} {o : Deed} {v : Value} {l : List UInt8} (h : Ag w base bx o wr v l) : bx < wr.heap.size := (Array.getElem?_eq_some_iff.1 h.box).1
theorem Ag.drew {w wr : World} {base bx : Nat} {o : Deed} {v : Value} {l : List UInt8} (h : Ag w base bx o wr v l) : Ag w base bx o wr.drew v l := ⟨h.own, h.box, h.ne, h.below.drew⟩
theorem Ag.next {w wr wz : World} {base bx g cap j : Nat} {o : Deed} {v : Value} {l : List UInt8} {z : UInt8} {ob : Obj} (h : Ag w base bx o wr v l) (hb : base ≤ w.heap.size) (hl : l.length = j)
    (hown : wz.ownsRow base 5 1 (.slice (some ⟨g, 0, none⟩) (j + 1) cap) (j + 1) (bcells l ++ [.int .u8 (z.toNat : Int)])) (hg : (wr.alloc ob).grownBy wz v.ownBlock) (hat : v.ownBlock = some g ∨ g = (wr.alloc ob).heap.size) :
    Ag w base bx o wz (.slice (some ⟨g, 0, none⟩) (j + 1) cap) (l ++ [z]) := by
  have hlt := h.lt
  have e1 : wz.heap[bx]? = wr.heap[bx]? := (hg.block _ (by simp; omega) (fun e => h.ne e.symm)).trans (heap_alloc_old _ _ (by omega))
  have hs : wr.heap.size < (wr.alloc ob).heap.size := by simp
  refine ⟨?_, e1.trans h.box, ?_, ?_⟩
  · unfold OwnT
    rw [bcells_append, List.length_append, hl]
    exact hown
  · intro e
    injection e with e
    have e' : g = bx := e
    rcases hat with hat | hat
    · exact h.ne (by rw [hat, e'])
    · omega
  · have hbs := h.below.size
    exact (h.below.alloc (by omega) ob).grown hg (by simp; omega) (fun i hi => (h.own.lt i hi).1)
theorem ra_less (j m : Nat) (h : j + 1 ≤ m) : m - ((j : Int) + 1).toNat < m - (j : Int).toNat := by omega
end Pt
theorem oneU8 (z : Int) : Tryz.prog.builtSlice 5 1 [(0, .int .u8 z)] = some #[.int .u8 z] := by kernel_rfl
set_option maxRecDepth 100000 in
set_option maxHeartbeats 12800000 in
theorem ref19_apply (w : World) (b : ByteArray) (hbs : b.size ≤ 1073741824) (A : Option Addr) (n c : Nat) (L : List Deed) (hL : L.length = n) (hn : n ≤ 1000000) (hA : DIn w A L) :
    Calls Tryz.prog 51 #[.string b, .slice A n c] w fun e w' => e = .returned (.tuple #[.string ⟨(appD b [] L).1.toArray⟩, .int .i64 (appD b [] L).2]) ∧ Below w.heap.size w w' := by
  obtain ⟨i0, hi, hz0, hz1, hz2⟩ := info_parts infoB
  have HI := Lib.hid hi
  have HZ0 := Lib.hid hz0
  have HZ1 := Lib.hid hz1
  have HZ2 := Lib.hid hz2
  have HL := Lib.hid hL
  have HN := Lib.hid hn
  have HA := Lib.hid hA
  have HG := Lib.hid (fun o W => ref19_goodN (b.size : Int) (by omega) (by omega) o W)
  have HBS := Lib.hid hbs
  generalize hR : appD b [] L = R
  have HR := Lib.hid hR
  have HS0 := Lib.hid (show OwnT (w.alloc (.cells #[] 5)) w.heap.size (.slice (some ⟨w.heap.size, 0, none⟩) 0 0) [] from World.ownsRow_made w #[] 0 (Nat.le_refl _) (Nat.zero_le _) rfl)
  have HB0 := Lib.hid (show Below w.heap.size w (w.alloc (.cells #[] 5)) from (Below.refl _ _).alloc (Nat.le_refl _) _)
  clear hL hn hA hR hbs hi hz0 hz1 hz2
  go_enter Tryz.func51, Tryz.ntmps51
  go_wp2_with (with_reducible refine wpList_buildNone rfl 92 5 rfl i0 Tryz.underlying92 HI.out ?_)
  go_loopw [6, 7] (fun x i wr => ∃ (j : Nat) (G : Option Addr) (cg : Nat) (l : List UInt8), i = .int .i64 (j : Int) ∧ j ≤ n ∧ x = .slice G l.length cg ∧ l.length ≤ 8192 ∧ appD b l (L.drop j) = R ∧ OwnT wr w.heap.size x l ∧ Below w.heap.size w wr) (fun _ i _ => match i with | .int _ k => n - k.toNat | _ => 0)
  case atStart => exact ⟨0, _, 0, [], rfl, Nat.zero_le _, rfl, Nat.zero_le _, HR.out, HS0.out, HB0.out⟩
  case round =>
    clear HS0 HB0
    obtain ⟨j, G, cg, l, rfl, hj, rfl, hll, hap, ho, hb⟩ := hrel
    have HLL := Lib.hid hll
    have HAP := Lib.hid hap
    have HO := Lib.hid ho
    have HB := Lib.hid hb
    clear hll hap ho hb
    have x2 : 0 ≤ (j : Int) := by omega
    by_cases hlt : j < n
    · have x0 : (j : Int) < (n : Int) := by omega
      have x1 : decide ((j : Int) < (n : Int)) = true := decide_eq_true x0
      have hjl : j < L.length := by rw [HL.out]; exact hlt
      obtain ⟨pb, po, rfl, hc⟩ := (HA.out.below HB.out (Nat.le_refl _)) (by omega)
      obtain ⟨c0, c1, c2, c3⟩ := hc j _ (deed_at hjl)
      have hap := HAP.out
      rw [deeds_at hjl] at hap
      have HJ := Lib.hid (show j + 1 ≤ n by omega)
      generalize L.getD j dz = o at c0 c1 c2 c3 hap
      have HAN := Lib.hid hap
      have hw1 := IntWalk.wrap64_in ((j : Int) + 1) (by have := HN.out; omega)
      have HW1 := Lib.hid hw1
      have HGO := Lib.hid (HG.out o)
      unfold dv at HGO
      clear hc hap hjl hlt HAP HG hw1
      cases hgd : okD (b.size : Int) o with
      | false =>
        rw [hgd] at HGO
        have HE := Lib.hid (HAN.out.symm.trans (app_not hgd))
        clear hgd
        go_wp2_with (go_at_call 81; refine (HGO.out _).mono ?_; rintro e w2 ⟨rfl, b2⟩; have HB2 := Lib.hid b2; clear b2)
        refine bodyPost_ret (results_tmp2 rfl _ _ _) rfl ?_
        rw [HE.out]
        exact ⟨rfl, (HB.out.alloc HB.out.size _).trans (HB2.out.mono (by have := HB.out.size; simp; omega))⟩
      | true =>
        rw [hgd] at HGO
        have HNM := Lib.hid (num_max hgd)
        have HCL := Lib.hid (come_length hgd)
        have HWY := Lib.hid (way hgd)
        have HCN := Lib.hid (fun j hj => come_next hgd (j := j) hj)
        have HYES := Lib.hid (fun h => app_yes (x := l) (r := L.drop (j + 1)) hgd h)
        have HLONG := Lib.hid (fun h => app_long (x := l) (r := L.drop (j + 1)) hgd h)
        have HMK := Lib.hid (show ∀ w2, Below (wr.alloc (boxD 146 o)).heap.size (wr.alloc (boxD 146 o)) w2 → Ag w w.heap.size wr.heap.size o w2 (.slice G l.length cg) l from fun w2 b2 => by
          have ha : Below wr.heap.size wr (wr.alloc (boxD 146 o)) := (Below.refl _ _).alloc (Nat.le_refl _) _
          refine ⟨(HO.out.below ha (Nat.le_refl _)).below b2 (Nat.le_refl _), (b2.block _ (by simp)).trans (heap_alloc_new wr _), fun e => ?_, (HB.out.trans (ha.mono HB.out.size)).trans (b2.mono (by have := HB.out.size; simp; omega))⟩
          have := (HO.out.lt _ e).2
          omega)
        clear hgd
        go_wp2_with (go_at_call 81; refine (HGO.out _).mono ?_; rintro e w2 ⟨rfl, b2⟩; have HA2 := Lib.hid (HMK.out _ b2); clear b2)
        clear HO HB HMK
        generalize wr.heap.size = bx at *
        go_loopw [6, 9] (fun x i wz => ∃ (k : Nat) (G : Option Addr) (cg : Nat), i = .int .i64 (k : Int) ∧ k ≤ numD o ∧ x = .slice G (l.length + k) cg ∧ l.length + k ≤ 8192 ∧ Ag w w.heap.size bx o wz x (l ++ (comeL b o).take k)) (fun _ i _ => match i with | .int _ k => numD o - k.toNat | _ => 0)
        case atStart => exact ⟨0, G, cg, rfl, Nat.zero_le _, rfl, HLL.out, by rw [List.take_zero, List.append_nil]; exact HA2.out⟩
        case round =>
          clear HA2
          obtain ⟨k, G2, cg2, rfl, hk, rfl, hk8, hag⟩ := hrel
          have HAG := Lib.hid hag
          obtain ⟨d0, d1, d2, d3⟩ := box_at hag.box
          have hmx := HNM.out
          have HTL := Lib.hid (show (l ++ (comeL b o).take k).length = l.length + k by rw [List.length_append, List.length_take, HCL.out]; omega)
          have y2 : 0 ≤ (k : Int) := by omega
          obtain ⟨q, hq⟩ : ∃ q, q = l.length + k := ⟨_, rfl⟩
          have HQ := Lib.hid hq
          rw [← hq] at HTL hk8
          simp only [← hq]
          by_cases hkl : k < numD o
          · have y0 : (k : Int) < max o.s (o.d.size : Int) := by rw [hmx]; omega
            have y1 : decide ((k : Int) < max o.s (o.d.size : Int)) = true := decide_eq_true y0
            by_cases h8 : q < 8192
            case neg =>
              have z0 : (8192 : Int) ≤ (q : Int) := by omega
              have z1 : decide ((8192 : Int) ≤ (q : Int)) = true := decide_eq_true z0
              have z2 : decide (8192 ≤ q) = true := decide_eq_true (by omega)
              have HE := Lib.hid (HAN.out.symm.trans (HLONG.out (by omega)))
              clear hag hmx hq h8 hkl hk hk8
              go_wp2_with (fail)
              refine bodyPost_ret (results_tmp2 rfl _ _ _) rfl ?_
              rw [HE.out]
              exact ⟨rfl, HAG.out.below⟩
            have z0 : ¬ (8192 : Int) ≤ (q : Int) := by omega
            have z1 : decide ((8192 : Int) ≤ (q : Int)) = false := decide_eq_false z0
            have z2 : decide (8192 ≤ q) = false := decide_eq_false (by omega)
            have HQ8 := Lib.hid h8
            have HK1 := Lib.hid (show k + 1 ≤ numD o by omega)
            have HQ1 := Lib.hid (show q + 1 = l.length + (k + 1) by omega)
            have hwk := IntWalk.wrap64_in ((k : Int) + 1) (by omega)
            have HWK := Lib.hid hwk
            have HNX := Lib.hid (show ∀ (wz : World) (g cap : Nat), wz.ownsRow w.heap.size 5 1 (.slice (some ⟨g, 0, none⟩) (q + 1) cap) (q + 1) (bcells (l ++ (comeL b o).take k) ++ [.int .u8 ((rdB b o k).toNat : Int)]) → ∀ ob, (wr.alloc ob).grownBy wz (Value.slice G2 q cg2).ownBlock → ((Value.slice G2 q cg2).ownBlock = some g ∨ g = (wr.alloc ob).heap.size) → Ag w w.heap.size bx o wz (.slice (some ⟨g, 0, none⟩) (q + 1) cap) (l ++ (comeL b o).take (k + 1)) from fun wz g cap h1 ob h2 h3 => by
              rw [HCN.out k hkl, ← List.append_assoc]
              have h4 := HAG.out
              rw [← HQ.out] at h4
              exact Ag.next h4 (Nat.le_refl _) HTL.out h1 h2 h3)
            have HNXD := Lib.hid (show ∀ (wz : World) (g cap : Nat), wz.ownsRow w.heap.size 5 1 (.slice (some ⟨g, 0, none⟩) (q + 1) cap) (q + 1) (bcells (l ++ (comeL b o).take k) ++ [.int .u8 ((rdB b o k).toNat : Int)]) → ∀ ob, (wr.drew.alloc ob).grownBy wz (Value.slice G2 q cg2).ownBlock → ((Value.slice G2 q cg2).ownBlock = some g ∨ g = (wr.drew.alloc ob).heap.size) → Ag w w.heap.size bx o wz (.slice (some ⟨g, 0, none⟩) (q + 1) cap) (l ++ (comeL b o).take (k + 1)) from fun wz g cap h1 ob h2 h3 => by
              rw [HCN.out k hkl, ← List.append_assoc]
              have h4 := HAG.out
              rw [← HQ.out] at h4
              exact Ag.next h4.drew (Nat.le_refl _) HTL.out h1 h2 h3)
            have HOW := Lib.hid (show wr.ownsRow w.heap.size 5 1 (.slice G2 q cg2) q (bcells (l ++ (comeL b o).take k)) from by
              have := HAG.out.own
              unfold OwnT at this
              rw [HTL.out, ← HQ.out] at this
              exact this)
            have HBX := Lib.hid (show ∀ W v m, Ag w w.heap.size bx o W v m → W.cell? ⟨bx, 1, none⟩ = some (.int .i64 o.f) ∧ W.cell? ⟨bx, 3, none⟩ = some (.string o.d) from fun _ _ _ h => ⟨(box_at h.box).f, (box_at h.box).d⟩)
            clear hag hmx hq h8 hk hk8 hwk
            by_cases hk1 : o.k = 1
            · have e1 : (o.k == 1) = true := beq_iff_eq.2 hk1
              have hin : 0 ≤ o.f ∧ o.f + (k : Int) < (b.size : Int) := by
                cases HWY.out with
                | copy h1 d i => have := ins_iff.1 i; unfold numD at hkl; omega
                | lay h1 f s t => omega
                | add h1 s t i => omega
              have HZ := Lib.hid (show rdB b o k = byAt b (o.f.toNat + k) from if_pos hk1)
              have hx := fun W => index_by b (o.f.toNat + k) (by omega) (o.f + (k : Int)) (by omega) W
              have ew := IntWalk.wrap64_in (o.f + (k : Int)) (by have := HBS.out; omega)
              rw [← HZ.out] at hx
              generalize rdB b o k = z at HNX hx
              clear HNXD
              clear hin hkl hk1
              go_wp2_with (at_builtin; refine wpList_append_lies _ rfl (.tmp 57) (.tmp 64) 92 rfl w.heap.size 5 i0 _ 1 1 Tryz.underlying92 HI.out HZ0.out HZ1.out HZ2.out rfl (by omega) (.slice G2 q cg2) q _ rfl (HOW.out.alloc _) ⟨wr.heap.size, 0, none⟩ 1 1 [.int .u8 (z.toNat : Int)] rfl rfl (one_srcT wr z.toNat) (one_oneT z.toNat) (by omega) (by have := HQ8.out; unfold maxLen; omega) (by have := HQ8.out; omega) (by have h1 := HAG.out.below.size; simp; omega) _ rfl ?_; intro gz cap2 wz hownz hgrow hatz hltz; have HND := Lib.hid (HNX.out wz gz cap2 hownz _ hgrow hatz); clear hownz hgrow hatz hltz)
              try rw [HWK.out]
              exact ⟨⟨k + 1, some ⟨gz, 0, none⟩, cap2, rfl, HK1.out, by rw [HQ1.out], by have := HQ8.out; have := HQ1.out; omega, HND.out⟩, ra_less k _ HK1.out⟩
            by_cases hk2 : o.k = 2
            · have e1 : (o.k == 1) = false := beq_eq_false_iff_ne.2 hk1
              have e2 : (o.k == 2) = true := beq_iff_eq.2 hk2
              have hin : k < o.d.size := by
                cases HWY.out with
                | copy h1 d i => omega
                | lay h1 f s t => unfold numD at hkl; omega
                | add h1 s t i => omega
              have HZ := Lib.hid (show rdB b o k = byAt o.d k from (if_neg hk1).trans (if_neg (by omega)))
              have hx := fun W => index_by o.d k hin (k : Int) rfl W
              rw [← HZ.out] at hx
              generalize rdB b o k = z at HNX hx
              clear HNXD
              clear hin hkl hk1 hk2
              go_wp2_with (at_builtin; refine wpList_append_lies _ rfl (.tmp 68) (.tmp 73) 92 rfl w.heap.size 5 i0 _ 1 1 Tryz.underlying92 HI.out HZ0.out HZ1.out HZ2.out rfl (by omega) (.slice G2 q cg2) q _ rfl (HOW.out.alloc _) ⟨wr.heap.size, 0, none⟩ 1 1 [.int .u8 (z.toNat : Int)] rfl rfl (one_srcT wr z.toNat) (one_oneT z.toNat) (by omega) (by have := HQ8.out; unfold maxLen; omega) (by have := HQ8.out; omega) (by have h1 := HAG.out.below.size; simp; omega) _ rfl ?_; intro gz cap2 wz hownz hgrow hatz hltz; have HND := Lib.hid (HNX.out wz gz cap2 hownz _ hgrow hatz); clear hownz hgrow hatz hltz)
              try rw [HWK.out]
              exact ⟨⟨k + 1, some ⟨gz, 0, none⟩, cap2, rfl, HK1.out, by rw [HQ1.out], by have := HQ8.out; have := HQ1.out; omega, HND.out⟩, ra_less k _ HK1.out⟩
            · have e1 : (o.k == 1) = false := beq_eq_false_iff_ne.2 hk1
              have e2 : (o.k == 2) = false := beq_eq_false_iff_ne.2 hk2
              have hin : o.k = 3 ∧ k < o.d.size ∧ 0 ≤ o.f ∧ o.f + (k : Int) < (b.size : Int) := by
                cases HWY.out with
                | copy h1 d i => omega
                | lay h1 f s t => omega
                | add h1 s t i => have := ins_iff.1 i; unfold numD at hkl; omega
              have HZ := Lib.hid (show rdB b o k = byAt b (o.f.toNat + k) + byAt o.d k from (if_neg hk1).trans (if_pos hin.1))
              have hx := fun W => index_by b (o.f.toNat + k) (by omega) (o.f + (k : Int)) (by omega) W
              have hx2 := fun W => index_by o.d k hin.2.1 (k : Int) rfl W
              have ew := IntWalk.wrap64_in (o.f + (k : Int)) (by have := HBS.out; omega)
              have ew2 : IntKind.i64.wrap (o.f + (k : Int)) = o.f + (k : Int) := IntWalk.i64_in _ (by have := HBS.out; omega)
              have e8 := add_u8 (byAt b (o.f.toNat + k)) (byAt o.d k)
              rw [← HZ.out] at e8
              clear HNX
              generalize rdB b o k = z at HNXD e8
              generalize byAt b (o.f.toNat + k) = z2 at hx e8
              generalize byAt o.d k = z1 at hx2 e8
              have e9 : IntKind.u8.wrap ((z2.toNat : Int) + (z1.toNat : Int)) = (z.toNat : Int) := by rw [← e8]; simp [IntKind.wrap, IntKind.bits, IntKind.signed]
              have k0 : wr.drew.cell? ⟨bx, 1, none⟩ = some (.int .i64 o.f) ∧ wr.drew.cell? ⟨bx, 3, none⟩ = some (.string o.d) := ⟨d1, d3⟩
              have k1 : (wr.drew.alloc (.cells #[.int .u8 (z.toNat : Int)] 5)).cell? ⟨bx, 1, none⟩ = some (.int .i64 o.f) ∧ (wr.drew.alloc (.cells #[.int .u8 (z.toNat : Int)] 5)).cell? ⟨bx, 3, none⟩ = some (.string o.d) := by
                have hb : Below wr.heap.size wr (wr.drew.alloc (.cells #[.int .u8 (z.toNat : Int)] 5)) := (below_drewN (Below.refl _ _) 1).alloc (Nat.le_refl _) _
                have hl := HAG.out.lt
                exact ⟨(hb.cell (p := ⟨bx, 1, none⟩) hl).trans d1, (hb.cell (p := ⟨bx, 3, none⟩) hl).trans d3⟩
              clear hin hkl hk1 hk2
              go_wp2_with (fail)
              refine wp_region_noPanic ?_
              refine wp_region_held_drew (S := fun W : World => W.cell? ⟨bx, 1, none⟩ = some (.int .i64 o.f) ∧ W.cell? ⟨bx, 3, none⟩ = some (.string o.d)) (by kernel_rfl) k0 (fun hHeld => ?_)
              refine wpAnyH_takeAt (i := 0) (v := .slice G2 q cg2) 41 rfl rfl (by kernel_rfl) (by kernel_rfl) (by kernel_rfl) (fun _ _ _ h => h) (Or.inl ⟨by rfl, ?_⟩) hHeld ?_
              · intro W hW
                try dsimp only at hW
                go_simp
              simp only [Act.put, List.setIfInBounds_toArray, List.set_cons_succ, List.set_cons_zero]
              refine wpAnyH_takeAt (i := 1) (v := .string b) 42 rfl rfl (by kernel_rfl) (by kernel_rfl) (by kernel_rfl) (fun _ _ _ h => h) (Or.inl ⟨by rfl, ?_⟩) hHeld ?_
              · intro W hW
                try dsimp only at hW
                go_simp
              simp only [Act.put, List.setIfInBounds_toArray, List.set_cons_succ, List.set_cons_zero]
              refine wpAnyH_takeAt (i := 2) (v := .pointer (some ⟨bx, 1, none⟩)) 43 rfl rfl (by kernel_rfl) (by kernel_rfl) (by kernel_rfl) (fun _ _ _ h => h) (Or.inl ⟨by rfl, ?_⟩) hHeld ?_
              · intro W hW
                try dsimp only at hW
                go_simp
              simp only [Act.put, List.setIfInBounds_toArray, List.set_cons_succ, List.set_cons_zero]
              refine wpAnyH_takeAt (i := 3) (v := .int .i64 o.f) 44 rfl rfl (by kernel_rfl) (by kernel_rfl) (by kernel_rfl) (fun _ _ _ h => h) (Or.inl ⟨by rfl, ?_⟩) hHeld ?_
              · intro W hW
                try dsimp only at hW
                go_simp
              simp only [Act.put, List.setIfInBounds_toArray, List.set_cons_succ, List.set_cons_zero]
              refine wpAnyH_takeAt (i := 4) (v := .int .i64 (k : Int)) 45 rfl rfl (by kernel_rfl) (by kernel_rfl) (by kernel_rfl) (fun _ _ _ h => h) (Or.inl ⟨by rfl, ?_⟩) hHeld ?_
              · intro W hW
                try dsimp only at hW
                go_simp
              simp only [Act.put, List.setIfInBounds_toArray, List.set_cons_succ, List.set_cons_zero]
              refine wpAnyH_takeAt (i := 5) (v := .int .i64 (o.f + (k : Int))) 46 rfl rfl (by kernel_rfl) (by kernel_rfl) (by kernel_rfl) (fun _ _ _ h => h) (Or.inl ⟨by rfl, ?_⟩) hHeld ?_
              · intro W hW
                try dsimp only at hW
                go_simp
              simp only [Act.put, List.setIfInBounds_toArray, List.set_cons_succ, List.set_cons_zero]
              refine wpAnyH_takeAt (i := 6) (v := .int .u8 (z2.toNat : Int)) 47 rfl rfl (by kernel_rfl) (by kernel_rfl) (by kernel_rfl) (fun _ _ _ h => h) (Or.inl ⟨by rfl, ?_⟩) hHeld ?_
              · intro W hW
                try dsimp only at hW
                go_simp
              simp only [Act.put, List.setIfInBounds_toArray, List.set_cons_succ, List.set_cons_zero]
              refine wpAnyH_takeAt (i := 7) (v := .pointer (some ⟨bx, 3, none⟩)) 48 rfl rfl (by kernel_rfl) (by kernel_rfl) (by kernel_rfl) (fun _ _ _ h => h) (Or.inl ⟨by rfl, ?_⟩) hHeld ?_
              · intro W hW
                try dsimp only at hW
                go_simp
              simp only [Act.put, List.setIfInBounds_toArray, List.set_cons_succ, List.set_cons_zero]
              refine wpAnyH_takeAt (i := 8) (v := .string o.d) 49 rfl rfl (by kernel_rfl) (by kernel_rfl) (by kernel_rfl) (fun _ _ _ h => h) (Or.inl ⟨by rfl, ?_⟩) hHeld ?_
              · intro W hW
                try dsimp only at hW
                go_simp
              simp only [Act.put, List.setIfInBounds_toArray, List.set_cons_succ, List.set_cons_zero]
              refine wpAnyH_takeAt (i := 9) (v := .int .i64 (k : Int)) 50 rfl rfl (by kernel_rfl) (by kernel_rfl) (by kernel_rfl) (fun _ _ _ h => h) (Or.inl ⟨by rfl, ?_⟩) hHeld ?_
              · intro W hW
                try dsimp only at hW
                go_simp
              simp only [Act.put, List.setIfInBounds_toArray, List.set_cons_succ, List.set_cons_zero]
              refine wpAnyH_takeAt (i := 10) (v := .int .u8 (z1.toNat : Int)) 51 rfl rfl (by kernel_rfl) (by kernel_rfl) (by kernel_rfl) (fun _ _ _ h => h) (Or.inl ⟨by rfl, ?_⟩) hHeld ?_
              · intro W hW
                try dsimp only at hW
                go_simp
              simp only [Act.put, List.setIfInBounds_toArray, List.set_cons_succ, List.set_cons_zero]
              refine wpAnyH_takeAt (i := 11) (v := .int .u8 (z.toNat : Int)) 52 rfl rfl (by kernel_rfl) (by kernel_rfl) (by kernel_rfl) (fun _ _ _ h => h) (Or.inl ⟨by rfl, ?_⟩) hHeld ?_
              · intro W hW
                try dsimp only at hW
                go_simp
              simp only [Act.put, List.setIfInBounds_toArray, List.set_cons_succ, List.set_cons_zero]
              refine wpAnyH_ready (rs := [12]) (by kernel_rfl) (by simp) ?_
              refine AllReadyH.cons rfl (fun K hK => ?_) AllReadyH.nil
              refine step_buildTo (by rfl) 92 5 1 #[(0, .tmp 52)] (by rfl) Tryz.underlying92 #[.int .u8 (z.toNat : Int)] (by rw [Array.toList_map]; exact oneU8 _) ?_
              refine hK.out _ _ k1 (fun hHeld2 => ?_)
              clear hK K hHeld
              have hHeld := hHeld2
              clear hHeld2
              try simp only [Act.put, List.setIfInBounds_toArray]
              refine wpAnyH_ready (rs := [13]) (by kernel_rfl) (by simp) ?_
              refine AllReadyH.cons rfl (fun K hK => ?_) AllReadyH.nil
              refine step_append_lies _ (by rfl) (.tmp 41) (.tmp 53) 92 (by rfl) w.heap.size 5 i0 _ 1 1 Tryz.underlying92 HI.out HZ0.out HZ1.out HZ2.out rfl (by omega) (.slice G2 q cg2) q (bcells (l ++ (comeL b o).take k)) (by rfl) (HOW.out.alloc _) ⟨wr.heap.size, 0, none⟩ 1 1 [.int .u8 (z.toNat : Int)] (by rfl) rfl (one_srcT wr z.toNat) (one_oneT z.toNat) (by omega) (by have := HQ8.out; unfold maxLen; omega) (by have := HQ8.out; omega) (by have h1 := HAG.out.below.size; simp; omega) _ rfl ?_
              intro gz cap2 wz hownz hgrow hatz hltz
              have HND := Lib.hid (HNXD.out wz gz cap2 hownz _ hgrow hatz)
              clear hownz hgrow hatz hltz
              refine hK.out _ _ (HBX.out _ _ _ HND.out) (fun hHeld2 => ?_)
              clear hK K hHeld
              have hHeld := hHeld2
              clear hHeld2
              try simp only [Act.put]
              refine wpAnyH_takeAt (i := 14) (v := .slice (some ⟨gz, 0, none⟩) (q + 1) cap2) 6 rfl rfl (by kernel_rfl) (by kernel_rfl) (by kernel_rfl) (fun _ _ _ h => h) (Or.inl ⟨by rfl, ?_⟩) hHeld ?_
              · intro W hW
                try dsimp only at hW
                go_simp
              simp only [Act.put]
              refine wpAnyH_done (by kernel_rfl) ?_ _
              refine NoPanic.normal ?_
              go_wp2_with (fail)
              try rw [HWK.out]
              exact ⟨⟨k + 1, some ⟨gz, 0, none⟩, cap2, rfl, HK1.out, by rw [HQ1.out], by have := HQ8.out; have := HQ1.out; omega, HND.out⟩, ra_less k _ HK1.out⟩
          · have hke : k = numD o := by omega
            have y0 : ¬ (k : Int) < max o.s (o.d.size : Int) := by rw [hmx]; omega
            have y1 : decide ((k : Int) < max o.s (o.d.size : Int)) = false := decide_eq_false y0
            have HQ9 := Lib.hid hk8
            have HNA := Lib.hid ((HYES.out (by omega)).symm.trans HAN.out)
            have HTK := Lib.hid (show (comeL b o).take k = comeL b o from List.take_of_length_le (by rw [HCL.out]; omega))
            have HAF := Lib.hid (show OwnT wr w.heap.size (.slice G2 q cg2) (l ++ comeL b o) ∧ Below w.heap.size w wr from by
              have h4 := HAG.out
              rw [HTK.out, ← HQ.out] at h4
              exact ⟨h4.own, h4.below⟩)
            have HLQ := Lib.hid (show (l ++ comeL b o).length = q by rw [List.length_append, HCL.out]; omega)
            clear hag hmx hkl hk hk8 hke hq
            go_wp2_with (fail)
            try rw [HW1.out]
            exact ⟨⟨j + 1, G2, cg2, l ++ comeL b o, rfl, HJ.out, by rw [HLQ.out], by rw [HLQ.out]; exact HQ9.out, HNA.out, HAF.out.1, HAF.out.2⟩, ra_less j n HJ.out⟩
    · have hje : j = n := by omega
      subst hje
      have x0 : ¬ (j : Int) < (j : Int) := by omega
      have x1 : decide ((j : Int) < (j : Int)) = false := decide_eq_false x0
      have hap := HAP.out
      rw [List.drop_eq_nil_of_le (by rw [HL.out]; exact Nat.le_refl _)] at hap
      have HE := Lib.hid (hap.symm.trans (show appD b l [] = (l, 0) from rfl))
      have hcv := HO.out.text wr rfl
      clear hap
      go_wp2_with (fail)
      refine bodyPost_ret (results_tmp2 rfl _ _ _) rfl ?_
      rw [HE.out]
      exact ⟨rfl, HB.out⟩
end Go.Proofs.YtlechjpaldpgnaaGreatDoor
namespace Go.Proofs.YtlechjpaldpgnaaGreatDoor
open Go.ChangeShapes Go.WideShapes Go.ChangeAt Go.RowKit Pn Pt

namespace Pt
/-- A deed as the reference reads it behind its kind. -/
def rfK (K : Int) (r1 : ByteArray) (b1 : Bool) : Deed × ByteArray × Bool :=
  if K = 1 then (⟨K, (nmOut r1 mxB : Int), (nmOut (nmRest r1 mxB) mxB : Int), ⟨#[]⟩⟩, nmRest (nmRest r1 mxB) mxB, nmBad (nmRest r1 mxB) (nmBad r1 b1 mxB) mxB)
  else if K = 2 then (⟨K, 0, 0, txOut r1 8192⟩, txRest r1 8192, txBad r1 b1 8192)
  else (⟨K, (nmOut r1 mxB : Int), 0, txOut (nmRest r1 mxB) 8192⟩, txRest (nmRest r1 mxB) 8192, txBad (nmRest r1 mxB) (nmBad r1 b1 mxB) 8192)
theorem nm_bad_out {r : ByteArray} {bad : Bool} {most : Int} (hs : Sane r bad) (h : nmBad r bad most = true) : nmOut r most = 0 ∧ nmOk r most = false := by
  have hk : nmOk r most = false := by
    cases bad with
    | false => unfold nmBad at h; simpa using h
    | true =>
      have := hs rfl
      exact nm_short (by omega)
  exact ⟨nm_out_no hk, hk⟩
theorem tx_bad_out {r : ByteArray} {bad : Bool} {most : Int} (hs : Sane r bad) (h : txBad r bad most = true) : (txOut r most).size = 0 := by
  unfold txBad tkBad at h
  unfold txOut
  by_cases hl : (nmRest r most).size < nmOut r most
  · rw [tk_out_no hl]; rfl
  · rw [decide_eq_false hl, Bool.or_false] at h
    rw [(nm_bad_out hs h).1]
    have := tk_out_size (nmRest r most) 0
    rw [tk_out_yes (Nat.zero_le _), extract_size _ _ _ (Nat.zero_le _)]
/-- What was read wrongly can't be. -/
theorem rfK_bad {K : Int} {r1 : ByteArray} {b1 : Bool} (hs : Sane r1 b1) (h : (rfK K r1 b1).2.2 = true) : okD mxB (rfK K r1 b1).1 = false := by
  unfold rfK at h ⊢
  split
  · rename_i hk
    subst hk
    rw [if_pos rfl] at h
    refine not_copy fun hh => ?_
    have := (nm_bad_out (nm_sane hs mxB) h).1
    omega
  · rename_i hk1
    rw [if_neg hk1] at h
    split
    · rename_i hk
      subst hk
      rw [if_pos rfl] at h
      refine not_lay fun hh => ?_
      have := tx_bad_out hs h
      omega
    · rename_i hk2
      rw [if_neg hk2] at h
      have := tx_bad_out (nm_sane hs mxB) h
      by_cases hk3 : K = 3
      · subst hk3
        refine not_add fun hh => ?_
        omega
      · exact not_none hk1 hk2 hk3
/-- The reference's way of reading and the program's. -/
theorem rf_rd {K : Int} {r1 : ByteArray} {b1 : Bool} : okD mxB (rfK K r1 b1).1 = okD mxB (rdK K r1 b1).1 ∧ (okD mxB (rfK K r1 b1).1 = true → rfK K r1 b1 = rdK K r1 b1) := by
  unfold rfK rdK
  by_cases h1 : K = 1
  · rw [if_pos h1, if_pos h1]; exact ⟨rfl, fun _ => rfl⟩
  · rw [if_neg h1, if_neg h1]
    by_cases h2 : K = 2
    · rw [if_pos h2, if_pos h2]; exact ⟨rfl, fun _ => rfl⟩
    · rw [if_neg h2, if_neg h2]
      by_cases h3 : K = 3
      · rw [if_pos h3]; exact ⟨rfl, fun _ => rfl⟩
      · rw [if_neg h3, not_none h1 h2 h3, not_none h1 h2 h3]
        exact ⟨rfl, fun h => by cases h⟩
theorem rf_rest (K : Int) (r1 : ByteArray) (b1 : Bool) (hs : Sane r1 b1) : Sane (rfK K r1 b1).2.1 (rfK K r1 b1).2.2 := by
  unfold rfK
  split
  · exact nm_sane (nm_sane hs _) _
  · split
    · exact tx_sane hs _
    · exact tx_sane (nm_sane hs _) _
/-- While a deed is read: the eye, the deed, what was read. -/
structure Rp (w : World) (v : Value) (M : List Deed) (Q : Nat) (W : World) (o : Deed) (r : ByteArray) (bad : Bool) : Prop where
  eye : RefAt W w.heap.size r bad
  box : W.heap[Q]? = some (boxD 146 o)
  own : OwnD 146 W (w.heap.size + 1) v M
  below : Below w.heap.size w W
  q : w.heap.size < Q
  ne : v.ownBlock ≠ some Q
namespace Rp
variable {w W W' : World} {v : Value} {M : List Deed} {Q : Nat} {o : Deed} {r r' : ByteArray} {bad bad' : Bool}
theorem says (h : Rp w v M Q W o r bad) (h1 : RefAt W' w.heap.size r' bad') (h2 : Only W W' w.heap.size) : Rp w v M Q W' o r' bad' :=
  ⟨h1, only_box h.box h2 (by have := h.q; omega), h.own.only h2 (Nat.lt_succ_self _), h.below.trans (h2.below (Nat.le_refl _) h.below.size), h.q, h.ne⟩
theorem own_set {t : TypeId} {base : Nat} {k : Nat} {x : Value} (h : OwnD t W base v M) (hne : v.ownBlock ≠ some Q) : OwnD t (W.setCell ⟨Q, k, none⟩ x) base v M := by
  refine ⟨h.1, ?_⟩
  rcases h.2 with hn | ⟨g, cap, cur, hv, h1, hg, rr⟩
  · exact .inl hn
  · exact .inr ⟨g, cap, cur, hv, h1, (heap_setCell_other _ ⟨Q, k, none⟩ g _ (fun e => hne (by rw [hv, show g = Q from e]; rfl))).trans hg, rr⟩
theorem setF (h : Rp w v M Q W o r bad) (f : Int) : Rp w v M Q (W.setCell ⟨Q, 1, none⟩ (.int .i64 f)) ⟨o.k, f, o.s, o.d⟩ r bad :=
  ⟨h.eye.of_block (heap_setCell_other _ ⟨Q, 1, none⟩ _ _ (by have := h.q; show w.heap.size ≠ Q; omega)), box_setF h.box f, own_set h.own h.ne, h.below.setCell (p := ⟨Q, 1, none⟩) (Nat.le_of_lt h.q) _, h.q, h.ne⟩
theorem setS (h : Rp w v M Q W o r bad) (s : Int) : Rp w v M Q (W.setCell ⟨Q, 2, none⟩ (.int .i64 s)) ⟨o.k, o.f, s, o.d⟩ r bad :=
  ⟨h.eye.of_block (heap_setCell_other _ ⟨Q, 2, none⟩ _ _ (by have := h.q; show w.heap.size ≠ Q; omega)), box_setS h.box s, own_set h.own h.ne, h.below.setCell (p := ⟨Q, 2, none⟩) (Nat.le_of_lt h.q) _, h.q, h.ne⟩
theorem setT (h : Rp w v M Q W o r bad) (d : ByteArray) : Rp w v M Q (W.setCell ⟨Q, 3, none⟩ (.string d)) ⟨o.k, o.f, o.s, d⟩ r bad :=
  ⟨h.eye.of_block (heap_setCell_other _ ⟨Q, 3, none⟩ _ _ (by have := h.q; show w.heap.size ≠ Q; omega)), box_setT h.box d, own_set h.own h.ne, h.below.setCell (p := ⟨Q, 3, none⟩) (Nat.le_of_lt h.q) _, h.q, h.ne⟩
end Rp
/-- What the reference's Parse answers. -/
def RaSays (w : World) (P : Option (List Deed)) (e : Ending) (w' : World) : Prop := Below w.heap.size w w' ∧ match P with
  | some L => ∃ A c, e = .returned (.tuple #[.slice A L.length c, .bool true]) ∧ DIn w' A L
  | none => ∃ A n c, e = .returned (.tuple #[.slice A n c, .bool false])
theorem ra_some {w w' : World} {P : Option (List Deed)} {L : List Deed} {A : Option Addr} {c : Nat} (hb : Below w.heap.size w w') (h : P = some L) (hd : DIn w' A L) : RaSays w P (.returned (.tuple #[.slice A L.length c, .bool true])) w' := by
  subst h
  exact ⟨hb, A, c, rfl, hd⟩
theorem ra_none {w w' : World} {P : Option (List Deed)} {A : Option Addr} {n c : Nat} (hb : Below w.heap.size w w') (h : P = none) : RaSays w P (.returned (.tuple #[.slice A n c, .bool false])) w' := by
  subst h
  exact ⟨hb, A, n, c, rfl⟩
end Pt
set_option maxRecDepth 100000 in
set_option maxHeartbeats 12800000 in
theorem ref19_parse (w : World) (s : ByteArray) : Calls Tryz.prog 50 #[.string s] w (RaSays w (parD s)) := by
  have HM := Lib.hid (nm_most s 256)
  have HP := Lib.hid (show parD s = endD (preD [] (prD (nmOut s 256) (nmRest s 256) (nmBad s false 256))) from by rw [preD_nil]; rfl)
  have HSN := Lib.hid (show Sane (nmRest s 256) (nmBad s false 256) from nm_sane (fun h => by cases h) 256)
  have HBN := Lib.hid (show nmBad s false 256 = true → nmOut s 256 = 0 from fun h => (nm_bad_out (fun h => by cases h) h).1)
  have HG := Lib.hid (fun o W => ref19_good o W)
  have HE0 := Lib.hid (show RefAt (w.alloc (.cells #[.string s, .bool false] 143)) w.heap.size s false from heap_alloc_new w _)
  have HB0 := Lib.hid (show Below w.heap.size w (w.alloc (.cells #[.string s, .bool false] 143)) from (Below.refl _ _).alloc (Nat.le_refl _) _)
  have HN0 := Lib.hid (ref_num _ w.heap.size s false HE0.out (fun h => by cases h) 256)
  obtain ⟨i0, hi, hz0, hz1, hz2⟩ := info_parts info_rop
  have HI := Lib.hid hi
  have HZ0 := Lib.hid hz0
  have HZ1 := Lib.hid hz1
  have HZ2 := Lib.hid hz2
  clear hi hz0 hz1 hz2
  generalize parD s = P at HP ⊢
  go_enter Tryz.func50, Tryz.ntmps50
  go_wp2_with (fail)
  refine HN0.out.mono ?_
  rintro e w2 ⟨rfl, e2, o2⟩
  have E2 := Lib.hid e2
  have B2 := Lib.hid (HB0.out.trans (o2.below (Nat.le_refl _) (by simp)))
  clear e2 o2 HE0 HB0 HN0
  generalize nmOut s 256 = n at HM HP HBN ⊢
  generalize nmRest s 256 = r0 at HSN HP E2
  generalize nmBad s false 256 = c0 at HSN HP E2 HBN
  have HOD := Lib.hid (show OwnD 146 (w2.alloc (.cells #[] 146)) (w.heap.size + 1) (.slice (some ⟨w2.heap.size, 0, none⟩) 0 0) [] from by
    have := World.ownsRow_made (e := 146) (size := 4) w2 #[] 0 (base := w.heap.size + 1) E2.out.lt (Nat.zero_le _) rfl
    exact (show (w2.alloc (.cells #[] 146)).ownsRow (w.heap.size + 1) 146 4 (.slice (some ⟨w2.heap.size, 0, none⟩) 0 0) 0 [] from by simpa using this))
  have HES := Lib.hid (show RefAt (w2.alloc (.cells #[] 146)) w.heap.size r0 c0 from E2.out.of_block (heap_alloc_old _ _ E2.out.lt))
  have HBS := Lib.hid (show Below w.heap.size w (w2.alloc (.cells #[] 146)) from B2.out.alloc B2.out.size _)
  go_wp2_with (refine wpList_buildNone rfl 106 146 rfl i0 Tryz.underlying106 HI.out ?_)
  go_loopw [6, 7] (fun v i wr => ∃ (j : Nat) (G : Option Addr) (cg : Nat) (M : List Deed) (r : ByteArray) (bad : Bool), i = .int .i64 (j : Int) ∧ j ≤ n ∧ v = .slice G j cg ∧ M.length = j ∧ OwnD 146 wr (w.heap.size + 1) v M ∧ RefAt wr w.heap.size r bad ∧ Sane r bad ∧ (bad = true → n = 0) ∧ P = endD (preD M (prD (n - j) r bad)) ∧ Below w.heap.size w wr) (fun _ i _ => match i with | .int _ k => n - k.toNat | _ => 0)
  case atStart => exact ⟨0, _, 0, [], r0, c0, rfl, Nat.zero_le _, rfl, rfl, HOD.out, HES.out, HSN.out, HBN.out, HP.out, HBS.out⟩
  case round =>
    clear HOD HES HBS E2 B2 HP HSN HBN
    obtain ⟨j, G, cg, M, r, bad, rfl, hj, rfl, hml, ho, he, hsn, hbn, hp, hb⟩ := hrel
    have HML := Lib.hid hml
    have HO := Lib.hid ho
    have HE := Lib.hid he
    have HSN := Lib.hid hsn
    have HP := Lib.hid hp
    have HB := Lib.hid hb
    have e0 := he.rest
    have e1 := he.wrong
    clear hml ho he hsn hp hb
    have x2 : 0 ≤ (j : Int) := by omega
    by_cases hlt : j < n
    · have x0 : (j : Int) < (n : Int) := by omega
      have x1 : decide ((j : Int) < (n : Int)) = true := decide_eq_true x0
      have hbf : bad = false := by
        cases bad with
        | false => rfl
        | true => have := hbn rfl; omega
      subst hbf
      have HJ := Lib.hid (show j + 1 ≤ n by omega)
      have HNJ := Lib.hid (show n - j = n - (j + 1) + 1 by omega)
      rw [HNJ.out] at HP
      have HW1 := Lib.hid (IntWalk.wrap64_in ((j : Int) + 1) (by have := HM.out; omega))
      have HPN := Lib.hid (fun h => HP.out.trans (preD_not M (n - (j + 1)) r false h))
      have HPY := Lib.hid (fun h => HP.out.trans (congrArg endD (preD_step M (n - (j + 1)) r false h)))
      have HTK := Lib.hid (ref_take wr w.heap.size r false HE.out HSN.out 1)
      rw [rdD_eq] at HPN HPY
      by_cases hsz : r.size < 1
      · have hb1 := tk_bad_no (r := r) (n := 1) false hsz
        have HNO := Lib.hid (HPN.out (by
          rw [tk_out_no hsz]
          exact not_none (by decide) (by decide) (by decide)))
        rw [hb1] at HTK
        clear HPN HPY HP hlt hbn hb1
        go_wp2_with (fail)
        refine HTK.out.mono ?_
        rintro e w3 ⟨rfl, e3, o3⟩
        have k1 := e3.wrong
        have B3 := Lib.hid (HB.out.trans (o3.below (Nat.le_refl _) HB.out.size))
        clear e3 o3 e0 e1
        go_wp2_with (fail)
        refine bodyPost_ret (results_tmp2 rfl _ _ _) rfl ?_
        exact ra_none B3.out HNO.out
      have hb1 := tk_bad_yes (r := r) (n := 1) false (by omega)
      have HS1 := Lib.hid (show Sane (tkRest r 1) false from fun h => by cases h)
      rw [hb1] at HTK HPN HPY
      have hsk := size_pos (r := r) (n := 1) (by omega) (by omega)
      have hxk : ∀ W, (Instr.index 9 (.string (tkOut r 1)) (.int .i64 0)).run Tryz.prog W = .ok (.int .u8 ((byAt (tkOut r 1) 0).toNat : Int)) W := fun W => index_by (tkOut r 1) 0 (by omega) 0 rfl W
      have hwk := IntWalk.wrap64_in (((byAt (tkOut r 1) 0).toNat : Int)) (by have := (byAt (tkOut r 1) 0).toNat_lt; omega)
      have HAG := Lib.hid (rf_rd (K := ((byAt (tkOut r 1) 0).toNat : Int)) (r1 := tkRest r 1) (b1 := false))
      have HBD := Lib.hid (rfK_bad (K := ((byAt (tkOut r 1) 0).toNat : Int)) (r1 := tkRest r 1) (b1 := false) HS1.out)
      have HSR := Lib.hid (rf_rest ((byAt (tkOut r 1) 0).toNat : Int) (tkRest r 1) false HS1.out)
      generalize hK : ((byAt (tkOut r 1) 0).toNat : Int) = K at hxk hwk HAG HBD HPN HPY HSR
      have HXK := Lib.hid hxk
      clear hK hsk hb1 hsz hlt HP
      go_wp2_with (fail)
      refine HTK.out.mono ?_
      rintro e w3 ⟨rfl, e3, o3⟩
      have k1 := e3.wrong
      have HR3 := Lib.hid (show Rp w (.slice G j cg) M w3.heap.size (w3.alloc (boxD 146 ⟨K, 0, 0, ⟨#[]⟩⟩)) ⟨K, 0, 0, ⟨#[]⟩⟩ (tkRest r 1) false from
        have hb3 := HB.out.trans (o3.below (Nat.le_refl _) HB.out.size)
        have ho3 := HO.out.only o3 (Nat.lt_succ_self _)
        ⟨e3.of_block (heap_alloc_old _ _ e3.lt), heap_alloc_new w3 _, ho3.below ((Below.refl w3.heap.size w3).alloc (Nat.le_refl _) _) (Nat.le_refl _), hb3.alloc hb3.size _, e3.lt, fun e => by have := (ho3.lt _ e).2; omega⟩)
      clear e3 o3 HTK HO HE HB e0 e1 HSN HS1
      generalize tkOut r 1 = kk at hxk HXK ⊢
      generalize tkRest r 1 = r1 at HAG HBD HPN HPY HSR HR3
      unfold boxD at HR3
      simp only at HR3
      unfold rfK at HAG HBD HSR
      by_cases hk1 : K = 1
      · subst hk1
        rw [if_pos rfl] at HAG HBD HSR
        go_wp2_with (fail)
        refine (ref_num _ w.heap.size r1 false HR3.out.eye (fun h => by cases h) mxB).mono ?_
        rintro e w4 ⟨rfl, e4, o4⟩
        have H4 := Lib.hid (HR3.out.says e4 o4)
        have f4 := box_fz H4.out.box
        obtain ⟨a0, a1, a2, a3⟩ := box_at H4.out.box
        have H5 := Lib.hid (H4.out.setF (nmOut r1 mxB : Int))
        clear e4 o4
        go_wp2_with (fail)
        refine (ref_num _ w.heap.size _ _ H5.out.eye (nm_sane (fun h => by cases h) mxB) mxB).mono ?_
        rintro e w5 ⟨rfl, e5, o5⟩
        have H6 := Lib.hid (H5.out.says e5 o5)
        have f6 := box_fz H6.out.box
        obtain ⟨b0, b1, b2, b3⟩ := box_at H6.out.box
        have H7 := Lib.hid (H6.out.setS (nmOut (nmRest r1 mxB) mxB : Int))
        simp only at H7
        clear e5 o5 f4 a0 a1 a2 a3
        go_upto_region 16 with (fail)
        generalize (w5.setCell ⟨w3.heap.size, 2, none⟩ (.int .i64 (nmOut (nmRest r1 mxB) mxB : Int))) = WW at H7 ⊢
        clear f6 b0 b1 b2 b3 H4 H5 H6 HR3
        generalize nmBad (nmRest r1 mxB) (nmBad r1 false mxB) mxB = bad2 at H7 HAG HBD HSR
        generalize nmRest (nmRest r1 mxB) mxB = R2 at H7 HAG HSR
        generalize hoo : (⟨1, (nmOut r1 mxB : Int), (nmOut (nmRest r1 mxB) mxB : Int), ⟨#[]⟩⟩ : Deed) = o at H7 HAG HBD
        have HH := Lib.hid H7.out
        clear H7 hoo HSR
        obtain ⟨q0, q1, q2, q3⟩ := box_at HH.out.box
        have k9 := HH.out.eye.wrong
        cases bad2 with
        | true =>
          have HNO := Lib.hid (HPN.out (HAG.out.1.symm.trans (HBD.out rfl)))
          clear HPN HPY HAG HBD
          go_wp2_with (fail)
          refine bodyPost_ret (results_tmp2 rfl _ _ _) rfl ?_
          exact ra_none HH.out.below HNO.out
        | false =>
          clear HBD
          have HGO := Lib.hid (HG.out o)
          unfold dv at HGO
          cases hgd : okD mxB o with
          | false =>
            have HNO := Lib.hid (HPN.out (HAG.out.1.symm.trans hgd))
            rw [hgd] at HGO
            clear HPN HPY HAG hgd
            go_wp2_with (first | (go_at_call 81; refine (HGO.out _).mono ?_; rintro e w7 ⟨rfl, b7⟩; have HB7 := Lib.hid (HH.out.below.trans (b7.mono HH.out.below.size)); clear b7))
            refine bodyPost_ret (results_tmp2 rfl _ _ _) rfl ?_
            exact ra_none HB7.out HNO.out
          | true =>
            have HYE := Lib.hid (HPY.out (HAG.out.1.symm.trans hgd))
            have HEQ := Lib.hid (HAG.out.2 hgd)
            rw [← HEQ.out] at HYE
            rw [hgd] at HGO
            clear HPN HPY HAG hgd HEQ
            go_wp2_with (first | (go_at_call 81; refine (HGO.out _).mono ?_; rintro e w7 ⟨rfl, b7⟩; have HB7 := Lib.hid (HH.out.below.trans (b7.mono HH.out.below.size)); have HX7 := Lib.hid (show w7.heap[w3.heap.size]? = some (boxD 146 o) from (b7.block _ (Array.getElem?_eq_some_iff.1 HH.out.box).1).trans HH.out.box); obtain ⟨p0, p1, p2, p3⟩ := box_at HX7.out; have HE7 := Lib.hid (show RefAt w7 w.heap.size R2 false from HH.out.eye.of_block (b7.block _ HH.out.eye.lt)); have HO7 := Lib.hid (OwnD.at (OwnD.below HH.out.own b7 (Nat.le_refl _)) HML.out); clear b7) | (refine Great.wpList_buildSliceTo rfl 106 146 1 #[(0, .tmp 63)] rfl _ rfl (some 64) rfl Tryz.underlying106 #[.int .i64 o.k, .int .i64 o.f, .int .i64 o.s, .string o.d] (ropOne o.k o.f o.s o.d) ?_) | (at_builtin; refine wpList_append_lies _ rfl (.tmp 62) (.tmp 64) 106 rfl (w.heap.size + 1) 146 i0 _ 4 40 Tryz.underlying106 HI.out HZ0.out HZ1.out HZ2.out rfl (by omega) (.slice G j cg) j _ rfl (HO7.out.alloc _) ⟨w7.heap.size, 0, none⟩ 1 1 (dl o) rfl rfl (deed_src w7 _ o) (dl_one o) (by omega) (by have := HM.out; have := HJ.out; unfold maxLen; omega) (by have := HM.out; have := HJ.out; omega) (by have := HE7.out.lt; simp; omega) _ rfl ?_; intro g8 c8 w8 hown8 hg8 hwh8 hl8))
            have HON := Lib.hid (OwnD.grew (o := o) HML.out hown8)
            have HEN := Lib.hid (grown_keeps HO7.out hg8 HE7.out (Nat.lt_succ_self _))
            have HBN := Lib.hid (grown_below HB7.out (Nat.le_refl _) (Nat.le_succ _) HO7.out hg8)
            clear hown8 hg8 hwh8 hl8
            try rw [HW1.out]
            exact ⟨⟨j + 1, _, c8, M ++ [o], R2, false, rfl, HJ.out, rfl, by rw [List.length_append, HML.out]; rfl, HON.out, HEN.out, (fun h => by cases h), (fun h => by cases h), HYE.out, HBN.out⟩, pt_less j n HJ.out⟩
      have k1' : (K == 1) = false := beq_eq_false_iff_ne.2 hk1
      rw [if_neg hk1] at HAG HBD HSR
      by_cases hk2 : K = 2
      · subst hk2
        rw [if_pos rfl] at HAG HBD HSR
        go_wp2_with (fail)
        refine (ref_text _ w.heap.size r1 false HR3.out.eye (fun h => by cases h) 8192).mono ?_
        rintro e w4 ⟨rfl, e4, o4⟩
        have H4 := Lib.hid (HR3.out.says e4 o4)
        have f4 := box_fz H4.out.box
        obtain ⟨a0, a1, a2, a3⟩ := box_at H4.out.box
        have H7 := Lib.hid (H4.out.setT (txOut r1 8192))
        simp only at H7
        clear e4 o4
        go_upto_region 16 with (fail)
        generalize (w4.setCell ⟨w3.heap.size, 3, none⟩ (.string (txOut r1 8192))) = WW at H7 ⊢
        clear f4 a0 a1 a2 a3 H4 HR3
        generalize txBad r1 false 8192 = bad2 at H7 HAG HBD HSR
        generalize txRest r1 8192 = R2 at H7 HAG HSR
        generalize hoo : (⟨2, 0, 0, txOut r1 8192⟩ : Deed) = o at H7 HAG HBD
        have HH := Lib.hid H7.out
        clear H7 hoo HSR
        obtain ⟨q0, q1, q2, q3⟩ := box_at HH.out.box
        have k9 := HH.out.eye.wrong
        cases bad2 with
        | true =>
          have HNO := Lib.hid (HPN.out (HAG.out.1.symm.trans (HBD.out rfl)))
          clear HPN HPY HAG HBD
          go_wp2_with (fail)
          refine bodyPost_ret (results_tmp2 rfl _ _ _) rfl ?_
          exact ra_none HH.out.below HNO.out
        | false =>
          clear HBD
          have HGO := Lib.hid (HG.out o)
          unfold dv at HGO
          cases hgd : okD mxB o with
          | false =>
            have HNO := Lib.hid (HPN.out (HAG.out.1.symm.trans hgd))
            rw [hgd] at HGO
            clear HPN HPY HAG hgd
            go_wp2_with (first | (go_at_call 81; refine (HGO.out _).mono ?_; rintro e w7 ⟨rfl, b7⟩; have HB7 := Lib.hid (HH.out.below.trans (b7.mono HH.out.below.size)); clear b7))
            refine bodyPost_ret (results_tmp2 rfl _ _ _) rfl ?_
            exact ra_none HB7.out HNO.out
          | true =>
            have HYE := Lib.hid (HPY.out (HAG.out.1.symm.trans hgd))
            have HEQ := Lib.hid (HAG.out.2 hgd)
            rw [← HEQ.out] at HYE
            rw [hgd] at HGO
            clear HPN HPY HAG hgd HEQ
            go_wp2_with (first | (go_at_call 81; refine (HGO.out _).mono ?_; rintro e w7 ⟨rfl, b7⟩; have HB7 := Lib.hid (HH.out.below.trans (b7.mono HH.out.below.size)); have HX7 := Lib.hid (show w7.heap[w3.heap.size]? = some (boxD 146 o) from (b7.block _ (Array.getElem?_eq_some_iff.1 HH.out.box).1).trans HH.out.box); obtain ⟨p0, p1, p2, p3⟩ := box_at HX7.out; have HE7 := Lib.hid (show RefAt w7 w.heap.size R2 false from HH.out.eye.of_block (b7.block _ HH.out.eye.lt)); have HO7 := Lib.hid (OwnD.at (OwnD.below HH.out.own b7 (Nat.le_refl _)) HML.out); clear b7) | (refine Great.wpList_buildSliceTo rfl 106 146 1 #[(0, .tmp 63)] rfl _ rfl (some 64) rfl Tryz.underlying106 #[.int .i64 o.k, .int .i64 o.f, .int .i64 o.s, .string o.d] (ropOne o.k o.f o.s o.d) ?_) | (at_builtin; refine wpList_append_lies _ rfl (.tmp 62) (.tmp 64) 106 rfl (w.heap.size + 1) 146 i0 _ 4 40 Tryz.underlying106 HI.out HZ0.out HZ1.out HZ2.out rfl (by omega) (.slice G j cg) j _ rfl (HO7.out.alloc _) ⟨w7.heap.size, 0, none⟩ 1 1 (dl o) rfl rfl (deed_src w7 _ o) (dl_one o) (by omega) (by have := HM.out; have := HJ.out; unfold maxLen; omega) (by have := HM.out; have := HJ.out; omega) (by have := HE7.out.lt; simp; omega) _ rfl ?_; intro g8 c8 w8 hown8 hg8 hwh8 hl8))
            have HON := Lib.hid (OwnD.grew (o := o) HML.out hown8)
            have HEN := Lib.hid (grown_keeps HO7.out hg8 HE7.out (Nat.lt_succ_self _))
            have HBN := Lib.hid (grown_below HB7.out (Nat.le_refl _) (Nat.le_succ _) HO7.out hg8)
            clear hown8 hg8 hwh8 hl8
            try rw [HW1.out]
            exact ⟨⟨j + 1, _, c8, M ++ [o], R2, false, rfl, HJ.out, rfl, by rw [List.length_append, HML.out]; rfl, HON.out, HEN.out, (fun h => by cases h), (fun h => by cases h), HYE.out, HBN.out⟩, pt_less j n HJ.out⟩
      have k2' : (K == 2) = false := beq_eq_false_iff_ne.2 hk2
      have k2'' : (K != 2) = true := bne_iff_ne.2 hk2
      rw [if_neg hk2] at HAG HBD HSR
      go_wp2_with (fail)
      refine (ref_num _ w.heap.size r1 false HR3.out.eye (fun h => by cases h) mxB).mono ?_
      rintro e w4 ⟨rfl, e4, o4⟩
      have H4 := Lib.hid (HR3.out.says e4 o4)
      have f4 := box_fz H4.out.box
      obtain ⟨a0, a1, a2, a3⟩ := box_at H4.out.box
      have H5 := Lib.hid (H4.out.setF (nmOut r1 mxB : Int))
      clear e4 o4
      go_wp2_with (fail)
      refine (ref_text _ w.heap.size _ _ H5.out.eye (nm_sane (fun h => by cases h) mxB) 8192).mono ?_
      rintro e w5 ⟨rfl, e5, o5⟩
      have H6 := Lib.hid (H5.out.says e5 o5)
      have f6 := box_fz H6.out.box
      obtain ⟨b0, b1, b2, b3⟩ := box_at H6.out.box
      have H7 := Lib.hid (H6.out.setT (txOut (nmRest r1 mxB) 8192))
      simp only at H7
      clear e5 o5 f4 a0 a1 a2 a3
      go_upto_region 16 with (fail)
      generalize (w5.setCell ⟨w3.heap.size, 3, none⟩ (.string (txOut (nmRest r1 mxB) 8192))) = WW at H7 ⊢
      clear f6 b0 b1 b2 b3 H4 H5 H6 HR3
      generalize txBad (nmRest r1 mxB) (nmBad r1 false mxB) 8192 = bad2 at H7 HAG HBD HSR
      generalize txRest (nmRest r1 mxB) 8192 = R2 at H7 HAG HSR
      generalize hoo : (⟨K, (nmOut r1 mxB : Int), 0, txOut (nmRest r1 mxB) 8192⟩ : Deed) = o at H7 HAG HBD
      have HH := Lib.hid H7.out
      clear H7 hoo HSR
      obtain ⟨q0, q1, q2, q3⟩ := box_at HH.out.box
      have k9 := HH.out.eye.wrong
      cases bad2 with
      | true =>
        have HNO := Lib.hid (HPN.out (HAG.out.1.symm.trans (HBD.out rfl)))
        clear HPN HPY HAG HBD
        go_wp2_with (fail)
        refine bodyPost_ret (results_tmp2 rfl _ _ _) rfl ?_
        exact ra_none HH.out.below HNO.out
      | false =>
        clear HBD
        have HGO := Lib.hid (HG.out o)
        unfold dv at HGO
        cases hgd : okD mxB o with
        | false =>
          have HNO := Lib.hid (HPN.out (HAG.out.1.symm.trans hgd))
          rw [hgd] at HGO
          clear HPN HPY HAG hgd
          go_wp2_with (first | (go_at_call 81; refine (HGO.out _).mono ?_; rintro e w7 ⟨rfl, b7⟩; have HB7 := Lib.hid (HH.out.below.trans (b7.mono HH.out.below.size)); clear b7))
          refine bodyPost_ret (results_tmp2 rfl _ _ _) rfl ?_
          exact ra_none HB7.out HNO.out
        | true =>
          have HYE := Lib.hid (HPY.out (HAG.out.1.symm.trans hgd))
          have HEQ := Lib.hid (HAG.out.2 hgd)
          rw [← HEQ.out] at HYE
          rw [hgd] at HGO
          clear HPN HPY HAG hgd HEQ
          go_wp2_with (first | (go_at_call 81; refine (HGO.out _).mono ?_; rintro e w7 ⟨rfl, b7⟩; have HB7 := Lib.hid (HH.out.below.trans (b7.mono HH.out.below.size)); have HX7 := Lib.hid (show w7.heap[w3.heap.size]? = some (boxD 146 o) from (b7.block _ (Array.getElem?_eq_some_iff.1 HH.out.box).1).trans HH.out.box); obtain ⟨p0, p1, p2, p3⟩ := box_at HX7.out; have HE7 := Lib.hid (show RefAt w7 w.heap.size R2 false from HH.out.eye.of_block (b7.block _ HH.out.eye.lt)); have HO7 := Lib.hid (OwnD.at (OwnD.below HH.out.own b7 (Nat.le_refl _)) HML.out); clear b7) | (refine Great.wpList_buildSliceTo rfl 106 146 1 #[(0, .tmp 63)] rfl _ rfl (some 64) rfl Tryz.underlying106 #[.int .i64 o.k, .int .i64 o.f, .int .i64 o.s, .string o.d] (ropOne o.k o.f o.s o.d) ?_) | (at_builtin; refine wpList_append_lies _ rfl (.tmp 62) (.tmp 64) 106 rfl (w.heap.size + 1) 146 i0 _ 4 40 Tryz.underlying106 HI.out HZ0.out HZ1.out HZ2.out rfl (by omega) (.slice G j cg) j _ rfl (HO7.out.alloc _) ⟨w7.heap.size, 0, none⟩ 1 1 (dl o) rfl rfl (deed_src w7 _ o) (dl_one o) (by omega) (by have := HM.out; have := HJ.out; unfold maxLen; omega) (by have := HM.out; have := HJ.out; omega) (by have := HE7.out.lt; simp; omega) _ rfl ?_; intro g8 c8 w8 hown8 hg8 hwh8 hl8))
          have HON := Lib.hid (OwnD.grew (o := o) HML.out hown8)
          have HEN := Lib.hid (grown_keeps HO7.out hg8 HE7.out (Nat.lt_succ_self _))
          have HBN := Lib.hid (grown_below HB7.out (Nat.le_refl _) (Nat.le_succ _) HO7.out hg8)
          clear hown8 hg8 hwh8 hl8
          try rw [HW1.out]
          exact ⟨⟨j + 1, _, c8, M ++ [o], R2, false, rfl, HJ.out, rfl, by rw [List.length_append, HML.out]; rfl, HON.out, HEN.out, (fun h => by cases h), (fun h => by cases h), HYE.out, HBN.out⟩, pt_less j n HJ.out⟩
    · have hje : j = n := by omega
      subst hje
      have x0 : ¬ (j : Int) < (j : Int) := by omega
      have x1 : decide ((j : Int) < (j : Int)) = false := decide_eq_false x0
      have hp := HP.out
      rw [Nat.sub_self, preD_end] at hp
      have HOD := Lib.hid HO.out
      cases bad with
      | true =>
        rw [if_neg (fun h => by cases h.1)] at hp
        have HPF := Lib.hid hp
        clear hp hbn
        go_wp2_with (fail)
        go_quiet (fail)
        have HBQ := Lib.hid (below_drewN HB.out nq)
        go_wp2_with (fail)
        refine bodyPost_ret (results_tmp2 rfl _ _ _) rfl ?_
        exact ra_none HBQ.out HPF.out
      | false =>
        by_cases hr : r.size = 0
        · rw [if_pos ⟨rfl, hr⟩] at hp
          have HPF := Lib.hid hp
          have r1 : ((r.size : Int) == 0) = true := beq_iff_eq.2 (by omega)
          have r2 : (r.size : Int) = 0 := by omega
          obtain rfl := empty_of_size hr
          clear hp hbn hr r1 r2
          go_wp2_with (fail)
          go_quiet (fail)
          have HBQ := Lib.hid (below_drewN HB.out nq)
          have HODQ := Lib.hid (HOD.out.below (below_drewN (Below.refl wr.heap.size wr) nq) (Nat.le_refl _))
          go_wp2_with (fail)
          refine bodyPost_ret (results_tmp2 rfl _ _ _) rfl ?_
          have hm := HML.out
          subst hm
          exact ra_some HBQ.out HPF.out (OwnD.din HODQ.out)
        · rw [if_neg (fun h => hr h.2)] at hp
          have HPF := Lib.hid hp
          have r1 : ((r.size : Int) == 0) = false := beq_eq_false_iff_ne.2 (by omega)
          have r2 : ¬ (r.size : Int) = 0 := by omega
          clear hp hbn
          go_wp2_with (fail)
          go_quiet (fail)
          have HBQ := Lib.hid (below_drewN HB.out nq)
          go_wp2_with (fail)
          refine bodyPost_ret (results_tmp2 rfl _ _ _) rfl ?_
          exact ra_none HBQ.out HPF.out
end Go.Proofs.YtlechjpaldpgnaaGreatDoor
