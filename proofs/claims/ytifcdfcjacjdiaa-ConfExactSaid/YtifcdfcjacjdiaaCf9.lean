/-
  The reference of layer 15: Range. No conditions.
-/
import Derived.Test.YtifcdfcjacjdiaaCf8
import Derived.Test.YtifcdfcjacjdiaaCf5
namespace Go.Proofs.Ytifcdfcjacjdiaa
open Go.ChangeShapes Go.WideShapes Go.ChangeAt Go.RowKit Cf

set_option maxRecDepth 100000 in
set_option maxHeartbeats 3200000 in
theorem ref15_range_not (w : World) (x : Cfg) (p k : Int) (h : goodZ x = false) : Calls Try.prog 14 #[cfV x, .int .i64 p, .int .i64 k] w fun e w' => e = .returned (rangeV x p k) ∧ Below w.heap.size w w' := by
  have HG := Lib.hid (fun W => h ▸ ref15_good W x)
  have HB0 := Lib.hid ((Below.refl w.heap.size w).alloc (Nat.le_refl _) (cfO 23 x))
  have HV := Lib.hid (range_no (x := x) (p := p) (k := k) fun hh => by rw [good_iff.2 hh.1] at h; cases h)
  clear h
  generalize rangeV x p k = V at HV ⊢
  unfold cfO at HB0
  unfold cfV cfA at *
  go_enter Try.func14, Try.ntmps14
  go_wp2_with (fail)
  refine (HG.out _).mono ?_
  rintro e w1 ⟨rfl, b1⟩
  have HB1 := Lib.hid (HB0.out.trans (b1.mono HB0.out.size))
  clear b1
  go_wp2_with (fail)
  exact bodyPost_ret (results_tmp3 rfl _ _ _) rfl ⟨by rw [HV.out]; rfl, HB1.out⟩
set_option maxRecDepth 100000 in
set_option maxHeartbeats 3200000 in
theorem ref15_range_good (w : World) (x : Cfg) (p k : Int) (h : Cf.Good x) : Calls Try.prog 14 #[cfV x, .int .i64 p, .int .i64 k] w fun e w' => e = .returned (rangeV x p k) ∧ Below w.heap.size w w' := by
  have HG := Lib.hid (fun W => (good_iff.2 h) ▸ ref15_good W x)
  have HR := Lib.hid (show ∀ W, Calls Try.prog 24 #[cfV x] W fun e w' => Below W.heap.size W w' ∧ ∃ g c, e = .returned (.slice (some ⟨g, 0, none⟩) (allRows x).length c) ∧ RowsIn w' g (allRows x) from fun W => by
    have := ref15_rows W x h.is
    rw [outer_all h.is.b1] at this
    exact this)
  have HYES := Lib.hid (show ∀ (i : Nat) (r : Rw), (allRows x)[i]? = some r → (r.p == p) = true → (r.k == k) = true → rangeV x p k = .tuple #[.int .i64 r.a, .int .i64 r.m, .bool true] from fun i r hr h1 h2 => by
    obtain ⟨a, b, c, d, e, f⟩ := row_tells h.is (List.mem_of_getElem? hr)
    rw [beq_iff_eq.1 h1, beq_iff_eq.1 h2] at *
    rw [range_yes ⟨h, a, b, c, d⟩, e, f])
  have HNO := Lib.hid (show (∀ (i : Nat) (r : Rw), (allRows x)[i]? = some r → r.p = p → r.k = k → False) → rangeV x p k = .tuple #[.int .i64 0, .int .i64 0, .bool false] from fun hn => range_no fun ⟨_, a, b, c, d⟩ => by
    obtain ⟨r, hr, h1, h2⟩ := row_there h.is a b c d
    obtain ⟨i, hi⟩ := List.getElem?_of_mem hr
    exact hn i r hi h1 h2)
  have HL30 := Lib.hid (all_len h.is)
  have HB0 := Lib.hid ((Below.refl w.heap.size w).alloc (Nat.le_refl _) (cfO 23 x))
  have HH0 := Lib.hid (heap_alloc_new w (cfO 23 x))
  have k0 := six HH0.out
  clear h
  generalize rangeV x p k = V at HYES HNO ⊢
  generalize allRows x = L at *
  unfold cfO at HB0 HH0 k0
  unfold cfV cfA at *
  go_enter Try.func14, Try.ntmps14
  go_wp2_with (fail)
  refine (HG.out _).mono ?_
  rintro e w1 ⟨rfl, b1⟩
  have HH1 := Lib.hid (stays (x := x) (t := 23) HH0.out b1)
  have HB1 := Lib.hid (HB0.out.trans (b1.mono HB0.out.size))
  obtain ⟨e0, e1, e2, e3, e4, e5⟩ := six (x := x) (t := 23) HH1.out
  clear b1 k0 HB0 HH0
  go_wp2_with (fail)
  refine (HR.out _).mono ?_
  rintro e w2 ⟨b2, g, c, rfl, hin⟩
  have HB2 := Lib.hid (HB1.out.trans (b2.mono HB1.out.size))
  have HRI := Lib.hid hin
  clear b2 hin HB1 HH1 e0 e1 e2 e3 e4 e5 HG HR
  obtain ⟨n, hn⟩ : ∃ n, n = L.length := ⟨_, rfl⟩
  have HLN := Lib.hid hn.symm
  rw [← hn]
  clear hn
  go_wp2_with (fail)
  go_loopw [10] (fun i wr => ∃ j : Nat, i = .int .i64 (j : Int) ∧ j ≤ n ∧ wr = w2 ∧ ∀ (i : Nat) (r : Rw), i < j → L[i]? = some r → r.p = p → r.k = k → False) (fun i _ => match i with | .int _ q => n - q.toNat | _ => 0)
  case atStart => exact ⟨0, rfl, Nat.zero_le _, rfl, fun i r hi => absurd hi (Nat.not_lt_zero i)⟩
  case round =>
    obtain ⟨j, rfl, hj, rfl, hno⟩ := hrel
    have HNJ := Lib.hid hno
    clear hno
    have x2 : 0 ≤ (j : Int) := by omega
    by_cases hlt : j < n
    · have x0 : (j : Int) < (n : Int) := by omega
      have x1 : decide ((j : Int) < (n : Int)) = true := decide_eq_true x0
      have x3 := IntWalk.wrap64_in ((j : Int) + 1) (by have := HL30.out; have := HLN.out; omega)
      obtain ⟨r, hr⟩ : ∃ r, L[j]? = some r := ⟨_, List.getElem?_eq_getElem (by rw [HLN.out]; exact hlt)⟩
      have HRJ := Lib.hid hr
      have HJ1 := Lib.hid (show j + 1 ≤ n from hlt)
      obtain ⟨c0, c1, c2, c3⟩ := row_cells HRI.out hr
      have HYJ := Lib.hid (HYES.out j r hr)
      clear hr hj
      cases h1 : (r.p == p) with
      | false =>
        have HNX := Lib.hid (show ∀ (i : Nat) (r : Rw), i < j + 1 → L[i]? = some r → r.p = p → r.k = k → False from fun i q hi hq a b => by
          by_cases hij : i < j
          · exact HNJ.out i q hij hq a b
          · obtain rfl : i = j := by omega
            have := HRJ.out.symm.trans hq
            injection this with this
            subst this
            exact beq_eq_false_iff_ne.1 h1 a)
        go_wp2_with (fail)
        exact ⟨⟨j + 1, by rw [x3]; rfl, HJ1.out, trivial, HNX.out⟩, by rw [x3]; exact less j n HJ1.out⟩
      | true =>
        cases h2 : (r.k == k) with
        | false =>
          have HNX := Lib.hid (show ∀ (i : Nat) (r : Rw), i < j + 1 → L[i]? = some r → r.p = p → r.k = k → False from fun i q hi hq a b => by
            by_cases hij : i < j
            · exact HNJ.out i q hij hq a b
            · obtain rfl : i = j := by omega
              have := HRJ.out.symm.trans hq
              injection this with this
              subst this
              exact beq_eq_false_iff_ne.1 h2 b)
          go_wp2_with (fail)
          exact ⟨⟨j + 1, by rw [x3]; rfl, HJ1.out, trivial, HNX.out⟩, by rw [x3]; exact less j n HJ1.out⟩
        | true =>
          have HV := Lib.hid (HYJ.out h1 h2)
          go_wp2_with (fail)
          go_quiet (fail)
          have HB3 := Lib.hid (below_drewN HB2.out nq)
          go_wp2_with (fail)
          exact bodyPost_ret (results_tmp3 rfl _ _ _) rfl ⟨by rw [HV.out]; rfl, HB3.out⟩
    · have x0 : ¬ (j : Int) < (n : Int) := by omega
      have x1 : decide ((j : Int) < (n : Int)) = false := decide_eq_false x0
      have HV := Lib.hid (HNO.out fun i r hr a b => HNJ.out i r (by have := (List.getElem?_eq_some_iff.1 hr).1; have := HLN.out; omega) hr a b)
      clear hlt hj
      go_wp2_with (fail)
      exact bodyPost_ret (results_tmp3 rfl _ _ _) rfl ⟨by rw [HV.out]; rfl, HB2.out⟩
theorem ref15_range (w : World) (x : Cfg) (p k : Int) : Calls Try.prog 14 #[cfV x, .int .i64 p, .int .i64 k] w fun e w' => e = .returned (rangeV x p k) ∧ Below w.heap.size w w' := by
  cases h : goodZ x with
  | false => exact ref15_range_not w x p k h
  | true => exact ref15_range_good w x p k (good_iff.1 h)
end Go.Proofs.Ytifcdfcjacjdiaa
