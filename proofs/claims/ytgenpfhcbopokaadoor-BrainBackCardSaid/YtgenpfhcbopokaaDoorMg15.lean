/-
  Package conf: Range. No conditions.
-/
import Derived.Test.YtgenpfhcbopokaaDoorMg14
import Derived.OwnWalk
set_option maxRecDepth 100000
namespace Go.Proofs.YtgenpfhcbopokaaDoor
open Go.ChangeShapes Go.WideShapes Go.ChangeAt Go.RowKit Cf

/-- What Range answers. -/
def rangeV (x : Cfg) (p k : Int) : Value := if isZ x p k = true then .tuple #[.int .i64 (fromZ x p k), .int .i64 (areaZ x p), .bool true] else .tuple #[.int .i64 0, .int .i64 0, .bool false]
theorem is_iff {x : Cfg} {p k : Int} : isZ x p k = true ↔ Cf.Good x ∧ 0 ≤ p ∧ p ≤ 11 ∧ 0 ≤ k ∧ k < timesZ x p := by
  unfold isZ
  simp only [Bool.and_eq_true, decide_eq_true_iff, good_iff]
theorem range_no {x : Cfg} {p k : Int} (h : ¬ (Cf.Good x ∧ 0 ≤ p ∧ p ≤ 11 ∧ 0 ≤ k ∧ k < timesZ x p)) : rangeV x p k = .tuple #[.int .i64 0, .int .i64 0, .bool false] := if_neg fun hi => h (is_iff.1 hi)
theorem range_yes {x : Cfg} {p k : Int} (h : Cf.Good x ∧ 0 ≤ p ∧ p ≤ 11 ∧ 0 ≤ k ∧ k < timesZ x p) : rangeV x p k = .tuple #[.int .i64 (fromZ x p k), .int .i64 (areaZ x p), .bool true] := if_pos (is_iff.2 h)
theorem from_in {x : Cfg} (h : In x) {q : Int} (h0 : 0 ≤ q) (h1 : q < 3) {p : Nat} (hp : p ≤ 11) : IntKind.i64.wrap (q * spanZ x 2 9) = q * spanZ x 2 9 ∧ IntKind.i64.wrap (q * spanZ x 2 9 + spanZ x 0 p) = q * spanZ x 2 9 + spanZ x 0 p ∧ IntKind.i64.wrap (rowsZ x (p : Int) * colsZ x (p : Int)) = areaZ x (p : Int) := by
  have a1 := span_in h 2 9 (by omega)
  have a2 := span_in h 0 p (by omega)
  have a3 : 0 ≤ q * spanZ x 2 9 := Int.mul_nonneg h0 (by omega)
  have a4 := Int.mul_le_mul (show q ≤ 2 by omega) (show spanZ x 2 9 ≤ 9216 by omega) (by omega) (by omega : (0 : Int) ≤ 2)
  have a5 := area_in h (p := (p : Int)) (by omega) (by omega)
  unfold areaZ at a5 ⊢
  exact ⟨IntWalk.i64_in _ (by omega), IntWalk.i64_in _ (by omega), IntWalk.i64_in _ (by omega)⟩
set_option maxRecDepth 100000 in
set_option maxHeartbeats 3200000 in
theorem conf_range_none (w : World) (x : Cfg) (p k : Int) (h : goodZ x = true → p < 0 ∨ 11 < p) : Calls Tryd.prog 21 #[cfV x, .int .i64 p, .int .i64 k] w fun e w' => e = .returned (.tuple #[.int .i64 0, .int .i64 0, .bool false]) ∧ Below w.heap.size w w' := by
  have HS := Lib.hid (show Calls Tryd.prog 22 #[cfV x, .int .i64 p] (w.alloc (cfO 36 x)) fun e w' => e = .returned (.tuple #[.int .i64 0, .int .i64 0]) ∧ Below (w.alloc (cfO 36 x)).heap.size (w.alloc (cfO 36 x)) w' from by
    have hs := conf_Side (w.alloc (cfO 36 x)) x p
    cases hg : goodZ x with
    | false => rw [hg] at hs; exact hs
    | true => rw [hg, if_pos rfl, if_pos rfl, rows_out x (h hg), cols_out x (h hg)] at hs; exact hs)
  have HB0 := Lib.hid ((Below.refl w.heap.size w).alloc (Nat.le_refl _) (cfO 36 x))
  have HH0 := Lib.hid (heap_alloc_new w (cfO 36 x))
  have k0 := six HH0.out
  unfold cfO at HB0 HH0 k0 HS
  unfold cfV cfA at *
  clear h
  go_enter Tryd.func21, Tryd.ntmps21
  go_wp2_with (fail)
  refine HS.out.mono ?_
  rintro e w1 ⟨rfl, b1⟩
  have HB1 := Lib.hid (HB0.out.trans (b1.mono HB0.out.size))
  clear b1 k0
  go_wp2_with (fail)
  exact bodyPost_ret (results_tmp3 rfl _ _ _) rfl ⟨rfl, HB1.out⟩
set_option maxRecDepth 100000 in
set_option maxHeartbeats 3200000 in
theorem conf_range_some (w : World) (x : Cfg) (p : Nat) (k : Int) (hx : Cf.Good x) (hp : p ≤ 11) : Calls Tryd.prog 21 #[cfV x, .int .i64 (p : Int), .int .i64 k] w fun e w' => e = .returned (rangeV x (p : Int) k) ∧ Below w.heap.size w w' := by
  have HS := Lib.hid (fun W => show Calls Tryd.prog 22 #[cfV x, .int .i64 (p : Int)] W fun e w' => e = .returned (.tuple #[.int .i64 (rowsZ x (p : Int)), .int .i64 (colsZ x (p : Int))]) ∧ Below W.heap.size W w' from by
    have hs := conf_Side W x (p : Int)
    rw [good_iff.2 hx, if_pos rfl, if_pos rfl] at hs
    exact hs)
  have HT := Lib.hid (fun W => conf_times W x (p : Int))
  have HP1 := Lib.hid (fun W => show Calls Tryd.prog 36 #[cfV x, .int .i64 2, .int .i64 11] W fun e w' => e = .returned (.int .i64 (spanZ x 2 9)) ∧ Below W.heap.size W w' from conf_span W x hx.is 2 9 11 rfl (by omega))
  have HP2 := Lib.hid (fun W => show Calls Tryd.prog 36 #[cfV x, .int .i64 0, .int .i64 (p : Int)] W fun e w' => e = .returned (.int .i64 (spanZ x 0 p)) ∧ Below W.heap.size W w' from conf_span W x hx.is 0 p p (by omega) (by omega))
  have HB0 := Lib.hid ((Below.refl w.heap.size w).alloc (Nat.le_refl _) (cfO 36 x))
  have HH0 := Lib.hid (heap_alloc_new w (cfO 36 x))
  have k0 := six HH0.out
  have hr := rows_in hx.is (p := (p : Int)) (by omega) (by omega)
  have r0 : (rowsZ x (p : Int) == 0) = false := beq_eq_false_iff_ne.2 (by omega)
  have HF := Lib.hid (fun q (h0 : 0 ≤ q) (h1 : q < 3) => from_in hx.is h0 h1 hp)
  have HB3 := Lib.hid (And.intro hx.is.b1 hx.is.b3)
  have HV1 := Lib.hid (fun h => range_no (x := x) (p := (p : Int)) (k := k) h)
  have HV2 := Lib.hid (fun a b => range_yes (x := x) (p := (p : Int)) (k := k) ⟨hx, by omega, by omega, a, b⟩)
  have HV3 := Lib.hid (show fromZ x (p : Int) k = (if (p : Int) = 11 then x.b - 1 else k) * spanZ x 2 9 + spanZ x 0 p from rfl)
  have HV4 := Lib.hid (show timesZ x (p : Int) = if 2 ≤ (p : Int) ∧ (p : Int) < 11 then x.b else 1 from rfl)
  clear hr hx
  generalize rangeV x (p : Int) k = V at HV1 HV2 ⊢
  generalize fromZ x (p : Int) k = F at HV2 HV3
  generalize areaZ x (p : Int) = a at HV2 HF
  generalize timesZ x (p : Int) = T at HT HV1 HV2 HV4
  generalize spanZ x 2 9 = S at HP1 HF HV3
  generalize spanZ x 0 p = s0 at HP2 HF HV3
  generalize rowsZ x (p : Int) = R at HS HF r0
  generalize colsZ x (p : Int) = C at HS HF
  obtain ⟨y, hy⟩ : ∃ y : Int, y = (p : Int) := ⟨_, rfl⟩
  have HY := Lib.hid (show 0 ≤ y ∧ y ≤ 11 by omega)
  rw [← hy] at HS HT HP2 HV1 HV3 HV4 ⊢
  clear hy hp
  unfold cfO at HB0 HH0 k0
  unfold cfV cfA at *
  by_cases hk0 : k < 0
  · have t0 : decide (k < 0) = true := decide_eq_true hk0
    have HV := Lib.hid (HV1.out fun h => by have := HY.out; omega)
    go_enter Tryd.func21, Tryd.ntmps21
    go_wp2_with (fail)
    refine (HS.out _).mono ?_
    rintro e w1 ⟨rfl, b1⟩
    have HB1 := Lib.hid (HB0.out.trans (b1.mono HB0.out.size))
    clear b1 k0
    go_wp2_with (fail)
    exact bodyPost_ret (results_tmp3 rfl _ _ _) rfl ⟨by rw [HV.out]; rfl, HB1.out⟩
  have t0 : decide (k < 0) = false := decide_eq_false hk0
  by_cases hkT : T ≤ k
  · have t1 : decide (T ≤ k) = true := decide_eq_true hkT
    have HV := Lib.hid (HV1.out fun h => by have := HY.out; omega)
    go_enter Tryd.func21, Tryd.ntmps21
    go_wp2_with (fail)
    refine (HS.out _).mono ?_
    rintro e w1 ⟨rfl, b1⟩
    have HH1 := Lib.hid (stays (x := x) (t := 36) HH0.out b1)
    have HB1 := Lib.hid (HB0.out.trans (b1.mono HB0.out.size))
    obtain ⟨e0, e1, e2, e3, e4, e5⟩ := six (x := x) (t := 36) HH1.out
    clear b1 k0
    go_wp2_with (fail)
    refine (HT.out _).mono ?_
    rintro e w2 ⟨rfl, b2⟩
    have HB2 := Lib.hid (HB1.out.trans (b2.mono HB1.out.size))
    clear b2
    go_wp2_with (fail)
    exact bodyPost_ret (results_tmp3 rfl _ _ _) rfl ⟨by rw [HV.out]; rfl, HB2.out⟩
  have t1 : decide (T ≤ k) = false := decide_eq_false hkT
  have HV := Lib.hid (HV2.out (by omega) (by omega))
  have HK := Lib.hid (show 0 ≤ k ∧ k < 3 by
    have h4 := HV4.out
    have h3 := HB3.out
    split at h4 <;> omega)
  by_cases h11 : y = 11
  · have t2 : (y == 11) = true := beq_iff_eq.2 h11
    have HQ := Lib.hid (HF.out (x.b - 1) (by have := HB3.out; omega) (by have := HB3.out; omega))
    have HFQ := Lib.hid (show F = (x.b - 1) * S + s0 by rw [HV3.out, if_pos h11])
    have hw := IntWalk.i64_in (x.b - 1) (by have := HB3.out; omega)
    have hw2 := IntWalk.wrap64_in (x.b - 1) (by have := HB3.out; omega)
    clear HF HV1 HV2 HV3 HV4 hkT hk0 h11
    go_enter Tryd.func21, Tryd.ntmps21
    go_wp2_with (fail)
    refine (HS.out _).mono ?_
    rintro e w1 ⟨rfl, b1⟩
    have HH1 := Lib.hid (stays (x := x) (t := 36) HH0.out b1)
    have HB1 := Lib.hid (HB0.out.trans (b1.mono HB0.out.size))
    obtain ⟨e0, e1, e2, e3, e4, e5⟩ := six (x := x) (t := 36) HH1.out
    clear b1 k0
    go_wp2_with (fail)
    refine (HT.out _).mono ?_
    rintro e w2 ⟨rfl, b2⟩
    have HH2 := Lib.hid (stays (x := x) (t := 36) HH1.out b2)
    have HB2 := Lib.hid (HB1.out.trans (b2.mono HB1.out.size))
    clear b2 e0 e1 e2 e3 e4 e5 HB1 HH1 HB0 HH0
    have e3 := (six (x := x) (t := 36) HH2.out).2.2.2.1
    go_wp2_with (fail)
    obtain ⟨q1, q2, q3⟩ := HQ.out
    generalize hm : (x.b - 1) * S = m at q1 q2 HFQ
    have HD := Lib.hid (show w2.drew.heap[w.heap.size]? = some (cfO 36 x) from HH2.out)
    have HBD := Lib.hid (show Below w.heap.size w w2.drew from below_drewN HB2.out 1)
    have k2 := six HD.out
    go_region_held3 (fun W : World => W.cell? ⟨w.heap.size, 0, none⟩ = some (.int .i64 x.v) ∧ W.cell? ⟨w.heap.size, 1, none⟩ = some (.int .i64 x.d) ∧ W.cell? ⟨w.heap.size, 2, none⟩ = some (.int .i64 x.h) ∧ W.cell? ⟨w.heap.size, 3, none⟩ = some (.int .i64 x.b) ∧ W.cell? ⟨w.heap.size, 4, none⟩ = some (.int .i64 x.n) ∧ W.cell? ⟨w.heap.size, 5, none⟩ = some (.int .i64 x.c)) (first | exact k2 | assumption) (first
      | (go_at_call 36; (with_reducible refine (HP1.out _).mono ?_); rintro e w3 ⟨rfl, b3⟩; have HH3 := Lib.hid (stays HD.out b3); have HB3 := Lib.hid (HBD.out.trans (b3.mono HBD.out.size)); have k3 := six HH3.out; clear b3)
      | (go_at_call 36; (with_reducible refine (HP2.out _).mono ?_); rintro e w4 ⟨rfl, b4⟩; have HH4 := Lib.hid (stays HH3.out b4); have HB4 := Lib.hid (HB3.out.trans (b4.mono HB3.out.size)); have k4 := six HH4.out; clear b4))
    go_wp2_with (fail)
    refine bodyPost_ret (results_tmp3 rfl _ _ _) rfl ⟨?_, HB4.out⟩
    rw [HV.out, HFQ.out]
    rfl
  · have t2 : (y == 11) = false := beq_eq_false_iff_ne.2 h11
    have HQ := Lib.hid (HF.out k HK.out.1 HK.out.2)
    have HFQ := Lib.hid (show F = k * S + s0 by rw [HV3.out, if_neg h11])
    clear HF HV1 HV2 HV3 HV4 hkT hk0 h11
    go_enter Tryd.func21, Tryd.ntmps21
    go_wp2_with (fail)
    refine (HS.out _).mono ?_
    rintro e w1 ⟨rfl, b1⟩
    have HH1 := Lib.hid (stays (x := x) (t := 36) HH0.out b1)
    have HB1 := Lib.hid (HB0.out.trans (b1.mono HB0.out.size))
    obtain ⟨e0, e1, e2, e3, e4, e5⟩ := six (x := x) (t := 36) HH1.out
    clear b1 k0
    go_wp2_with (fail)
    refine (HT.out _).mono ?_
    rintro e w2 ⟨rfl, b2⟩
    have HH2 := Lib.hid (stays (x := x) (t := 36) HH1.out b2)
    have HB2 := Lib.hid (HB1.out.trans (b2.mono HB1.out.size))
    clear b2 e0 e1 e2 e3 e4 e5 HB1 HH1 HB0 HH0
    have e3 := (six (x := x) (t := 36) HH2.out).2.2.2.1
    go_wp2_with (fail)
    obtain ⟨q1, q2, q3⟩ := HQ.out
    generalize hm : k * S = m at q1 q2 HFQ
    have HD := Lib.hid (show w2.drew.heap[w.heap.size]? = some (cfO 36 x) from HH2.out)
    have HBD := Lib.hid (show Below w.heap.size w w2.drew from below_drewN HB2.out 1)
    have k2 := six HD.out
    go_region_held3 (fun W : World => W.cell? ⟨w.heap.size, 0, none⟩ = some (.int .i64 x.v) ∧ W.cell? ⟨w.heap.size, 1, none⟩ = some (.int .i64 x.d) ∧ W.cell? ⟨w.heap.size, 2, none⟩ = some (.int .i64 x.h) ∧ W.cell? ⟨w.heap.size, 3, none⟩ = some (.int .i64 x.b) ∧ W.cell? ⟨w.heap.size, 4, none⟩ = some (.int .i64 x.n) ∧ W.cell? ⟨w.heap.size, 5, none⟩ = some (.int .i64 x.c)) (first | exact k2 | assumption) (first
      | (go_at_call 36; (with_reducible refine (HP1.out _).mono ?_); rintro e w3 ⟨rfl, b3⟩; have HH3 := Lib.hid (stays HD.out b3); have HB3 := Lib.hid (HBD.out.trans (b3.mono HBD.out.size)); have k3 := six HH3.out; clear b3)
      | (go_at_call 36; (with_reducible refine (HP2.out _).mono ?_); rintro e w4 ⟨rfl, b4⟩; have HH4 := Lib.hid (stays HH3.out b4); have HB4 := Lib.hid (HB3.out.trans (b4.mono HB3.out.size)); have k4 := six HH4.out; clear b4))
    go_wp2_with (fail)
    refine bodyPost_ret (results_tmp3 rfl _ _ _) rfl ⟨?_, HB4.out⟩
    rw [HV.out, HFQ.out]
    rfl
theorem conf_range (w : World) (x : Cfg) (p k : Int) : Calls Tryd.prog 21 #[cfV x, .int .i64 p, .int .i64 k] w fun e w' => e = .returned (rangeV x p k) ∧ Below w.heap.size w w' := by
  by_cases h : Cf.Good x ∧ 0 ≤ p ∧ p ≤ 11
  · obtain ⟨h1, h2, h3⟩ := h
    have hp : ((p.toNat : Nat) : Int) = p := by omega
    have := conf_range_some w x p.toNat k h1 (by omega)
    rwa [hp] at this
  · rw [range_no fun hh => h ⟨hh.1, hh.2.1, hh.2.2.1⟩]
    exact conf_range_none w x p k fun hg => by
      have hg := good_iff.1 hg
      by_cases h0 : p < 0
      · exact .inl h0
      · exact .inr (Int.not_le.1 fun h1 => h ⟨hg, by omega, h1⟩)
end Go.Proofs.YtgenpfhcbopokaaDoor
