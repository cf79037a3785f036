/-
  Package vecs: Plus. Conditions: the list's rows are there, at most 4096 rows of at most 4096 numbers.
-/
import Derived.Test.YtclobdeaocjnoaaVc4
namespace Go.Proofs.Ytclobdeaocjnoaa
open Go.ChangeShapes Go.WideShapes Go.ChangeAt Go.RowKit Nm Vc

namespace Vc
/-- Rows of numbers behind a slice: where each is, how many it may hold. -/
def LIn (w : World) (A : Option Addr) (B : Nat → Option Addr) (C : Nat → Nat) (L : List (List Int)) : Prop :=
  0 < L.length → ∃ pb po, A = some ⟨pb, po, none⟩ ∧ ∀ i, i < L.length → w.cell? ⟨pb, po + i, none⟩ = some (.slice (B i) (L.getD i []).length (C i)) ∧ KIn .i64 w (B i) (L.getD i [])
theorem LIn.below {w w' : World} {A : Option Addr} {B : Nat → Option Addr} {C : Nat → Nat} {L : List (List Int)} {N : Nat} (h : LIn w A B C L) (hb : Below N w w') (hN : w.heap.size ≤ N) : LIn w' A B C L := fun h0 => by
  obtain ⟨pb, po, e, hc⟩ := h h0
  exact ⟨pb, po, e, fun i hi => ⟨(hb.cell (p := ⟨pb, po + i, none⟩) (Nat.lt_of_lt_of_le (block_lt_of_cell (hc i hi).1) hN)).trans (hc i hi).1, (hc i hi).2.below hb hN⟩⟩
theorem LIn.at {w : World} {A : Option Addr} {B : Nat → Option Addr} {C : Nat → Nat} {L : List (List Int)} (h : LIn w A B C L) {i : Nat} (hi : i < L.length) :
    ∃ pb po, A = some ⟨pb, po, none⟩ ∧ w.cell? ⟨pb, po + i, none⟩ = some (.slice (B i) (L.getD i []).length (C i)) ∧ KIn .i64 w (B i) (L.getD i []) := by
  obtain ⟨pb, po, e, hc⟩ := h (by omega)
  exact ⟨pb, po, e, hc i hi⟩
/-- Whether the first k rows have as many numbers as the first. -/
def evenTo (L : List (List Int)) (k : Nat) : Prop := ∀ i, i < k → (L.getD i []).length = (L.getD 0 []).length
end Vc
section
variable (w : World) (A : Option Addr) (c : Nat) (B : Nat → Option Addr) (C : Nat → Nat) (L : List (List Int)) (n : Nat)
set_option maxRecDepth 100000 in
set_option maxHeartbeats 800000 in
theorem vecs_plus_none : Calls Try.prog 17 #[.slice A 0 c] w fun e w' => e = .returned (.tuple #[.slice none 0 0, .int .i64 0]) ∧ w = w' := by
  go_enter Try.func17, Try.ntmps17
  go_wp2_with (fail)
  refine bodyPost_ret (results_tmp2 rfl _ _ _) rfl ?_
  exact ⟨rfl, rfl⟩
set_option maxRecDepth 100000 in
set_option maxHeartbeats 1600000 in
theorem vecs_plus_not (hn : L.length = n) (h0 : 0 < n) (hm : n ≤ 4096) (hA : LIn w A B C L) (h : ¬ evenTo L n) :
    Calls Try.prog 17 #[.slice A n c] w fun e w' => e = .returned (.tuple #[.slice none 0 0, .int .i64 1]) ∧ w = w' := by
  have HA := Lib.hid hA
  have HN := Lib.hid hn
  have HE := Lib.hid h
  obtain ⟨pa, oa, rfl, hc0, _⟩ := hA.at (show 0 < L.length by omega)
  rw [Nat.add_zero] at hc0
  have t0 : ((n : Int) == 0) = false := beq_eq_false_iff_ne.2 (by omega)
  have t1 : 0 < (n : Int) := by omega
  have HS := Lib.hid (rfl : (L.getD 0 []).length = (L.getD 0 []).length)
  generalize hs : (L.getD 0 []).length = s at hc0 HS
  have HSS := Lib.hid hs
  clear hA hn h hs
  go_enter Try.func17, Try.ntmps17
  go_wp2_with (fail)
  go_loopw [21] (fun i wr => ∃ j : Nat, i = .int .i64 (j : Int) ∧ j ≤ n ∧ wr = w ∧ evenTo L j) (fun i _ => match i with | .int _ k => n - k.toNat | _ => 0)
  case atStart => exact ⟨0, rfl, Nat.zero_le _, rfl, fun i hi => absurd hi (by omega)⟩
  case round =>
    obtain ⟨j, rfl, hj, rfl, he⟩ := hrel
    have HEJ := Lib.hid he
    clear he
    have x2 : 0 ≤ (j : Int) := by omega
    by_cases hlt : j < n
    · have x0 : (j : Int) < (n : Int) := by omega
      have x1 : decide ((j : Int) < (n : Int)) = true := decide_eq_true x0
      have HJ := Lib.hid (show j + 1 ≤ n by omega)
      obtain ⟨pb, po, e, hcell, _⟩ := HA.out.at (show j < L.length by rw [HN.out]; exact hlt)
      injection e with e
      injection e with e1 e2 _
      subst e1 e2
      by_cases hq : (L.getD j []).length = s
      · have t2 : (((L.getD j []).length : Int) == (s : Int)) = true := by rw [hq]; exact beq_self_eq_true _
        have HEN := Lib.hid (show evenTo L (j + 1) from fun i hi => by
          by_cases h : i = j
          · rw [h, hq, HSS.out]
          · exact HEJ.out i (by omega))
        clear hq
        generalize (L.getD j []).length = l at hcell t2
        have x3 := IntWalk.wrap64_in ((j : Int) + 1) (by omega)
        go_wp2_with (fail)
        exact ⟨⟨j + 1, rfl, HJ.out, by trivial, HEN.out⟩, vc_less j n hlt⟩
      · have t2 : (((L.getD j []).length : Int) == (s : Int)) = false := beq_eq_false_iff_ne.2 (by omega)
        clear hq
        generalize (L.getD j []).length = l at hcell t2
        go_wp2_with (fail)
        refine bodyPost_ret (results_tmp2 rfl _ _ _) rfl ?_
        exact ⟨rfl, rfl⟩
    · have hke : j = n := by omega
      rw [hke] at HEJ
      exact absurd HEJ.out HE.out
set_option maxRecDepth 100000 in
set_option maxHeartbeats 3200000 in
theorem vecs_plus (s : Nat) (hs : (L.getD 0 []).length = s) (hn : L.length = n) (h0 : 0 < n) (hm : n ≤ 4096) (hs2 : s ≤ 4096) (hA : LIn w A B C L) (h : evenTo L n) :
    Calls Try.prog 17 #[.slice A n c] w (RowSays w (fun v => .tuple #[v, .int .i64 0]) (plusL L s)) := by
  have HA := Lib.hid hA
  have HN := Lib.hid hn
  have HE := Lib.hid (show ∀ i, i < n → (L.getD i []).length = s from fun i hi => (h i hi).trans hs)
  obtain ⟨pa, oa, rfl, hc0, _⟩ := hA.at (show 0 < L.length by omega)
  rw [Nat.add_zero, hs] at hc0
  have t0 : ((n : Int) == 0) = false := beq_eq_false_iff_ne.2 (by omega)
  have t1 : 0 < (n : Int) := by omega
  have t2 : ((s : Int) == (s : Int)) = true := beq_self_eq_true _
  obtain ⟨i0, hi, hz0, hz1, hz2⟩ := info_parts info_int
  have HI := Lib.hid hi
  have HZ0 := Lib.hid hz0
  have HZ1 := Lib.hid hz1
  have HZ2 := Lib.hid hz2
  have HLR := Lib.hid (plusL_length L s)
  have HAT := Lib.hid (plusL_at L s)
  have HPL := Lib.hid (fun k => (placeL_length L k).trans hn)
  have HPA := Lib.hid (fun k i (h : i < n) => placeL_at L k i (by omega))
  clear hi hz0 hz1 hz2 hA hn h hs
  generalize plusL L s = R at HLR HAT ⊢
  generalize hpl : placeL L = P at HAT HPL HPA
  clear hpl
  go_enter Try.func17, Try.ntmps17
  go_wp2_with (fail)
  go_loopw [21] (fun i wr => ∃ j : Nat, i = .int .i64 (j : Int) ∧ j ≤ n ∧ w = wr) (fun i _ => match i with | .int _ k => n - k.toNat | _ => 0)
  case atStart => exact ⟨0, rfl, Nat.zero_le _, rfl⟩
  case round =>
    obtain ⟨j, rfl, hj, rfl⟩ := hrel
    have x2 : 0 ≤ (j : Int) := by omega
    by_cases hlt : j < n
    · have x0 : (j : Int) < (n : Int) := by omega
      have x1 : decide ((j : Int) < (n : Int)) = true := decide_eq_true x0
      have HJ := Lib.hid (show j + 1 ≤ n by omega)
      obtain ⟨pb, po, e, hcell, _⟩ := HA.out.at (show j < L.length by rw [HN.out]; exact hlt)
      injection e with e
      injection e with e1 e2 _
      subst e1 e2
      rw [HE.out j hlt] at hcell
      have x3 := IntWalk.wrap64_in ((j : Int) + 1) (by omega)
      go_wp2_with (fail)
      exact ⟨⟨j + 1, rfl, HJ.out, by trivial⟩, vc_less j n hlt⟩
    · have hke : j = n := by omega
      have x0 : ¬ (j : Int) < (n : Int) := by omega
      have x1 : decide ((j : Int) < (n : Int)) = false := decide_eq_false x0
      have HMK1 := Lib.hid (show s * 8 ≤ 281474976710655 ∧ n * 8 ≤ 281474976710655 by omega)
      clear hke
      go_wp2_with (first | (at_make; refine wpList_make_row _ rfl _ _ 30 rfl 3 i0 (.int .i64 0) Try.underlying30 HI.out HZ0.out HZ1.out rfl .i64 .i64 s rfl rfl (by rw [HZ2.out]; have := HMK1.out; omega) (by have := HMK1.out; omega) ?_) | (at_make; refine wpList_make_row _ rfl _ _ 30 rfl 3 i0 (.int .i64 0) Try.underlying30 HI.out HZ0.out HZ1.out rfl .i64 .i64 n rfl rfl (by rw [HZ2.out]; have := HMK1.out; omega) (by have := HMK1.out; omega) ?_))
      have hs1 : (w.alloc (.cells (madeCells #[.int .i64 0] s) 3)).heap.size = w.heap.size + 1 := by simp
      have HR0 := Lib.hid (show ((w.alloc (.cells (madeCells #[.int .i64 0] s) 3)).alloc (.cells (madeCells #[.int .i64 0] n) 3)).rowIs w.heap.size 3 s (prt .i64 R 0) from
        World.rowIs.of_block ((World.rowIs_made w (.int .i64 0) s 3).congr fun i _ => by rw [prt_none]) (heap_alloc_old _ _ (by omega)))
      have HQ0 := Lib.hid (show ((w.alloc (.cells (madeCells #[.int .i64 0] s) 3)).alloc (.cells (madeCells #[.int .i64 0] n) 3)).rowIs (w.heap.size + 1) 3 n (fun _ => .int .i64 0) from by
        have := World.rowIs_made (w.alloc (.cells (madeCells #[.int .i64 0] s) 3)) (.int .i64 0) n 3
        rw [hs1] at this
        exact this)
      have HB0 := Lib.hid (((Below.refl w.heap.size w).alloc (Nat.le_refl _) (.cells (madeCells #[.int .i64 0] s) 3)).alloc (by omega) (.cells (madeCells #[.int .i64 0] n) 3))
      clear hs1 hlt x0 x1 hj x2 t2
      generalize (w.alloc (.cells (madeCells #[.int .i64 0] s) 3)).alloc (.cells (madeCells #[.int .i64 0] n) 3) = wx at HR0 HQ0 HB0 ⊢
      go_loopw [37] (fun i wz => ∃ (k : Nat) (F : Nat → Value), i = .int .i64 (k : Int) ∧ k ≤ s ∧ wz.rowIs w.heap.size 3 s (prt .i64 R k) ∧ wz.rowIs (w.heap.size + 1) 3 n F ∧ Below w.heap.size w wz) (fun i _ => match i with | .int _ k => s - k.toNat | _ => 0)
      case atStart => exact ⟨0, _, rfl, Nat.zero_le _, HR0.out, HQ0.out, HB0.out⟩
      case round =>
        clear HR0 HQ0 HB0
        obtain ⟨k, F, rfl, hk, hr, hq, hb⟩ := hrel
        have HR := Lib.hid hr
        have HQ := Lib.hid hq
        have HB := Lib.hid hb
        clear hr hq hb
        have y2 : 0 ≤ (k : Int) := by omega
        by_cases hks : k < s
        · have y0 : (k : Int) < (s : Int) := by omega
          have y1 : decide ((k : Int) < (s : Int)) = true := decide_eq_true y0
          go_wp2_with (fail)
          go_loopw [42] (fun i wz => ∃ (q : Nat) (F : Nat → Value), i = .int .i64 (q : Int) ∧ q ≤ n ∧ wz.rowIs w.heap.size 3 s (prt .i64 R k) ∧ wz.rowIs (w.heap.size + 1) 3 n F ∧ (∀ i, i < q → F i = .int .i64 ((P k).getD i 0)) ∧ Below w.heap.size w wz) (fun i _ => match i with | .int _ k => n - k.toNat | _ => 0)
          case atStart => exact ⟨0, F, rfl, Nat.zero_le _, HR.out, HQ.out, fun i hi => absurd hi (by omega), HB.out⟩
          case round =>
            clear HR HQ HB
            obtain ⟨q, F, rfl, hq, hr, hqr, hf, hb⟩ := hrel
            have HR := Lib.hid hr
            have HQ := Lib.hid hqr
            have HB := Lib.hid hb
            have HF := Lib.hid hf
            clear hr hqr hb hf
            have z2 : 0 ≤ (q : Int) := by omega
            by_cases hqn : q < n
            · have z0 : (q : Int) < (n : Int) := by omega
              have z1 : decide ((q : Int) < (n : Int)) = true := decide_eq_true z0
              have HJ := Lib.hid (show q + 1 ≤ n by omega)
              obtain ⟨pb, po, e, hcell, hkin⟩ := (HA.out.below HB.out (Nat.le_refl _)).at (show q < L.length by rw [HN.out]; exact hqn)
              injection e with e
              injection e with e1 e2 _
              subst e1 e2
              obtain ⟨vb, vo, eb, hcell2⟩ := hkin.at (show k < (L.getD q []).length by rw [HE.out q hqn]; exact hks)
              rw [HE.out q hqn, eb] at hcell
              have HPQ := Lib.hid (HPA.out k q hqn)
              rw [← HPA.out k q hqn] at hcell2
              clear hkin eb
              have f1 := HQ.out.frozen q
              have c1 := HQ.out.cell hqn
              have HFN := Lib.hid (show ∀ i, i < q + 1 → (if i = q then Value.int .i64 ((P k).getD q 0) else F i) = .int .i64 ((P k).getD i 0) from fun i hi => by
                by_cases h : i = q
                · rw [if_pos h, h]
                · rw [if_neg h]; exact HF.out i (by omega))
              have HQS := Lib.hid (HQ.out.set q (.int .i64 ((P k).getD q 0)))
              have HRS := Lib.hid (HR.out.setOther (a := ⟨w.heap.size + 1, q, none⟩) (by show w.heap.size ≠ w.heap.size + 1; omega) (.int .i64 ((P k).getD q 0)))
              have HBS := Lib.hid (HB.out.setCell (p := ⟨w.heap.size + 1, q, none⟩) (Nat.le_succ _) (.int .i64 ((P k).getD q 0)))
              have z3 := IntWalk.wrap64_in ((q : Int) + 1) (by omega)
              generalize (P k).getD q 0 = z at hcell2 HFN HQS HRS HBS
              go_wp2_with (fail)
              exact ⟨⟨q + 1, _, rfl, HJ.out, HRS.out, HQS.out, HFN.out, HBS.out⟩, vc_less q n hqn⟩
            · have hqe : q = n := by omega
              have z0 : ¬ (q : Int) < (n : Int) := by omega
              have z1 : decide ((q : Int) < (n : Int)) = false := decide_eq_false z0
              have HH := Lib.hid (show Holds wr (w.heap.size + 1) 0 (P k) from fun i hi => by
                rw [HPL.out k] at hi
                rw [Nat.zero_add, HQ.out.cell hi, HF.out i (by omega)])
              have HM := Lib.hid (show n ≤ maxLen by unfold maxLen; omega)
              have HJ := Lib.hid (show k + 1 ≤ s by omega)
              have HXK := Lib.hid (HAT.out k hks)
              clear hqe
              go_wp2_with (fail)
              refine (sum_any (w.heap.size + 1) 0 n n (P k) wr (HPL.out k) HM.out HH.out).mono ?_
              rintro e w4 ⟨rfl, rfl⟩
              go_wp2_with (fail)
              refine (sat_any _ _).mono ?_
              rintro e w6 ⟨rfl, rfl⟩
              rw [← HXK.out]
              have f1 := HR.out.frozen k
              have c1 := HR.out.cell hks
              have HP := Lib.hid (prt_set HR.out (rfl : R.getD k 0 = R.getD k 0))
              have HQS := Lib.hid (HQ.out.setOther (a := ⟨w.heap.size, k, none⟩) (by show w.heap.size + 1 ≠ w.heap.size; omega) (.int .i64 (R.getD k 0)))
              have HBS := Lib.hid (HB.out.setCell (p := ⟨w.heap.size, k, none⟩) (Nat.le_refl _) (.int .i64 (R.getD k 0)))
              have z3 := IntWalk.wrap64_in ((k : Int) + 1) (by omega)
              generalize R.getD k 0 = z at HP HQS HBS ⊢
              go_wp2_with (fail)
              exact ⟨⟨k + 1, _, rfl, HJ.out, HP.out, HQS.out, HBS.out⟩, vc_less k s hks⟩
        · have hke : k = s := by omega
          have y0 : ¬ (k : Int) < (s : Int) := by omega
          have y1 : decide ((k : Int) < (s : Int)) = false := decide_eq_false y0
          go_wp2_with (fail)
          refine bodyPost_ret (results_tmp2 rfl _ _ _) rfl ?_
          refine ⟨some ⟨w.heap.size, 0, none⟩, s, ?_, KIn.row (HR.out.congr fun i hi => by rw [hke]; exact prt_all _ _ _ _ hi) (Nat.le_of_eq HLR.out), HB.out⟩
          rw [HLR.out]
          rfl
end
end Go.Proofs.Ytclobdeaocjnoaa
