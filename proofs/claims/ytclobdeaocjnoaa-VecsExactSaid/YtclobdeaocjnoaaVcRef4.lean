/-
  The reference of layer 11: Plus. Conditions: the list's rows are there, at most 4096 rows of at most 4096 numbers.
-/
import Derived.Test.YtclobdeaocjnoaaVcRef3
namespace Go.Proofs.Ytclobdeaocjnoaa
open Go.ChangeShapes Go.WideShapes Go.ChangeAt Go.RowKit Nm Vc

section
variable (w : World) (A : Option Addr) (c : Nat) (B : Nat → Option Addr) (C : Nat → Nat) (L : List (List Int)) (n : Nat)
set_option maxRecDepth 100000 in
set_option maxHeartbeats 800000 in
theorem ref11_plus_none : Calls Try.prog 18 #[.slice A 0 c] w (RowSays w (fun v => .tuple #[v, .bool true]) []) := by
  obtain ⟨i0, hi, hz0, hz1, hz2⟩ := info_parts info_int
  have HI := Lib.hid hi
  have HB0 := Lib.hid ((Below.refl w.heap.size w).alloc (Nat.le_refl _) (.cells #[] 3))
  clear hi hz0 hz1 hz2
  go_enter Try.func18, Try.ntmps18
  go_wp2_with (refine wpList_buildNone rfl 30 3 rfl i0 Try.underlying30 HI.out ?_)
  go_loopw [5] (fun i wr => i = .int .i64 0 ∧ Below w.heap.size w wr) (fun _ _ => 0)
  case atStart => exact ⟨rfl, HB0.out⟩
  case round =>
    clear HB0
    obtain ⟨rfl, hb⟩ := hrel
    have HB := Lib.hid hb
    clear hb
    go_wp2_with (fail)
    go_loopw [4, 6] (fun l i wr => l = .slice (some ⟨w.heap.size, 0, none⟩) 0 0 ∧ i = .int .i64 0 ∧ Below w.heap.size w wr) (fun _ _ _ => 0)
    case atStart => exact ⟨rfl, rfl, HB.out⟩
    case round =>
      clear HB
      obtain ⟨rfl, rfl, hb⟩ := hrel
      have HB := Lib.hid hb
      clear hb
      go_wp2_with (fail)
      refine bodyPost_ret (results_tmp2 rfl _ _ _) rfl ?_
      exact ⟨_, _, rfl, KIn.nil _ _ _, HB.out⟩
set_option maxRecDepth 100000 in
set_option maxHeartbeats 1600000 in
theorem ref11_plus_not (hn : L.length = n) (h0 : 0 < n) (hm : n ≤ 4096) (hA : LIn w A B C L) (h : ¬ evenTo L n) :
    Calls Try.prog 18 #[.slice A n c] w fun e w' => e = .returned (.tuple #[.slice none 0 0, .bool false]) ∧ Below w.heap.size w w' := by
  have HA := Lib.hid hA
  have HN := Lib.hid hn
  have HE := Lib.hid h
  obtain ⟨pa, oa, rfl, hc0, _⟩ := hA.at (show 0 < L.length by omega)
  rw [Nat.add_zero] at hc0
  have HC0 := Lib.hid hc0
  have t0 : ((n : Int) == 0) = false := beq_eq_false_iff_ne.2 (by omega)
  have t1 : 0 < (n : Int) := by omega
  generalize hs : (L.getD 0 []).length = s at HC0
  have HSS := Lib.hid hs
  have HB0 := Lib.hid ((Below.refl w.heap.size w).alloc (Nat.le_refl _) (.cells #[] 3))
  obtain ⟨i0, hi, hz0, hz1, hz2⟩ := info_parts info_int
  have HI := Lib.hid hi
  clear hA hn h hs hc0 hi hz0 hz1 hz2
  go_enter Try.func18, Try.ntmps18
  go_wp2_with (refine wpList_buildNone rfl 30 3 rfl i0 Try.underlying30 HI.out ?_)
  go_loopw [5] (fun i wr => ∃ j : Nat, i = .int .i64 (j : Int) ∧ j ≤ n ∧ Below w.heap.size w wr ∧ evenTo L j) (fun i _ => match i with | .int _ k => n - k.toNat | _ => 0)
  case atStart => exact ⟨0, rfl, Nat.zero_le _, HB0.out, fun i hi => absurd hi (by omega)⟩
  case round =>
    clear HB0
    obtain ⟨j, rfl, hj, hb, he⟩ := hrel
    have HEJ := Lib.hid he
    have HB := Lib.hid hb
    clear he hb
    have x2 : 0 ≤ (j : Int) := by omega
    by_cases hlt : j < n
    · have x0 : (j : Int) < (n : Int) := by omega
      have x1 : decide ((j : Int) < (n : Int)) = true := decide_eq_true x0
      have HJ := Lib.hid (show j + 1 ≤ n by omega)
      obtain ⟨pb, po, e, hcell, _⟩ := (HA.out.below HB.out (Nat.le_refl _)).at (show j < L.length by rw [HN.out]; exact hlt)
      injection e with e
      injection e with e1 e2 _
      subst e1 e2
      have d0 := (HB.out.cell (p := ⟨pa, oa, none⟩) (block_lt_of_cell HC0.out)).trans HC0.out
      by_cases hq : (L.getD j []).length = s
      · have t2 : (((L.getD j []).length : Int) == (s : Int)) = true := by rw [hq]; exact beq_self_eq_true _
        have HEN := Lib.hid (show evenTo L (j + 1) from fun i hi => by
          by_cases h : i = j
          · rw [h, hq, HSS.out]
          · exact HEJ.out i (by omega))
        clear hq
        generalize (L.getD j []).length = l at hcell t2
        have x3 := IntWalk.wrap64_in ((j : Int) + 1) (by omega)
        go_wp2_with (fail)
        go_quiet (fail)
        go_wp2_with (fail)
        exact ⟨⟨j + 1, rfl, HJ.out, below_drewN HB.out _, HEN.out⟩, vc_less j n hlt⟩
      · have t2 : (((L.getD j []).length : Int) == (s : Int)) = false := beq_eq_false_iff_ne.2 (by omega)
        clear hq
        generalize (L.getD j []).length = l at hcell t2
        go_wp2_with (fail)
        go_quiet (fail)
        go_wp2_with (fail)
        refine bodyPost_ret (results_tmp2 rfl _ _ _) rfl ?_
        exact ⟨rfl, below_drewN HB.out _⟩
    · have hke : j = n := by omega
      rw [hke] at HEJ
      exact absurd HEJ.out HE.out
set_option maxRecDepth 100000 in
set_option maxHeartbeats 3200000 in
theorem ref11_plus (s : Nat) (hs : (L.getD 0 []).length = s) (hn : L.length = n) (h0 : 0 < n) (hm : n ≤ 4096) (hs2 : s ≤ 4096) (hA : LIn w A B C L) (h : evenTo L n) :
    Calls Try.prog 18 #[.slice A n c] w (RowSays w (fun v => .tuple #[v, .bool true]) (plusL L s)) := by
  have HA := Lib.hid hA
  have HN := Lib.hid hn
  have HE := Lib.hid (show ∀ i, i < n → (L.getD i []).length = s from fun i hi => (h i hi).trans hs)
  obtain ⟨pa, oa, rfl, hc0, _⟩ := hA.at (show 0 < L.length by omega)
  rw [Nat.add_zero, hs] at hc0
  have HC0 := Lib.hid hc0
  have t0 : ((n : Int) == 0) = false := beq_eq_false_iff_ne.2 (by omega)
  have t1 : 0 < (n : Int) := by omega
  have t2 : ((s : Int) == (s : Int)) = true := beq_self_eq_true _
  have t3 : decide (0 < (n : Int)) = true := decide_eq_true t1
  obtain ⟨i0, hi, hz0, hz1, hz2⟩ := info_parts info_int
  have HI := Lib.hid hi
  have HZ0 := Lib.hid hz0
  have HZ1 := Lib.hid hz1
  have HZ2 := Lib.hid hz2
  have HLR := Lib.hid (plusL_length L s)
  have HAT := Lib.hid (plusL_at L s)
  have HPL := Lib.hid (fun k => (placeL_length L k).trans hn)
  have HPA := Lib.hid (fun k i (h : i < n) => placeL_at L k i (by omega))
  have HB0 := Lib.hid ((Below.refl w.heap.size w).alloc (Nat.le_refl _) (.cells #[] 3))
  have HO0 := Lib.hid (Own.new w w.heap.size (Nat.le_refl _))
  clear hi hz0 hz1 hz2 hA hn h hs hc0
  generalize plusL L s = R at HLR HAT ⊢
  generalize hpl : placeL L = P at HAT HPL HPA
  clear hpl
  go_enter Try.func18, Try.ntmps18
  go_wp2_with (refine wpList_buildNone rfl 30 3 rfl i0 Try.underlying30 HI.out ?_)
  generalize w.alloc (.cells #[] 3) = w1 at HB0 HO0 ⊢
  go_loopw [5] (fun i wr => ∃ j d : Nat, i = .int .i64 (j : Int) ∧ j ≤ n ∧ wr = w1.drewN d) (fun i _ => match i with | .int _ k => n - k.toNat | _ => 0)
  case atStart => exact ⟨0, 0, rfl, Nat.zero_le _, rfl⟩
  case round =>
    obtain ⟨j, d, rfl, hj, rfl⟩ := hrel
    have x2 : 0 ≤ (j : Int) := by omega
    by_cases hlt : j < n
    · have x0 : (j : Int) < (n : Int) := by omega
      have x1 : decide ((j : Int) < (n : Int)) = true := decide_eq_true x0
      have HJ := Lib.hid (show j + 1 ≤ n by omega)
      obtain ⟨pb, po, e, hcell, _⟩ := (HA.out.below HB0.out (Nat.le_refl _)).at (show j < L.length by rw [HN.out]; exact hlt)
      injection e with e
      injection e with e1 e2 _
      subst e1 e2
      rw [HE.out j hlt] at hcell
      have d0 := (HB0.out.cell (p := ⟨pa, oa, none⟩) (block_lt_of_cell HC0.out)).trans HC0.out
      have x3 := IntWalk.wrap64_in ((j : Int) + 1) (by omega)
      go_wp2_with (fail)
      go_quiet (fail)
      go_wp2_with (fail)
      exact ⟨⟨j + 1, _, rfl, HJ.out, rfl⟩, vc_less j n hlt⟩
    · have hke : j = n := by omega
      have x0 : ¬ (j : Int) < (n : Int) := by omega
      have x1 : decide ((j : Int) < (n : Int)) = false := decide_eq_false x0
      clear hke
      go_wp2_with (fail)
      have HB1 := Lib.hid (below_drewN HB0.out d)
      have HO1 : Hid (Own (w1.drewN d) w.heap.size (.slice (some ⟨w.heap.size, 0, none⟩) 0 0) []) := HO0
      clear HB0 HO0 x0 x1 hlt hj x2
      go_loopw [4, 6] (fun l i wr => ∃ (k : Nat) (G : Option Addr) (q : Nat), i = .int .i64 (k : Int) ∧ k ≤ s ∧ l = .slice G k q ∧ Own wr w.heap.size l (R.take k) ∧ Below w.heap.size w wr) (fun _ i _ => match i with | .int _ k => s - k.toNat | _ => 0)
      case atStart => exact ⟨0, _, 0, rfl, Nat.zero_le _, rfl, HO1.out, HB1.out⟩
      case round =>
        clear HB1 HO1
        obtain ⟨k, G, cg, rfl, hk, rfl, ho, hb⟩ := hrel
        have HO := Lib.hid ho
        have HB := Lib.hid hb
        clear ho hb
        have y2 : 0 ≤ (k : Int) := by omega
        have d0 := (HB.out.cell (p := ⟨pa, oa, none⟩) (block_lt_of_cell HC0.out)).trans HC0.out
        by_cases hks : k < s
        · have y0 : (k : Int) < (s : Int) := by omega
          have y1 : decide ((k : Int) < (s : Int)) = true := decide_eq_true y0
          have HJ := Lib.hid (show k + 1 ≤ s by omega)
          have HMJ := Lib.hid (app_small HJ.out hs2)
          have HRN := Lib.hid (take_more R k (by rw [HLR.out]; exact hks))
          have HXJ := Lib.hid (HAT.out k hks)
          have HOL := Lib.hid (show (R.take k).length = k by rw [List.length_take, HLR.out]; omega)
          generalize wr = wo at HO HB d0 ⊢
          go_wp2_with (refine wpList_buildNone rfl 30 3 rfl i0 Try.underlying30 HI.out ?_)
          have HC0' := Lib.hid ((Below.refl wo.heap.size wo).alloc (Nat.le_refl _) (.cells #[] 3))
          have HQ0 := Lib.hid (Own.new wo wo.heap.size (Nat.le_refl _))
          clear d0
          go_loopw [7, 8] (fun l i wr => ∃ (q : Nat) (G : Option Addr) (c : Nat), i = .int .i64 (q : Int) ∧ q ≤ n ∧ l = .slice G q c ∧ Own wr wo.heap.size l ((P k).take q) ∧ Below wo.heap.size wo wr) (fun _ i _ => match i with | .int _ k => n - k.toNat | _ => 0)
          case atStart => exact ⟨0, _, 0, rfl, Nat.zero_le _, rfl, HQ0.out, HC0'.out⟩
          case round =>
            clear HQ0 HC0'
            obtain ⟨q, F, cf, rfl, hq, rfl, ho, hb⟩ := hrel
            have HQ := Lib.hid ho
            have HC := Lib.hid hb
            clear ho hb
            have z2 : 0 ≤ (q : Int) := by omega
            by_cases hqn : q < n
            · have z0 : (q : Int) < (n : Int) := by omega
              have z1 : decide ((q : Int) < (n : Int)) = true := decide_eq_true z0
              have HK := Lib.hid (show q + 1 ≤ n by omega)
              have HM := Lib.hid (app_small HK.out hm)
              have hW := (HA.out.below HB.out (Nat.le_refl _)).below HC.out (Nat.le_refl _)
              obtain ⟨pb, po, e, hcell, hkin⟩ := hW.at (show q < L.length by rw [HN.out]; exact hqn)
              injection e with e
              injection e with e1 e2 _
              subst e1 e2
              obtain ⟨vb, vo, eb, hcell2⟩ := hkin.at (show k < (L.getD q []).length by rw [HE.out q hqn]; exact hks)
              rw [HE.out q hqn, eb] at hcell
              rw [← HPA.out k q hqn] at hcell2
              have HKN := Lib.hid (take_more (P k) q (by rw [HPL.out k]; exact hqn))
              have HOK := Lib.hid (show ((P k).take q).length = q by rw [List.length_take, HPL.out k]; omega)
              have HW0 := Lib.hid (Own.at HQ.out HOK.out)
              clear hkin eb hW
              generalize (P k).getD q 0 = z at hcell2 HKN
              have z3 := IntWalk.wrap64_in ((q : Int) + 1) (by omega)
              go_wp2_with (at_builtin; refine wpList_append_lies _ rfl (.tmp 46) (.tmp 54) 30 rfl wo.heap.size 3 i0 _ 1 8 Try.underlying30 HI.out HZ0.out HZ1.out HZ2.out rfl Nat.one_pos (.slice F q cf) q _ rfl (HW0.out.alloc _) ⟨wr.heap.size, 0, none⟩ 1 1 [.int .i64 z] rfl rfl (one_src wr z) (one_one z) Nat.one_pos HM.out.1 HM.out.2 (base_le HC.out rfl _) _ rfl ?_; intro gg cap wz hownz hgrow hat hltz)
              have HON := Lib.hid (Own.grew HOK.out hownz)
              have HBN := Lib.hid (below_grew HC.out rfl HQ.out _ hgrow)
              rw [← HKN.out] at HON
              clear hownz hgrow hat hltz hcell hcell2
              go_wp2_with (fail)
              exact ⟨⟨q + 1, _, cap, rfl, HK.out, rfl, HON.out, HBN.out⟩, vc_less q n hqn⟩
            · have hqe : q = n := by omega
              have z0 : ¬ (q : Int) < (n : Int) := by omega
              have z1 : decide ((q : Int) < (n : Int)) = false := decide_eq_false z0
              have HT := Lib.hid (show (P k).take q = P k from List.take_of_length_le (by rw [HPL.out k]; omega))
              rw [HT.out] at HQ
              have HB2 := Lib.hid (HB.out.trans (HC.out.mono HB.out.size))
              have HO2 := Lib.hid (HO.out.below HC.out (Nat.le_refl _))
              have hn3 : n ≤ 1000000 := by omega
              clear HO HB HC
              subst hqe
              go_wp2_with (fail)
              refine (rsum_any wr F q cf (P k) (HPL.out k) hn3 (Own.kin HQ.out)).mono ?_
              rintro e w4 ⟨rfl, rfl⟩
              go_wp2_with (fail)
              refine (rsat_any _ _).mono ?_
              rintro e w6 ⟨rfl, rfl⟩
              rw [← HXJ.out]
              have HW4 := Lib.hid (Own.at HO2.out HOL.out)
              generalize R.getD k 0 = z at HRN ⊢
              go_wp2_with (at_builtin; refine wpList_append_lies _ rfl (.tmp 56) (.tmp 60) 30 rfl w.heap.size 3 i0 _ 1 8 Try.underlying30 HI.out HZ0.out HZ1.out HZ2.out rfl Nat.one_pos (.slice G k cg) k _ rfl (HW4.out.alloc _) ⟨wr.heap.size, 0, none⟩ 1 1 [.int .i64 z] rfl rfl (one_src wr z) (one_one z) Nat.one_pos HMJ.out.1 HMJ.out.2 (base_le HB2.out rfl _) _ rfl ?_; intro gg cap wz hownz hgrow hat hltz)
              have HON := Lib.hid (Own.grew HOL.out hownz)
              have HBN := Lib.hid (below_grew HB2.out rfl HO2.out _ hgrow)
              rw [← HRN.out] at HON
              clear hownz hgrow hat hltz
              have x3 := IntWalk.wrap64_in ((k : Int) + 1) (by omega)
              go_wp2_with (fail)
              exact ⟨⟨k + 1, _, cap, rfl, HJ.out, rfl, HON.out, HBN.out⟩, vc_less k s hks⟩
        · have hke : k = s := by omega
          have y0 : ¬ (k : Int) < (s : Int) := by omega
          have y1 : decide ((k : Int) < (s : Int)) = false := decide_eq_false y0
          have HT := Lib.hid (show R.take k = R from List.take_of_length_le (by rw [HLR.out]; omega))
          rw [HT.out] at HO
          go_wp2_with (fail)
          refine bodyPost_ret (results_tmp2 rfl _ _ _) rfl ?_
          refine ⟨G, cg, ?_, Own.kin HO.out, HB.out⟩
          rw [HLR.out]
          rfl
end
end Go.Proofs.Ytclobdeaocjnoaa
