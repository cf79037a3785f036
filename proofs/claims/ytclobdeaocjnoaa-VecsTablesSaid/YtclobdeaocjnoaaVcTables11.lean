/-
  Law 11's VecsTables: it answers true, whatever the table, the bytes and the row are. No conditions but that the table's numbers are there.
-/
import Derived.Test.YtclobdeaocjnoaaVcAwake11
import Derived.Test.YtclobdeaocjnoaaVcRef3
namespace Go.Proofs.Ytclobdeaocjnoaa.vecsTables
open Go.ChangeShapes Go.WideShapes Go.ChangeAt Go.RowKit Nm Vc

set_option maxRecDepth 100000 in
set_option maxHeartbeats 6400000 in
theorem walk (w : World) (x y at_ : Int) (A : Option Addr) (n c : Nat) (D : List Int) (s : ByteArray) (hD : D.length = n) (hA : KIn .i8 w A D) (hI : I8 D) :
    Calls Try.prog 3 #[tbV x y A n c, .string s, .int .i64 at_] w fun e w' => e = .returned (.bool true) ∧ Below w.heap.size w w' := by
  have HA0 := Lib.hid (Tb.new (Below.refl w.heap.size w) hA x y n c)
  have HDL := Lib.hid hD
  have HI8 := Lib.hid hI
  have HBY := Lib.hid (fun (W : World) (h : n ≤ 4096) (ha : KIn .i8 W A D) => vecs_bytes W x y A n c D hD h ha)
  have HGD := Lib.hid (fun W => vecs_good x y A n c W)
  have HRG := Lib.hid (fun W => ref11_good x y n W)
  have HBS := Lib.hid (textD_wrap D)
  have HBZ := Lib.hid (show (textD D).size = n from (textD_size D).trans hD)
  clear hA hD hI
  unfold tbV tbA at HBY HGD ⊢
  go_enter Try.func3, Try.ntmps3
  go_wp2_with (fail)
  refine (awake11 _).mono ?_
  rintro e w1 ⟨rfl, b1⟩
  have HT1 := Lib.hid (HA0.out.step b1)
  clear HA0 b1
  by_cases hn : 4096 < n
  · have d2 := tb2 HT1.out.blk
    have t1 : (4096 : Int) < (n : Int) := by omega
    have t2 : decide ((4096 : Int) < (n : Int)) = true := decide_eq_true t1
    go_wp2_with (fail)
    refine bodyPost_ret (results_tmp rfl _ _ _) rfl ?_
    exact ⟨rfl, HT1.out.below⟩
  have t1 : ¬ (4096 : Int) < (n : Int) := by omega
  have t2 : decide ((4096 : Int) < (n : Int)) = false := decide_eq_false t1
  by_cases hs1 : 4096 < s.size
  · have d2 := tb2 HT1.out.blk
    have t3 : (4096 : Int) < (s.size : Int) := by omega
    have t4 : decide ((4096 : Int) < (s.size : Int)) = true := decide_eq_true t3
    go_wp2_with (fail)
    refine bodyPost_ret (results_tmp rfl _ _ _) rfl ?_
    exact ⟨rfl, HT1.out.below⟩
  have t3 : ¬ (4096 : Int) < (s.size : Int) := by omega
  have t4 : decide ((4096 : Int) < (s.size : Int)) = false := decide_eq_false t3
  have hs2 : s.size ≤ 4096 := by omega
  have hn2 : n ≤ 4096 := by omega
  have d0 := tb0 HT1.out.blk
  have d1 := tb1 HT1.out.blk
  have d2 := tb2 HT1.out.blk
  generalize hbt : textD D = bt at HBY HBS HBZ
  have hbz := HBZ.out
  clear hbt HBZ
  generalize hgd : goodB x y n = gd at HGD HRG
  have HGE := Lib.hid hgd
  clear hgd
  have g1 : (gd == gd) = true := beq_self_eq_true _
  have g2 : ((n : Int) == (n : Int)) = true := beq_self_eq_true _
  go_wp2_with (fail)
  refine (HRG.out w1).mono ?_
  rintro e w2 ⟨rfl, rfl⟩
  go_wp2_with (fail)
  refine (HBY.out w1 hn2 HT1.out.nums).mono ?_
  rintro e w3 ⟨rfl, b3⟩
  have HT3 := Lib.hid (HT1.out.step b3)
  clear b3 HBY HT1 d0 d1 d2
  have d0 := tb0 HT3.out.blk
  have d1 := tb1 HT3.out.blk
  have d2 := tb2 HT3.out.blk
  go_wp2_with (fail)
  refine (HGD.out w3).mono ?_
  rintro e w4 ⟨rfl, b4⟩
  have HT4 := Lib.hid (HT3.out.step b4)
  clear b4 HT3 d0 d1 d2
  have d2 := tb2 HT4.out.blk
  go_wp2_with (fail)
  go_loopw [9] (fun i wr => ∃ j d : Nat, i = .int .i64 (j : Int) ∧ j ≤ n ∧ wr = w4.drewN d) (fun i _ => match i with | .int _ k => n - k.toNat | _ => 0)
  case atStart => exact ⟨0, 0, rfl, Nat.zero_le _, rfl⟩
  case round =>
    obtain ⟨j, d, rfl, hj, rfl⟩ := hrel
    have x2 : 0 ≤ (j : Int) := by omega
    by_cases hlt : j < n
    · have x0 : (j : Int) < (n : Int) := by omega
      have x1 : decide ((j : Int) < (n : Int)) = true := decide_eq_true x0
      have HJ := Lib.hid (show j + 1 ≤ n by omega)
      have hbs : j < bt.size := by omega
      obtain ⟨pa, oa, rfl, hc1⟩ := HT4.out.nums.at (show j < D.length by rw [HDL.out]; exact hlt)
      have hb1 := HBS.out j hbs
      generalize D.getD j 0 = z at hc1 hb1
      have hb2 : (IntKind.u8.wrap z == IntKind.u8.wrap z) = true := beq_self_eq_true _
      have hb3 : (((bt[j]'hbs).toNat : Int) == IntKind.u8.wrap z) = true := by rw [hb1]; exact hb2
      have x3 := IntWalk.wrap64_in ((j : Int) + 1) (by omega)
      go_wp2_with (fail)
      go_quiet (fail)
      go_wp2_with (fail)
      exact ⟨⟨j + 1, _, rfl, HJ.out, rfl⟩, vc_less j n hlt⟩
    · have hke : j = n := by omega
      have x0 : ¬ (j : Int) < (n : Int) := by omega
      have x1 : decide ((j : Int) < (n : Int)) = false := decide_eq_false x0
      have HT1 := Lib.hid (HT4.out.drewN d)
      clear hke hlt hj x2 d2 HT4 HGD HRG HBS
      generalize w4.drewN d = w5 at HT1 ⊢
      cases gd with
      | false =>
        have hg := HGE.out
        clear HGE
        have HNR := Lib.hid (fun W => table_row_not W x y at_ A n c (.inl hg))
        unfold tbV tbA at HNR
        have d0 := tb0 HT1.out.blk
        have d1 := tb1 HT1.out.blk
        have d2 := tb2 HT1.out.blk
        go_wp2_with (fail)
        refine (HNR.out w5).mono ?_
        rintro e W ⟨rfl, b4⟩
        have HT := Lib.hid (HT1.out.step b4)
        clear b4 HT1 d0 d1 d2 HNR
        have q0 := tb0 HT.out.blk
        by_cases u1 : x < 1
        · have v1 : decide (x < 1) = true := decide_eq_true u1
          have hf : (fitB x && fitB y) = false := by unfold fitB; rw [decide_eq_false (by omega : ¬ 1 ≤ x)]; rfl
          have d0 := tb0 HT.out.blk
          have d1 := tb1 HT.out.blk
          go_wp2_with (fail)
          refine (vecs_of_arg W x y s hf).mono ?_
          rintro e w5 ⟨rfl, b5⟩
          have HT5 := Lib.hid (HT.out.step b5)
          have k0 : (w5.alloc (.cells #[.int .i64 (0), .int .i64 (0), .slice none 0 0] 24)).cell? ⟨w.heap.size, 0, none⟩ = some (.int .i64 x) := tb0 (HT5.out.alloc _).blk
          have k1 : (w5.alloc (.cells #[.int .i64 (0), .int .i64 (0), .slice none 0 0] 24)).cell? ⟨w.heap.size, 1, none⟩ = some (.int .i64 y) := tb1 (HT5.out.alloc _).blk
          clear b5 d0 d1 HT
          have hne := Nat.ne_of_lt HT5.out.lt
          unfold tbV tbA
          go_wp2_with (fail)
          refine bodyPost_ret (results_tmp rfl _ _ _) rfl ?_
          exact ⟨rfl, (HT5.out.alloc _).below⟩
        have v1 : decide (x < 1) = false := decide_eq_false u1
        by_cases u2 : 64 < x
        · have v2 : decide (64 < x) = true := decide_eq_true u2
          have hf : (fitB x && fitB y) = false := by unfold fitB; rw [decide_eq_false (by omega : ¬ x ≤ 64), Bool.and_false]; rfl
          have d0 := tb0 HT.out.blk
          have d1 := tb1 HT.out.blk
          go_wp2_with (fail)
          refine (vecs_of_arg W x y s hf).mono ?_
          rintro e w5 ⟨rfl, b5⟩
          have HT5 := Lib.hid (HT.out.step b5)
          have k0 : (w5.alloc (.cells #[.int .i64 (0), .int .i64 (0), .slice none 0 0] 24)).cell? ⟨w.heap.size, 0, none⟩ = some (.int .i64 x) := tb0 (HT5.out.alloc _).blk
          have k1 : (w5.alloc (.cells #[.int .i64 (0), .int .i64 (0), .slice none 0 0] 24)).cell? ⟨w.heap.size, 1, none⟩ = some (.int .i64 y) := tb1 (HT5.out.alloc _).blk
          clear b5 d0 d1 HT
          have hne := Nat.ne_of_lt HT5.out.lt
          unfold tbV tbA
          go_wp2_with (fail)
          refine bodyPost_ret (results_tmp rfl _ _ _) rfl ?_
          exact ⟨rfl, (HT5.out.alloc _).below⟩
        have v2 : decide (64 < x) = false := decide_eq_false u2
        have hfx : fitB x = true := fitB_iff.2 ⟨by omega, by omega⟩
        by_cases u3 : y < 1
        · have v3 : decide (y < 1) = true := decide_eq_true u3
          have hf : (fitB x && fitB y) = false := by rw [hfx, Bool.true_and]; unfold fitB; rw [decide_eq_false (by omega : ¬ 1 ≤ y)]; rfl
          have d0 := tb0 HT.out.blk
          have d1 := tb1 HT.out.blk
          go_wp2_with (fail)
          refine (vecs_of_arg W x y s hf).mono ?_
          rintro e w5 ⟨rfl, b5⟩
          have HT5 := Lib.hid (HT.out.step b5)
          have k0 : (w5.alloc (.cells #[.int .i64 (0), .int .i64 (0), .slice none 0 0] 24)).cell? ⟨w.heap.size, 0, none⟩ = some (.int .i64 x) := tb0 (HT5.out.alloc _).blk
          have k1 : (w5.alloc (.cells #[.int .i64 (0), .int .i64 (0), .slice none 0 0] 24)).cell? ⟨w.heap.size, 1, none⟩ = some (.int .i64 y) := tb1 (HT5.out.alloc _).blk
          clear b5 d0 d1 HT
          have hne := Nat.ne_of_lt HT5.out.lt
          unfold tbV tbA
          go_wp2_with (fail)
          refine bodyPost_ret (results_tmp rfl _ _ _) rfl ?_
          exact ⟨rfl, (HT5.out.alloc _).below⟩
        have v3 : decide (y < 1) = false := decide_eq_false u3
        by_cases u4 : 64 < y
        · have v4 : decide (64 < y) = true := decide_eq_true u4
          have hf : (fitB x && fitB y) = false := by rw [hfx, Bool.true_and]; unfold fitB; rw [decide_eq_false (by omega : ¬ y ≤ 64), Bool.and_false]
          have d0 := tb0 HT.out.blk
          have d1 := tb1 HT.out.blk
          go_wp2_with (fail)
          refine (vecs_of_arg W x y s hf).mono ?_
          rintro e w5 ⟨rfl, b5⟩
          have HT5 := Lib.hid (HT.out.step b5)
          have k0 : (w5.alloc (.cells #[.int .i64 (0), .int .i64 (0), .slice none 0 0] 24)).cell? ⟨w.heap.size, 0, none⟩ = some (.int .i64 x) := tb0 (HT5.out.alloc _).blk
          have k1 : (w5.alloc (.cells #[.int .i64 (0), .int .i64 (0), .slice none 0 0] 24)).cell? ⟨w.heap.size, 1, none⟩ = some (.int .i64 y) := tb1 (HT5.out.alloc _).blk
          clear b5 d0 d1 HT
          have hne := Nat.ne_of_lt HT5.out.lt
          unfold tbV tbA
          go_wp2_with (fail)
          refine bodyPost_ret (results_tmp rfl _ _ _) rfl ?_
          exact ⟨rfl, (HT5.out.alloc _).below⟩
        have v4 : decide (64 < y) = false := decide_eq_false u4
        have hfy : fitB y = true := fitB_iff.2 ⟨by omega, by omega⟩
        obtain ⟨hx1, hx2⟩ := fitB_iff.1 hfx
        obtain ⟨hy1, hy2⟩ := fitB_iff.1 hfy
        have hp := sides ⟨hx1, hx2⟩ ⟨hy1, hy2⟩
        have hbd : -9223372036854775808 ≤ x * y ∧ x * y ≤ 9223372036854775807 := by omega
        have d0 := tb0 HT.out.blk
        have d1 := tb1 HT.out.blk
        by_cases hs : (s.size : Int) = x * y
        · have HOK := Lib.hid (vecs_of_ok W x y s hfx hfy hs)
          have HFIN := Lib.hid (fun W3 A3 (k3 : KIn .i8 W3 A3 (listD s)) => vecs_bytes W3 x y A3 s.size s.size (listD s) (listD_length s) hs2 k3)
          have HGD := Lib.hid (fun W3 A3 => vecs_good x y A3 s.size s.size W3)
          have HGO := Lib.hid (show goodB x y s.size = true from goodB_iff.2 ⟨⟨hx1, hx2⟩, ⟨hy1, hy2⟩, hs⟩)
          rw [textD_listD] at HFIN
          rw [HGO.out] at HGD
          have e1 := IntWalk.wrap64_in (x * y) hbd
          have e2 : IntKind.i64.wrap (x * y) = x * y := IntWalk.i64_in _ hbd
          have t1 : ((s.size : Int) == x * y) = true := beq_iff_eq.2 hs
          have t2 : (x == x) = true := beq_self_eq_true _
          have t3 : (y == y) = true := beq_self_eq_true _
          clear hs hp hx1 hx2 hy1 hy2 hbd HGO hfx hfy
          generalize hq : x * y = q at e1 e2 t1
          unfold tbV tbA at HOK HFIN HGD
          go_wp2_with (fail)
          refine HOK.out.mono ?_
          rintro e w5 ⟨A5, rfl, k5, b5⟩
          have HT5 := Lib.hid (HT.out.step b5)
          have K5 := Lib.hid k5
          have k0 : (w5.alloc (.cells #[.int .i64 (x), .int .i64 (y), .slice A5 s.size s.size] 24)).cell? ⟨w.heap.size, 0, none⟩ = some (.int .i64 x) := tb0 (HT5.out.alloc _).blk
          have k1 : (w5.alloc (.cells #[.int .i64 (x), .int .i64 (y), .slice A5 s.size s.size] 24)).cell? ⟨w.heap.size, 1, none⟩ = some (.int .i64 y) := tb1 (HT5.out.alloc _).blk
          have hne := Nat.ne_of_lt HT5.out.lt
          clear b5 d0 d1 HT HOK k5
          go_wp2_with (fail)
          refine (HFIN.out _ A5 (K5.out.alloc _)).mono ?_
          rintro e w6 ⟨rfl, b6⟩
          have HT6 := Lib.hid ((HT5.out.alloc (tbO x y A5 s.size s.size)).step b6)
          have hb6 := (b6.block w5.heap.size (by simp)).trans (heap_alloc_new w5 (tbO x y A5 s.size s.size))
          have m0 := tb0 hb6
          have m1 := tb1 hb6
          have m2 := tb2 hb6
          clear b6 hb6 HT5 K5 k0 k1
          go_wp2_with (fail)
          refine (HGD.out w6 A5).mono ?_
          rintro e w7 ⟨rfl, b7⟩
          have HT7 := Lib.hid (HT6.out.step b7)
          clear b7 HT6
          go_wp2_with (fail)
          refine bodyPost_ret (results_tmp rfl _ _ _) rfl ?_
          exact ⟨rfl, HT7.out.below⟩
        · have HFM := Lib.hid (vecs_of_form W x y s hfx hfy hs)
          have e1 := IntWalk.wrap64_in (x * y) hbd
          have e2 : IntKind.i64.wrap (x * y) = x * y := IntWalk.i64_in _ hbd
          have t1 : ((s.size : Int) == x * y) = false := beq_eq_false_iff_ne.2 hs
          clear hs hp hx1 hx2 hy1 hy2 hbd hfx hfy
          generalize hq : x * y = q at e1 e2 t1
          unfold tbV tbA at HFM
          go_wp2_with (fail)
          refine HFM.out.mono ?_
          rintro e w5 ⟨rfl, b5⟩
          have HT5 := Lib.hid (HT.out.step b5)
          have k0 : (w5.alloc (.cells #[.int .i64 (0), .int .i64 (0), .slice none 0 0] 24)).cell? ⟨w.heap.size, 0, none⟩ = some (.int .i64 x) := tb0 (HT5.out.alloc _).blk
          have k1 : (w5.alloc (.cells #[.int .i64 (0), .int .i64 (0), .slice none 0 0] 24)).cell? ⟨w.heap.size, 1, none⟩ = some (.int .i64 y) := tb1 (HT5.out.alloc _).blk
          have hne := Nat.ne_of_lt HT5.out.lt
          clear b5 d0 d1 HT HFM
          go_wp2_with (fail)
          refine bodyPost_ret (results_tmp rfl _ _ _) rfl ?_
          exact ⟨rfl, (HT5.out.alloc _).below⟩
      | true =>
        have hg := HGE.out
        clear HGE
        have hfx : fitB x = true := fitB_iff.2 (goodB_iff.1 hg).1
        have hfy : fitB y = true := fitB_iff.2 (goodB_iff.1 hg).2.1
        by_cases h0 : at_ < 0
        · have r0 : decide (at_ < 0) = true := decide_eq_true h0
          have HNR := Lib.hid (fun W => table_row_not W x y at_ A n c (.inr (.inl h0)))
          unfold tbV tbA at HNR
          have d0 := tb0 HT1.out.blk
          have d1 := tb1 HT1.out.blk
          have d2 := tb2 HT1.out.blk
          go_wp2_with (fail)
          refine (HNR.out w5).mono ?_
          rintro e W ⟨rfl, b4⟩
          have HT := Lib.hid (HT1.out.step b4)
          clear b4 HT1 d0 d1 d2 HNR
          have q0 := tb0 HT.out.blk
          obtain ⟨hx1, hx2⟩ := fitB_iff.1 hfx
          obtain ⟨hy1, hy2⟩ := fitB_iff.1 hfy
          have hp := sides ⟨hx1, hx2⟩ ⟨hy1, hy2⟩
          have v1 : decide (x < 1) = false := decide_eq_false (by omega)
          have v2 : decide (64 < x) = false := decide_eq_false (by omega)
          have v3 : decide (y < 1) = false := decide_eq_false (by omega)
          have v4 : decide (64 < y) = false := decide_eq_false (by omega)
          have hbd : -9223372036854775808 ≤ x * y ∧ x * y ≤ 9223372036854775807 := by omega
          have d0 := tb0 HT.out.blk
          have d1 := tb1 HT.out.blk
          by_cases hs : (s.size : Int) = x * y
          · have HOK := Lib.hid (vecs_of_ok W x y s hfx hfy hs)
            have HFIN := Lib.hid (fun W3 A3 (k3 : KIn .i8 W3 A3 (listD s)) => vecs_bytes W3 x y A3 s.size s.size (listD s) (listD_length s) hs2 k3)
            have HGD := Lib.hid (fun W3 A3 => vecs_good x y A3 s.size s.size W3)
            have HGO := Lib.hid (show goodB x y s.size = true from goodB_iff.2 ⟨⟨hx1, hx2⟩, ⟨hy1, hy2⟩, hs⟩)
            rw [textD_listD] at HFIN
            rw [HGO.out] at HGD
            have e1 := IntWalk.wrap64_in (x * y) hbd
            have e2 : IntKind.i64.wrap (x * y) = x * y := IntWalk.i64_in _ hbd
            have t1 : ((s.size : Int) == x * y) = true := beq_iff_eq.2 hs
            have t2 : (x == x) = true := beq_self_eq_true _
            have t3 : (y == y) = true := beq_self_eq_true _
            clear hs hp hx1 hx2 hy1 hy2 hbd HGO hfx hfy
            generalize hq : x * y = q at e1 e2 t1
            unfold tbV tbA at HOK HFIN HGD
            go_wp2_with (fail)
            refine HOK.out.mono ?_
            rintro e w5 ⟨A5, rfl, k5, b5⟩
            have HT5 := Lib.hid (HT.out.step b5)
            have K5 := Lib.hid k5
            have k0 : (w5.alloc (.cells #[.int .i64 (x), .int .i64 (y), .slice A5 s.size s.size] 24)).cell? ⟨w.heap.size, 0, none⟩ = some (.int .i64 x) := tb0 (HT5.out.alloc _).blk
            have k1 : (w5.alloc (.cells #[.int .i64 (x), .int .i64 (y), .slice A5 s.size s.size] 24)).cell? ⟨w.heap.size, 1, none⟩ = some (.int .i64 y) := tb1 (HT5.out.alloc _).blk
            have hne := Nat.ne_of_lt HT5.out.lt
            clear b5 d0 d1 HT HOK k5
            go_wp2_with (fail)
            refine (HFIN.out _ A5 (K5.out.alloc _)).mono ?_
            rintro e w6 ⟨rfl, b6⟩
            have HT6 := Lib.hid ((HT5.out.alloc (tbO x y A5 s.size s.size)).step b6)
            have hb6 := (b6.block w5.heap.size (by simp)).trans (heap_alloc_new w5 (tbO x y A5 s.size s.size))
            have m0 := tb0 hb6
            have m1 := tb1 hb6
            have m2 := tb2 hb6
            clear b6 hb6 HT5 K5 k0 k1
            go_wp2_with (fail)
            refine (HGD.out w6 A5).mono ?_
            rintro e w7 ⟨rfl, b7⟩
            have HT7 := Lib.hid (HT6.out.step b7)
            clear b7 HT6
            go_wp2_with (fail)
            refine bodyPost_ret (results_tmp rfl _ _ _) rfl ?_
            exact ⟨rfl, HT7.out.below⟩
          · have HFM := Lib.hid (vecs_of_form W x y s hfx hfy hs)
            have e1 := IntWalk.wrap64_in (x * y) hbd
            have e2 : IntKind.i64.wrap (x * y) = x * y := IntWalk.i64_in _ hbd
            have t1 : ((s.size : Int) == x * y) = false := beq_eq_false_iff_ne.2 hs
            clear hs hp hx1 hx2 hy1 hy2 hbd hfx hfy
            generalize hq : x * y = q at e1 e2 t1
            unfold tbV tbA at HFM
            go_wp2_with (fail)
            refine HFM.out.mono ?_
            rintro e w5 ⟨rfl, b5⟩
            have HT5 := Lib.hid (HT.out.step b5)
            have k0 : (w5.alloc (.cells #[.int .i64 (0), .int .i64 (0), .slice none 0 0] 24)).cell? ⟨w.heap.size, 0, none⟩ = some (.int .i64 x) := tb0 (HT5.out.alloc _).blk
            have k1 : (w5.alloc (.cells #[.int .i64 (0), .int .i64 (0), .slice none 0 0] 24)).cell? ⟨w.heap.size, 1, none⟩ = some (.int .i64 y) := tb1 (HT5.out.alloc _).blk
            have hne := Nat.ne_of_lt HT5.out.lt
            clear b5 d0 d1 HT HFM
            go_wp2_with (fail)
            refine bodyPost_ret (results_tmp rfl _ _ _) rfl ?_
            exact ⟨rfl, (HT5.out.alloc _).below⟩
        · have r0 : decide (at_ < 0) = false := decide_eq_false h0
          by_cases h1 : x ≤ at_
          · have r1 : decide (x ≤ at_) = true := decide_eq_true h1
            have HNR := Lib.hid (fun W => table_row_not W x y at_ A n c (.inr (.inr h1)))
            unfold tbV tbA at HNR
            have d0 := tb0 HT1.out.blk
            have d1 := tb1 HT1.out.blk
            have d2 := tb2 HT1.out.blk
            go_wp2_with (fail)
            refine (HNR.out w5).mono ?_
            rintro e W ⟨rfl, b4⟩
            have HT := Lib.hid (HT1.out.step b4)
            clear b4 HT1 d0 d1 d2 HNR
            have q0 := tb0 HT.out.blk
            obtain ⟨hx1, hx2⟩ := fitB_iff.1 hfx
            obtain ⟨hy1, hy2⟩ := fitB_iff.1 hfy
            have hp := sides ⟨hx1, hx2⟩ ⟨hy1, hy2⟩
            have v1 : decide (x < 1) = false := decide_eq_false (by omega)
            have v2 : decide (64 < x) = false := decide_eq_false (by omega)
            have v3 : decide (y < 1) = false := decide_eq_false (by omega)
            have v4 : decide (64 < y) = false := decide_eq_false (by omega)
            have hbd : -9223372036854775808 ≤ x * y ∧ x * y ≤ 9223372036854775807 := by omega
            have d0 := tb0 HT.out.blk
            have d1 := tb1 HT.out.blk
            by_cases hs : (s.size : Int) = x * y
            · have HOK := Lib.hid (vecs_of_ok W x y s hfx hfy hs)
              have HFIN := Lib.hid (fun W3 A3 (k3 : KIn .i8 W3 A3 (listD s)) => vecs_bytes W3 x y A3 s.size s.size (listD s) (listD_length s) hs2 k3)
              have HGD := Lib.hid (fun W3 A3 => vecs_good x y A3 s.size s.size W3)
              have HGO := Lib.hid (show goodB x y s.size = true from goodB_iff.2 ⟨⟨hx1, hx2⟩, ⟨hy1, hy2⟩, hs⟩)
              rw [textD_listD] at HFIN
              rw [HGO.out] at HGD
              have e1 := IntWalk.wrap64_in (x * y) hbd
              have e2 : IntKind.i64.wrap (x * y) = x * y := IntWalk.i64_in _ hbd
              have t1 : ((s.size : Int) == x * y) = true := beq_iff_eq.2 hs
              have t2 : (x == x) = true := beq_self_eq_true _
              have t3 : (y == y) = true := beq_self_eq_true _
              clear hs hp hx1 hx2 hy1 hy2 hbd HGO hfx hfy
              generalize hq : x * y = q at e1 e2 t1
              unfold tbV tbA at HOK HFIN HGD
              go_wp2_with (fail)
              refine HOK.out.mono ?_
              rintro e w5 ⟨A5, rfl, k5, b5⟩
              have HT5 := Lib.hid (HT.out.step b5)
              have K5 := Lib.hid k5
              have k0 : (w5.alloc (.cells #[.int .i64 (x), .int .i64 (y), .slice A5 s.size s.size] 24)).cell? ⟨w.heap.size, 0, none⟩ = some (.int .i64 x) := tb0 (HT5.out.alloc _).blk
              have k1 : (w5.alloc (.cells #[.int .i64 (x), .int .i64 (y), .slice A5 s.size s.size] 24)).cell? ⟨w.heap.size, 1, none⟩ = some (.int .i64 y) := tb1 (HT5.out.alloc _).blk
              have hne := Nat.ne_of_lt HT5.out.lt
              clear b5 d0 d1 HT HOK k5
              go_wp2_with (fail)
              refine (HFIN.out _ A5 (K5.out.alloc _)).mono ?_
              rintro e w6 ⟨rfl, b6⟩
              have HT6 := Lib.hid ((HT5.out.alloc (tbO x y A5 s.size s.size)).step b6)
              have hb6 := (b6.block w5.heap.size (by simp)).trans (heap_alloc_new w5 (tbO x y A5 s.size s.size))
              have m0 := tb0 hb6
              have m1 := tb1 hb6
              have m2 := tb2 hb6
              clear b6 hb6 HT5 K5 k0 k1
              go_wp2_with (fail)
              refine (HGD.out w6 A5).mono ?_
              rintro e w7 ⟨rfl, b7⟩
              have HT7 := Lib.hid (HT6.out.step b7)
              clear b7 HT6
              go_wp2_with (fail)
              refine bodyPost_ret (results_tmp rfl _ _ _) rfl ?_
              exact ⟨rfl, HT7.out.below⟩
            · have HFM := Lib.hid (vecs_of_form W x y s hfx hfy hs)
              have e1 := IntWalk.wrap64_in (x * y) hbd
              have e2 : IntKind.i64.wrap (x * y) = x * y := IntWalk.i64_in _ hbd
              have t1 : ((s.size : Int) == x * y) = false := beq_eq_false_iff_ne.2 hs
              clear hs hp hx1 hx2 hy1 hy2 hbd hfx hfy
              generalize hq : x * y = q at e1 e2 t1
              unfold tbV tbA at HFM
              go_wp2_with (fail)
              refine HFM.out.mono ?_
              rintro e w5 ⟨rfl, b5⟩
              have HT5 := Lib.hid (HT.out.step b5)
              have k0 : (w5.alloc (.cells #[.int .i64 (0), .int .i64 (0), .slice none 0 0] 24)).cell? ⟨w.heap.size, 0, none⟩ = some (.int .i64 x) := tb0 (HT5.out.alloc _).blk
              have k1 : (w5.alloc (.cells #[.int .i64 (0), .int .i64 (0), .slice none 0 0] 24)).cell? ⟨w.heap.size, 1, none⟩ = some (.int .i64 y) := tb1 (HT5.out.alloc _).blk
              have hne := Nat.ne_of_lt HT5.out.lt
              clear b5 d0 d1 HT HFM
              go_wp2_with (fail)
              refine bodyPost_ret (results_tmp rfl _ _ _) rfl ?_
              exact ⟨rfl, (HT5.out.alloc _).below⟩
          · have r1 : decide (x ≤ at_) = false := decide_eq_false h1
            obtain ⟨rx, rfl⟩ : ∃ rx : Nat, x = (rx : Int) := ⟨x.toNat, by have := (goodB_iff.1 hg).1; omega⟩
            obtain ⟨ry, rfl⟩ : ∃ ry : Nat, y = (ry : Int) := ⟨y.toNat, by have := (goodB_iff.1 hg).2.1; omega⟩
            obtain ⟨k, rfl⟩ : ∃ k : Nat, at_ = (k : Int) := ⟨at_.toNat, by omega⟩
            have hk : k < rx := by omega
            obtain ⟨gx, gy, gn⟩ := goodB_iff.1 hg
            have hrx : rx ≤ 64 := by omega
            have hry : ry ≤ 64 := by omega
            have HXY := Lib.hid (show n = rx * ry by rw [← Int.natCast_mul] at gn; omega)
            have HRW := Lib.hid (table_row w5 rx ry k A n c D hg HDL.out hk HT1.out.nums HI8.out)
            have HRL := Lib.hid (rowD_length D ry k)
            have HRA := Lib.hid (rowD_at D ry k)
            have HKX := Lib.hid hk
            clear gx gy gn hg h0 h1
            generalize rowD D ry k = R at HRW HRL HRA
            unfold tbV tbA at HRW
            have d0 := tb0 HT1.out.blk
            have d1 := tb1 HT1.out.blk
            have d2 := tb2 HT1.out.blk
            have r2 : ((ry : Int) == (ry : Int)) = true := beq_self_eq_true _
            go_wp2_with (fail)
            refine HRW.out.mono ?_
            rintro e w6 ⟨G, cg, rfl, kg, b6⟩
            rw [HRL.out]
            have HT6 := Lib.hid (HT1.out.step b6)
            have KG := Lib.hid kg
            clear kg b6 HT1 d0 d1 d2 HRW
            have d0 := tb0 HT6.out.blk
            have d1 := tb1 HT6.out.blk
            have d2 := tb2 HT6.out.blk
            go_wp2_with (fail)
            go_loopw [11] (fun i wr => ∃ j d : Nat, i = .int .i64 (j : Int) ∧ j ≤ ry ∧ wr = w6.drewN d) (fun i _ => match i with | .int _ k => ry - k.toNat | _ => 0)
            case atStart => exact ⟨0, 0, rfl, Nat.zero_le _, rfl⟩
            case round =>
              obtain ⟨j, d', rfl, hj, rfl⟩ := hrel
              have x2 : 0 ≤ (j : Int) := by omega
              by_cases hlt : j < ry
              · have x0 : (j : Int) < (ry : Int) := by omega
                have x1 : decide ((j : Int) < (ry : Int)) = true := decide_eq_true x0
                have HJ := Lib.hid (show j + 1 ≤ ry by omega)
                obtain ⟨q1, q2⟩ := idx_lt HKX.out hlt HXY.out hrx hry
                have q3 : k * ry + j < D.length := by rw [HDL.out]; exact q1
                obtain ⟨pa, oa, rfl, hc1⟩ := HT6.out.nums.at q3
                obtain ⟨pg, og, rfl, hc2⟩ := KG.out.at (show j < R.length by rw [HRL.out]; exact hlt)
                rw [HRA.out j hlt] at hc2
                have e5 := HI8.out.wrap q3
                have y1 : 0 ≤ ((k * ry + j : Nat) : Int) := Int.natCast_nonneg _
                have y2 : ((k * ry + j : Nat) : Int) < (n : Int) := by omega
                have hm1 : k * ry < 1000000 := by omega
                have hm2 : k * ry + j < 1000000 := by omega
                have hm3 : -9223372036854775808 ≤ (j : Int) + 1 ∧ (j : Int) + 1 ≤ 9223372036854775807 := by omega
                have e1 := vc_mul_i k ry hm1
                have e2 := vc_mul_w k ry hm1
                have e3 := vc_add_i (k * ry) j hm2
                have e4 := vc_add_w (k * ry) j hm2
                have x3 := IntWalk.wrap64_in ((j : Int) + 1) hm3
                generalize D.getD (k * ry + j) 0 = z at hc1 hc2 e5
                generalize k * ry + j = m at hc1 y1 y2 e3 e4
                generalize k * ry = v at e1 e2 e3 e4
                have t5 : (z == z) = true := beq_self_eq_true _
                clear q1 q2 q3 hm1 hm2 hm3
                go_wp2_with (fail)
                go_quiet (fail)
                go_wp2_with (fail)
                exact ⟨⟨j + 1, _, rfl, HJ.out, rfl⟩, vc_less j ry hlt⟩
              · have hke : j = ry := by omega
                have x0 : ¬ (j : Int) < (ry : Int) := by omega
                have x1 : decide ((j : Int) < (ry : Int)) = false := decide_eq_false x0
                have HT := Lib.hid (HT6.out.drewN d')
                clear hke hlt hj x2 HT6 d0 d1 d2 KG
                generalize hW : w6.drewN d' = W at HT ⊢
                clear hW
                have d1 := tb1 HT.out.blk
                obtain ⟨hx1, hx2⟩ := fitB_iff.1 hfx
                obtain ⟨hy1, hy2⟩ := fitB_iff.1 hfy
                have hp := sides ⟨hx1, hx2⟩ ⟨hy1, hy2⟩
                have v1 : decide ((rx : Int) < 1) = false := decide_eq_false (by omega)
                have v2 : decide (64 < (rx : Int)) = false := decide_eq_false (by omega)
                have v3 : decide ((ry : Int) < 1) = false := decide_eq_false (by omega)
                have v4 : decide (64 < (ry : Int)) = false := decide_eq_false (by omega)
                have hbd : -9223372036854775808 ≤ (rx : Int) * (ry : Int) ∧ (rx : Int) * (ry : Int) ≤ 9223372036854775807 := by omega
                have d0 := tb0 HT.out.blk
                have d1 := tb1 HT.out.blk
                by_cases hs : (s.size : Int) = (rx : Int) * (ry : Int)
                · have HOK := Lib.hid (vecs_of_ok W (rx : Int) (ry : Int) s hfx hfy hs)
                  have HFIN := Lib.hid (fun W3 A3 (k3 : KIn .i8 W3 A3 (listD s)) => vecs_bytes W3 (rx : Int) (ry : Int) A3 s.size s.size (listD s) (listD_length s) hs2 k3)
                  have HGD := Lib.hid (fun W3 A3 => vecs_good (rx : Int) (ry : Int) A3 s.size s.size W3)
                  have HGO := Lib.hid (show goodB (rx : Int) (ry : Int) s.size = true from goodB_iff.2 ⟨⟨hx1, hx2⟩, ⟨hy1, hy2⟩, hs⟩)
                  rw [textD_listD] at HFIN
                  rw [HGO.out] at HGD
                  have e1 := IntWalk.wrap64_in ((rx : Int) * (ry : Int)) hbd
                  have e2 : IntKind.i64.wrap ((rx : Int) * (ry : Int)) = (rx : Int) * (ry : Int) := IntWalk.i64_in _ hbd
                  have t1 : ((s.size : Int) == (rx : Int) * (ry : Int)) = true := beq_iff_eq.2 hs
                  have t2 : ((rx : Int) == (rx : Int)) = true := beq_self_eq_true _
                  have t3 : ((ry : Int) == (ry : Int)) = true := beq_self_eq_true _
                  clear hs hp hx1 hx2 hy1 hy2 hbd HGO hfx hfy
                  generalize hq : (rx : Int) * (ry : Int) = q at e1 e2 t1
                  unfold tbV tbA at HOK HFIN HGD
                  go_wp2_with (fail)
                  refine HOK.out.mono ?_
                  rintro e w5 ⟨A5, rfl, k5, b5⟩
                  have HT5 := Lib.hid (HT.out.step b5)
                  have K5 := Lib.hid k5
                  have k0 : (w5.alloc (.cells #[.int .i64 ((rx : Int)), .int .i64 ((ry : Int)), .slice A5 s.size s.size] 24)).cell? ⟨w.heap.size, 0, none⟩ = some (.int .i64 (rx : Int)) := tb0 (HT5.out.alloc _).blk
                  have k1 : (w5.alloc (.cells #[.int .i64 ((rx : Int)), .int .i64 ((ry : Int)), .slice A5 s.size s.size] 24)).cell? ⟨w.heap.size, 1, none⟩ = some (.int .i64 (ry : Int)) := tb1 (HT5.out.alloc _).blk
                  have hne := Nat.ne_of_lt HT5.out.lt
                  clear b5 d0 d1 HT HOK k5
                  go_wp2_with (fail)
                  refine (HFIN.out _ A5 (K5.out.alloc _)).mono ?_
                  rintro e w6 ⟨rfl, b6⟩
                  have HT6 := Lib.hid ((HT5.out.alloc (tbO (rx : Int) (ry : Int) A5 s.size s.size)).step b6)
                  have hb6 := (b6.block w5.heap.size (by simp)).trans (heap_alloc_new w5 (tbO (rx : Int) (ry : Int) A5 s.size s.size))
                  have m0 := tb0 hb6
                  have m1 := tb1 hb6
                  have m2 := tb2 hb6
                  clear b6 hb6 HT5 K5 k0 k1
                  go_wp2_with (fail)
                  refine (HGD.out w6 A5).mono ?_
                  rintro e w7 ⟨rfl, b7⟩
                  have HT7 := Lib.hid (HT6.out.step b7)
                  clear b7 HT6
                  go_wp2_with (fail)
                  refine bodyPost_ret (results_tmp rfl _ _ _) rfl ?_
                  exact ⟨rfl, HT7.out.below⟩
                · have HFM := Lib.hid (vecs_of_form W (rx : Int) (ry : Int) s hfx hfy hs)
                  have e1 := IntWalk.wrap64_in ((rx : Int) * (ry : Int)) hbd
                  have e2 : IntKind.i64.wrap ((rx : Int) * (ry : Int)) = (rx : Int) * (ry : Int) := IntWalk.i64_in _ hbd
                  have t1 : ((s.size : Int) == (rx : Int) * (ry : Int)) = false := beq_eq_false_iff_ne.2 hs
                  clear hs hp hx1 hx2 hy1 hy2 hbd hfx hfy
                  generalize hq : (rx : Int) * (ry : Int) = q at e1 e2 t1
                  unfold tbV tbA at HFM
                  go_wp2_with (fail)
                  refine HFM.out.mono ?_
                  rintro e w5 ⟨rfl, b5⟩
                  have HT5 := Lib.hid (HT.out.step b5)
                  have k0 : (w5.alloc (.cells #[.int .i64 (0), .int .i64 (0), .slice none 0 0] 24)).cell? ⟨w.heap.size, 0, none⟩ = some (.int .i64 (rx : Int)) := tb0 (HT5.out.alloc _).blk
                  have k1 : (w5.alloc (.cells #[.int .i64 (0), .int .i64 (0), .slice none 0 0] 24)).cell? ⟨w.heap.size, 1, none⟩ = some (.int .i64 (ry : Int)) := tb1 (HT5.out.alloc _).blk
                  have hne := Nat.ne_of_lt HT5.out.lt
                  clear b5 d0 d1 HT HFM
                  go_wp2_with (fail)
                  refine bodyPost_ret (results_tmp rfl _ _ _) rfl ?_
                  exact ⟨rfl, (HT5.out.alloc _).below⟩
end Go.Proofs.Ytclobdeaocjnoaa.vecsTables
