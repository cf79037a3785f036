/-
  StepRuns: run at once, or one by one, in whatever parts, entries and scores are the same. The walk. Condition: the tables lie where they are looked up.
  StepRuns: run at once, or one by one, in whatever parts, entries and scores are the same. The walk, whole. Condition: the tables lie where they are looked up.
-/
import Derived.Test.YtijmjlognekcjaaDoorMg25
import Derived.Test.YtijmjlognekcjaaDoorMg11
import Derived.Test.YtijmjlognekcjaaDoorMg15
import Derived.Test.YtijmjlognekcjaaDoorMg12
import Derived.Test.YtijmjlognekcjaaDoorMg26
set_option maxRecDepth 100000
namespace Go.Proofs.YtijmjlognekcjaaDoor
open Go.ChangeShapes Go.WideShapes Go.ChangeAt Go.RowKit Cf Vc Br Nr Sf Ac Sp

namespace stepRuns
section
variable (w : World) (x : Cfg) (s : ByteArray) (T : Option Addr) (n c : Nat) (ts : List Int) (turn : Int) (hp : POn w) (hg : GOn w) (hts : ts.length = n) (hK : KIn .i64 w T ts)

set_option maxRecDepth 100000 in
set_option maxHeartbeats 1600000 in
include hp hg in
theorem leaf_big (h : 8 < n) : Calls Tryd.prog 3 #[cfV x, .string s, .slice T n c, .int .i64 turn] w fun e w' => e = .returned (.bool true) ∧ Below w.heap.size w w' := by
  have HAW := Lib.hid (fun W (hW : Below w.heap.size w W) => awake17 W (hp.below hW (Nat.le_refl _)) (hg.below hW (Nat.le_refl _)))
  have HB0 := Lib.hid ((Below.refl w.heap.size w).alloc (Nat.le_refl _) (cfO 23 x))
  have HH0 := Lib.hid (heap_alloc_new w (cfO 23 x))
  have t0 : 8 < (n : Int) := by omega
  have t1 : decide (8 < (n : Int)) = true := decide_eq_true t0
  clear hp hg h
  unfold cfV cfA at *
  go_enter Tryd.func3, Tryd.ntmps3
  go_wp2_with (fail)
  refine (HAW.out _ HB0.out).mono ?_
  rintro e w1 ⟨rfl, b1⟩
  have HB1 := Lib.hid (HB0.out.trans (b1.mono HB0.out.size))
  have HH1 := Lib.hid (Cf.stays HH0.out b1)
  clear b1 HAW HB0 HH0
  go_wp2_with (fail)
  exact bodyPost_ret (results_tmp rfl _ _ _) rfl ⟨rfl, HB1.out⟩

set_option maxRecDepth 100000 in
set_option maxHeartbeats 1600000 in
include hp hg in
theorem leaf_great (h : n ≤ 8) (hs : smallZ x = false) : Calls Tryd.prog 3 #[cfV x, .string s, .slice T n c, .int .i64 turn] w fun e w' => e = .returned (.bool true) ∧ Below w.heap.size w w' := by
  have HAW := Lib.hid (fun W (hW : Below w.heap.size w W) => awake17 W (hp.below hW (Nat.le_refl _)) (hg.below hW (Nat.le_refl _)))
  have HB0 := Lib.hid ((Below.refl w.heap.size w).alloc (Nat.le_refl _) (cfO 23 x))
  have HH0 := Lib.hid (heap_alloc_new w (cfO 23 x))
  have HSM := Lib.hid (fun W => small_any x W)
  rw [hs] at HSM
  have t0 : ¬ 8 < (n : Int) := by omega
  have t1 : decide (8 < (n : Int)) = false := decide_eq_false t0
  clear hp hg h hs
  unfold cfV cfA at *
  go_enter Tryd.func3, Tryd.ntmps3
  go_wp2_with (fail)
  refine (HAW.out _ HB0.out).mono ?_
  rintro e w1 ⟨rfl, b1⟩
  have HB1 := Lib.hid (HB0.out.trans (b1.mono HB0.out.size))
  have HH1 := Lib.hid (Cf.stays HH0.out b1)
  clear b1 HAW HB0 HH0
  obtain ⟨e0, e1, e2, e3, e4, e5⟩ := six HH1.out
  go_wp2_with (fail)
  refine (HSM.out _).mono ?_
  rintro e w2 ⟨rfl, b2⟩
  have HB2 := Lib.hid (HB1.out.trans (b2.mono HB1.out.size))
  have HH2 := Lib.hid (Cf.stays HH1.out b2)
  clear b2 e0 e1 e2 e3 e4 e5 HB1 HH1
  go_wp2_with (fail)
  exact bodyPost_ret (results_tmp rfl _ _ _) rfl ⟨rfl, HB2.out⟩

set_option maxRecDepth 100000 in
set_option maxHeartbeats 1600000 in
include hp hg in
theorem leaf_long (h : n ≤ 8) (hs : smallZ x = true) (hl : 2048 < s.size) : Calls Tryd.prog 3 #[cfV x, .string s, .slice T n c, .int .i64 turn] w fun e w' => e = .returned (.bool true) ∧ Below w.heap.size w w' := by
  have HAW := Lib.hid (fun W (hW : Below w.heap.size w W) => awake17 W (hp.below hW (Nat.le_refl _)) (hg.below hW (Nat.le_refl _)))
  have HB0 := Lib.hid ((Below.refl w.heap.size w).alloc (Nat.le_refl _) (cfO 23 x))
  have HH0 := Lib.hid (heap_alloc_new w (cfO 23 x))
  have HSM := Lib.hid (fun W => small_any x W)
  rw [hs] at HSM
  have t0 : ¬ 8 < (n : Int) := by omega
  have t1 : decide (8 < (n : Int)) = false := decide_eq_false t0
  have t2 : 2048 < (s.size : Int) := by omega
  have t3 : decide (2048 < (s.size : Int)) = true := decide_eq_true t2
  clear hp hg h hs hl
  unfold cfV cfA at *
  go_enter Tryd.func3, Tryd.ntmps3
  go_wp2_with (fail)
  refine (HAW.out _ HB0.out).mono ?_
  rintro e w1 ⟨rfl, b1⟩
  have HB1 := Lib.hid (HB0.out.trans (b1.mono HB0.out.size))
  have HH1 := Lib.hid (Cf.stays HH0.out b1)
  clear b1 HAW HB0 HH0
  obtain ⟨e0, e1, e2, e3, e4, e5⟩ := six HH1.out
  go_wp2_with (fail)
  refine (HSM.out _).mono ?_
  rintro e w2 ⟨rfl, b2⟩
  have HB2 := Lib.hid (HB1.out.trans (b2.mono HB1.out.size))
  have HH2 := Lib.hid (Cf.stays HH1.out b2)
  clear b2 e0 e1 e2 e3 e4 e5 HB1 HH1
  go_wp2_with (fail)
  exact bodyPost_ret (results_tmp rfl _ _ _) rfl ⟨rfl, HB2.out⟩

set_option maxRecDepth 100000 in
set_option maxHeartbeats 1600000 in
include hp hg in
theorem leaf_no (h : n ≤ 8) (hs : smallZ x = true) (hl : s.size ≤ 2048) (hk : ¬ Ok x s) : Calls Tryd.prog 3 #[cfV x, .string s, .slice T n c, .int .i64 turn] w fun e w' => e = .returned (.bool true) ∧ Below w.heap.size w w' := by
  obtain ⟨m, hm, ho⟩ : ∃ m : Int, m ≠ 0 ∧ ∀ W, Calls Tryd.prog 7 #[cfV x, .string s] W fun e w' => e = .returned (.tuple #[.pointer none, .int .i64 m]) ∧ Below W.heap.size W w' := by
    cases hgz : goodZ x with
    | false => exact ⟨1, by decide, fun W => brain_of_arg W x s hgz⟩
    | true => exact ⟨5, by decide, fun W => brain_of_form W x s hgz fun hs => hk ⟨good_iff.1 hgz, hs⟩⟩
  have HO := Lib.hid ho
  have t4 : (m != 0) = true := bne_iff_ne.2 hm
  have HAW := Lib.hid (fun W (hW : Below w.heap.size w W) => awake17 W (hp.below hW (Nat.le_refl _)) (hg.below hW (Nat.le_refl _)))
  have HB0 := Lib.hid ((Below.refl w.heap.size w).alloc (Nat.le_refl _) (cfO 23 x))
  have HH0 := Lib.hid (heap_alloc_new w (cfO 23 x))
  have HSM := Lib.hid (fun W => small_any x W)
  rw [hs] at HSM
  have t0 : ¬ 8 < (n : Int) := by omega
  have t1 : decide (8 < (n : Int)) = false := decide_eq_false t0
  have t2 : ¬ 2048 < (s.size : Int) := by omega
  have t3 : decide (2048 < (s.size : Int)) = false := decide_eq_false t2
  clear hp hg h hs hl hk ho hm
  unfold cfV cfA at *
  go_enter Tryd.func3, Tryd.ntmps3
  go_wp2_with (fail)
  refine (HAW.out _ HB0.out).mono ?_
  rintro e w1 ⟨rfl, b1⟩
  have HB1 := Lib.hid (HB0.out.trans (b1.mono HB0.out.size))
  have HH1 := Lib.hid (Cf.stays HH0.out b1)
  clear b1 HAW HB0 HH0
  obtain ⟨e0, e1, e2, e3, e4, e5⟩ := six HH1.out
  go_wp2_with (fail)
  refine (HSM.out _).mono ?_
  rintro e w2 ⟨rfl, b2⟩
  have HB2 := Lib.hid (HB1.out.trans (b2.mono HB1.out.size))
  have HH2 := Lib.hid (Cf.stays HH1.out b2)
  clear b2 e0 e1 e2 e3 e4 e5 HB1 HH1
  obtain ⟨e0, e1, e2, e3, e4, e5⟩ := six HH2.out
  go_wp2_with (fail)
  refine (HO.out _).mono ?_
  rintro e w3 ⟨rfl, b3⟩
  have HB3 := Lib.hid (HB2.out.trans (b3.mono HB2.out.size))
  clear b3
  go_wp2_with (fail)
  exact bodyPost_ret (results_tmp rfl _ _ _) rfl ⟨rfl, HB3.out⟩

set_option maxRecDepth 100000 in
set_option maxHeartbeats 6400000 in
include hp hg hts hK in
theorem leaf_bad (h : n ≤ 8) (hs : smallZ x = true) (hl : s.size ≤ 2048) (hk : Ok x s) (he : errR x [] ts ≠ 0) : Calls Tryd.prog 3 #[cfV x, .string s, .slice T n c, .int .i64 turn] w fun e w' => e = .returned (.bool true) ∧ Below w.heap.size w w' := by
  have HO := Lib.hid (fun W => brain_of W x s hk)
  have HAW := Lib.hid (fun W (hW : Below w.heap.size w W) => awake17 W (hp.below hW (Nat.le_refl _)) (hg.below hW (Nat.le_refl _)))
  have HB0 := Lib.hid ((Below.refl w.heap.size w).alloc (Nat.le_refl _) (cfO 23 x))
  have HH0 := Lib.hid (heap_alloc_new w (cfO 23 x))
  have HSM := Lib.hid (fun W => small_any x W)
  rw [hs] at HSM
  have t0 : ¬ 8 < (n : Int) := by omega
  have t1 : decide (8 < (n : Int)) = false := decide_eq_false t0
  have t2 : ¬ 2048 < (s.size : Int) := by omega
  have t3 : decide (2048 < (s.size : Int)) = false := decide_eq_false t2
  have HRN := Lib.hid (fun W b (hW : Below w.heap.size w W) (hb : W.heap[b]? = some (brO x s)) => step_run_not W none 0 0 [] T n c ts b x s hb hk rfl (by omega) (noEs W) hts (by omega) (hK.below hW (Nat.le_refl _)) he)
  have HKT := Lib.hid (fun W (hW : Below w.heap.size w W) => hK.below hW (Nat.le_refl _))
  have HBD := Lib.hid (bad_of he)
  have HTL := Lib.hid hts
  have HN8 := Lib.hid h
  have t4 : (errR x (past []) ts != 0) = true := bne_iff_ne.2 he
  obtain ⟨B0, hB0, hc0⟩ : ∃ B0 : Bool, B0 = (decide (ts = []) || decide (x.c < (ts.length : Int))) ∧ ((((n : Int) == 0) = true ∧ B0 = true) ∨ (((n : Int) == 0) = false ∧ x.c < (n : Int) ∧ decide (x.c < (n : Int)) = true ∧ B0 = true) ∨ (((n : Int) == 0) = false ∧ ¬ x.c < (n : Int) ∧ decide (x.c < (n : Int)) = false ∧ B0 = false)) := by
    refine ⟨_, rfl, ?_⟩
    have e1 : decide (ts = []) = decide (n = 0) := by
      rw [← hts]
      simp [List.length_eq_zero_iff]
    rw [e1, hts]
    by_cases h0 : n = 0
    · exact .inl ⟨by simp [h0], by simp [h0]⟩
    · by_cases h1 : x.c < (n : Int)
      · exact .inr (.inl ⟨beq_eq_false_iff_ne.2 (by omega), h1, decide_eq_true h1, by simp [h1]⟩)
      · exact .inr (.inr ⟨beq_eq_false_iff_ne.2 (by omega), h1, decide_eq_false h1, by simp [h0, h1]⟩)
  rw [← hB0] at HBD
  clear hp hg h hs hl hk he hts hK hB0
  rcases hc0 with ⟨c0, rfl⟩ | ⟨c0, c1, c2, rfl⟩ | ⟨c0, c1, c2, rfl⟩
  · unfold cfV cfA at *
    go_enter Tryd.func3, Tryd.ntmps3
    go_wp2_with (fail)
    refine (HAW.out _ HB0.out).mono ?_
    rintro e w1 ⟨rfl, b1⟩
    have HB1 := Lib.hid (HB0.out.trans (b1.mono HB0.out.size))
    have HH1 := Lib.hid (Cf.stays HH0.out b1)
    clear b1 HAW HB0 HH0
    obtain ⟨e0, e1, e2, e3, e4, e5⟩ := six HH1.out
    go_wp2_with (fail)
    refine (HSM.out _).mono ?_
    rintro e w2 ⟨rfl, b2⟩
    have HB2 := Lib.hid (HB1.out.trans (b2.mono HB1.out.size))
    have HH2 := Lib.hid (Cf.stays HH1.out b2)
    clear b2 e0 e1 e2 e3 e4 e5 HB1 HH1
    obtain ⟨e0, e1, e2, e3, e4, e5⟩ := six HH2.out
    go_wp2_with (fail)
    refine (HO.out _).mono ?_
    rintro e w3 ⟨b, rfl, hb, hh, b3⟩
    have HB3 := Lib.hid (HB2.out.trans (b3.mono HB2.out.size))
    have HH3 := Lib.hid (Cf.stays HH2.out b3)
    have HR3 := Lib.hid hh
    clear b3 hb hh e0 e1 e2 e3 e4 e5 HB2 HH2 HO HSM
    go_wp2_with (fail)
    refine (HRN.out _ _ HB3.out HR3.out).mono ?_
    rintro e w4 ⟨rfl, b4⟩
    have HB4 := Lib.hid (HB3.out.trans (b4.mono HB3.out.size))
    have HH4 := Lib.hid (Cf.stays HH3.out b4)
    obtain ⟨e0, e1, e2, e3, e4, e5⟩ := six HH4.out
    clear b4 HB3 HH3 HR3 HRN
    go_wp2_with (fail)
    go_loopw [14, 15] (fun bv i wr => ∃ (j d : Nat), bv = .bool (true || (ts.take j).any (fun z => !tokB x z)) ∧ i = .int .i64 (j : Int) ∧ j ≤ n ∧ wr = w4.drewN d) (fun _ i _ => match i with | .int _ k => n - k.toNat | _ => 0)
    case atStart => exact ⟨0, 0, by rfl, rfl, Nat.zero_le _, rfl⟩
    case round =>
      obtain ⟨j, d, rfl, rfl, hj, rfl⟩ := hrel
      have x2 : 0 ≤ (j : Int) := by omega
      by_cases hlt : j < n
      · have x0 : (j : Int) < (n : Int) := by omega
        have x1 : decide ((j : Int) < (n : Int)) = true := decide_eq_true x0
        have HLT := Lib.hid hlt
        obtain ⟨pa, oa, rfl, hc1⟩ := (HKT.out _ HB4.out).at (show j < ts.length by rw [HTL.out]; exact hlt)
        have HAX := Lib.hid (any_more x (j := j) (ts := ts) (by rw [HTL.out]; exact hlt))
        have x3 := IntWalk.wrap64_in ((j : Int) + 1) (by have := HN8.out; omega)
        generalize ts.getD j 0 = z at hc1 HAX
        generalize hbj : (true || (ts.take j).any (fun z => !tokB x z)) = bj
        have HBJ := Lib.hid hbj
        clear hbj
        cases bj with
        | true =>
          have HNX := Lib.hid (show true = (true || (ts.take (j + 1)).any (fun z => !tokB x z)) from by rw [HAX.out, ← Bool.or_assoc, HBJ.out]; rfl)
          go_wp2_with (fail)
          go_quiet (fail)
          go_wp2_with (fail)
          try rw [x3]
          exact ⟨⟨j + 1, _, by rw [← HNX.out], rfl, HLT.out, rfl⟩, vcLess j n HLT.out⟩
        | false =>
          by_cases hz : z < 0
          · have t5 : decide (z < 0) = true := decide_eq_true hz
            have HNX := Lib.hid (show true = (true || (ts.take (j + 1)).any (fun z => !tokB x z)) from by rw [HAX.out, ← Bool.or_assoc, HBJ.out]; unfold tokB; rw [decide_eq_false (show ¬ 0 ≤ z by omega)]; rfl)
            go_wp2_with (fail)
            go_quiet (fail)
            go_wp2_with (fail)
            try rw [x3]
            exact ⟨⟨j + 1, _, by rw [← HNX.out], rfl, HLT.out, rfl⟩, vcLess j n HLT.out⟩
          · have t5 : decide (z < 0) = false := decide_eq_false hz
            have HNX := Lib.hid (show decide (x.v ≤ z) = (true || (ts.take (j + 1)).any (fun z => !tokB x z)) from by rw [HAX.out, ← Bool.or_assoc, HBJ.out]; unfold tokB; rw [decide_eq_true (show 0 ≤ z by omega)]; by_cases hv : z < x.v <;> simp [hv] <;> omega)
            go_wp2_with (fail)
            go_quiet (fail)
            go_wp2_with (fail)
            try rw [x3]
            exact ⟨⟨j + 1, _, by rw [← HNX.out], rfl, HLT.out, rfl⟩, vcLess j n HLT.out⟩
      · have hke : j = n := by omega
        have x0 : ¬ (j : Int) < (n : Int) := by omega
        have x1 : decide ((j : Int) < (n : Int)) = false := decide_eq_false x0
        have hall : (true || (ts.take j).any (fun z => !tokB x z)) = true := by rw [hke, ← HTL.out, List.take_length]; exact HBD.out
        rw [hall]
        clear hke hlt hall
        go_wp2_with (fail)
        exact bodyPost_ret (results_tmp rfl _ _ _) rfl ⟨rfl, below_drewN HB4.out d⟩
  · unfold cfV cfA at *
    go_enter Tryd.func3, Tryd.ntmps3
    go_wp2_with (fail)
    refine (HAW.out _ HB0.out).mono ?_
    rintro e w1 ⟨rfl, b1⟩
    have HB1 := Lib.hid (HB0.out.trans (b1.mono HB0.out.size))
    have HH1 := Lib.hid (Cf.stays HH0.out b1)
    clear b1 HAW HB0 HH0
    obtain ⟨e0, e1, e2, e3, e4, e5⟩ := six HH1.out
    go_wp2_with (fail)
    refine (HSM.out _).mono ?_
    rintro e w2 ⟨rfl, b2⟩
    have HB2 := Lib.hid (HB1.out.trans (b2.mono HB1.out.size))
    have HH2 := Lib.hid (Cf.stays HH1.out b2)
    clear b2 e0 e1 e2 e3 e4 e5 HB1 HH1
    obtain ⟨e0, e1, e2, e3, e4, e5⟩ := six HH2.out
    go_wp2_with (fail)
    refine (HO.out _).mono ?_
    rintro e w3 ⟨b, rfl, hb, hh, b3⟩
    have HB3 := Lib.hid (HB2.out.trans (b3.mono HB2.out.size))
    have HH3 := Lib.hid (Cf.stays HH2.out b3)
    have HR3 := Lib.hid hh
    clear b3 hb hh e0 e1 e2 e3 e4 e5 HB2 HH2 HO HSM
    go_wp2_with (fail)
    refine (HRN.out _ _ HB3.out HR3.out).mono ?_
    rintro e w4 ⟨rfl, b4⟩
    have HB4 := Lib.hid (HB3.out.trans (b4.mono HB3.out.size))
    have HH4 := Lib.hid (Cf.stays HH3.out b4)
    obtain ⟨e0, e1, e2, e3, e4, e5⟩ := six HH4.out
    clear b4 HB3 HH3 HR3 HRN
    go_wp2_with (fail)
    go_loopw [14, 15] (fun bv i wr => ∃ (j d : Nat), bv = .bool (true || (ts.take j).any (fun z => !tokB x z)) ∧ i = .int .i64 (j : Int) ∧ j ≤ n ∧ wr = w4.drewN d) (fun _ i _ => match i with | .int _ k => n - k.toNat | _ => 0)
    case atStart => exact ⟨0, 0, by rfl, rfl, Nat.zero_le _, rfl⟩
    case round =>
      obtain ⟨j, d, rfl, rfl, hj, rfl⟩ := hrel
      have x2 : 0 ≤ (j : Int) := by omega
      by_cases hlt : j < n
      · have x0 : (j : Int) < (n : Int) := by omega
        have x1 : decide ((j : Int) < (n : Int)) = true := decide_eq_true x0
        have HLT := Lib.hid hlt
        obtain ⟨pa, oa, rfl, hc1⟩ := (HKT.out _ HB4.out).at (show j < ts.length by rw [HTL.out]; exact hlt)
        have HAX := Lib.hid (any_more x (j := j) (ts := ts) (by rw [HTL.out]; exact hlt))
        have x3 := IntWalk.wrap64_in ((j : Int) + 1) (by have := HN8.out; omega)
        generalize ts.getD j 0 = z at hc1 HAX
        generalize hbj : (true || (ts.take j).any (fun z => !tokB x z)) = bj
        have HBJ := Lib.hid hbj
        clear hbj
        cases bj with
        | true =>
          have HNX := Lib.hid (show true = (true || (ts.take (j + 1)).any (fun z => !tokB x z)) from by rw [HAX.out, ← Bool.or_assoc, HBJ.out]; rfl)
          go_wp2_with (fail)
          go_quiet (fail)
          go_wp2_with (fail)
          try rw [x3]
          exact ⟨⟨j + 1, _, by rw [← HNX.out], rfl, HLT.out, rfl⟩, vcLess j n HLT.out⟩
        | false =>
          by_cases hz : z < 0
          · have t5 : decide (z < 0) = true := decide_eq_true hz
            have HNX := Lib.hid (show true = (true || (ts.take (j + 1)).any (fun z => !tokB x z)) from by rw [HAX.out, ← Bool.or_assoc, HBJ.out]; unfold tokB; rw [decide_eq_false (show ¬ 0 ≤ z by omega)]; rfl)
            go_wp2_with (fail)
            go_quiet (fail)
            go_wp2_with (fail)
            try rw [x3]
            exact ⟨⟨j + 1, _, by rw [← HNX.out], rfl, HLT.out, rfl⟩, vcLess j n HLT.out⟩
          · have t5 : decide (z < 0) = false := decide_eq_false hz
            have HNX := Lib.hid (show decide (x.v ≤ z) = (true || (ts.take (j + 1)).any (fun z => !tokB x z)) from by rw [HAX.out, ← Bool.or_assoc, HBJ.out]; unfold tokB; rw [decide_eq_true (show 0 ≤ z by omega)]; by_cases hv : z < x.v <;> simp [hv] <;> omega)
            go_wp2_with (fail)
            go_quiet (fail)
            go_wp2_with (fail)
            try rw [x3]
            exact ⟨⟨j + 1, _, by rw [← HNX.out], rfl, HLT.out, rfl⟩, vcLess j n HLT.out⟩
      · have hke : j = n := by omega
        have x0 : ¬ (j : Int) < (n : Int) := by omega
        have x1 : decide ((j : Int) < (n : Int)) = false := decide_eq_false x0
        have hall : (true || (ts.take j).any (fun z => !tokB x z)) = true := by rw [hke, ← HTL.out, List.take_length]; exact HBD.out
        rw [hall]
        clear hke hlt hall
        go_wp2_with (fail)
        exact bodyPost_ret (results_tmp rfl _ _ _) rfl ⟨rfl, below_drewN HB4.out d⟩
  · unfold cfV cfA at *
    go_enter Tryd.func3, Tryd.ntmps3
    go_wp2_with (fail)
    refine (HAW.out _ HB0.out).mono ?_
    rintro e w1 ⟨rfl, b1⟩
    have HB1 := Lib.hid (HB0.out.trans (b1.mono HB0.out.size))
    have HH1 := Lib.hid (Cf.stays HH0.out b1)
    clear b1 HAW HB0 HH0
    obtain ⟨e0, e1, e2, e3, e4, e5⟩ := six HH1.out
    go_wp2_with (fail)
    refine (HSM.out _).mono ?_
    rintro e w2 ⟨rfl, b2⟩
    have HB2 := Lib.hid (HB1.out.trans (b2.mono HB1.out.size))
    have HH2 := Lib.hid (Cf.stays HH1.out b2)
    clear b2 e0 e1 e2 e3 e4 e5 HB1 HH1
    obtain ⟨e0, e1, e2, e3, e4, e5⟩ := six HH2.out
    go_wp2_with (fail)
    refine (HO.out _).mono ?_
    rintro e w3 ⟨b, rfl, hb, hh, b3⟩
    have HB3 := Lib.hid (HB2.out.trans (b3.mono HB2.out.size))
    have HH3 := Lib.hid (Cf.stays HH2.out b3)
    have HR3 := Lib.hid hh
    clear b3 hb hh e0 e1 e2 e3 e4 e5 HB2 HH2 HO HSM
    go_wp2_with (fail)
    refine (HRN.out _ _ HB3.out HR3.out).mono ?_
    rintro e w4 ⟨rfl, b4⟩
    have HB4 := Lib.hid (HB3.out.trans (b4.mono HB3.out.size))
    have HH4 := Lib.hid (Cf.stays HH3.out b4)
    obtain ⟨e0, e1, e2, e3, e4, e5⟩ := six HH4.out
    clear b4 HB3 HH3 HR3 HRN
    go_wp2_with (fail)
    go_loopw [14, 15] (fun bv i wr => ∃ (j d : Nat), bv = .bool (false || (ts.take j).any (fun z => !tokB x z)) ∧ i = .int .i64 (j : Int) ∧ j ≤ n ∧ wr = w4.drewN d) (fun _ i _ => match i with | .int _ k => n - k.toNat | _ => 0)
    case atStart => exact ⟨0, 0, by rfl, rfl, Nat.zero_le _, rfl⟩
    case round =>
      obtain ⟨j, d, rfl, rfl, hj, rfl⟩ := hrel
      have x2 : 0 ≤ (j : Int) := by omega
      by_cases hlt : j < n
      · have x0 : (j : Int) < (n : Int) := by omega
        have x1 : decide ((j : Int) < (n : Int)) = true := decide_eq_true x0
        have HLT := Lib.hid hlt
        obtain ⟨pa, oa, rfl, hc1⟩ := (HKT.out _ HB4.out).at (show j < ts.length by rw [HTL.out]; exact hlt)
        have HAX := Lib.hid (any_more x (j := j) (ts := ts) (by rw [HTL.out]; exact hlt))
        have x3 := IntWalk.wrap64_in ((j : Int) + 1) (by have := HN8.out; omega)
        generalize ts.getD j 0 = z at hc1 HAX
        generalize hbj : (false || (ts.take j).any (fun z => !tokB x z)) = bj
        have HBJ := Lib.hid hbj
        clear hbj
        cases bj with
        | true =>
          have HNX := Lib.hid (show true = (false || (ts.take (j + 1)).any (fun z => !tokB x z)) from by rw [HAX.out, ← Bool.or_assoc, HBJ.out]; rfl)
          go_wp2_with (fail)
          go_quiet (fail)
          go_wp2_with (fail)
          try rw [x3]
          exact ⟨⟨j + 1, _, by rw [← HNX.out], rfl, HLT.out, rfl⟩, vcLess j n HLT.out⟩
        | false =>
          by_cases hz : z < 0
          · have t5 : decide (z < 0) = true := decide_eq_true hz
            have HNX := Lib.hid (show true = (false || (ts.take (j + 1)).any (fun z => !tokB x z)) from by rw [HAX.out, ← Bool.or_assoc, HBJ.out]; unfold tokB; rw [decide_eq_false (show ¬ 0 ≤ z by omega)]; rfl)
            go_wp2_with (fail)
            go_quiet (fail)
            go_wp2_with (fail)
            try rw [x3]
            exact ⟨⟨j + 1, _, by rw [← HNX.out], rfl, HLT.out, rfl⟩, vcLess j n HLT.out⟩
          · have t5 : decide (z < 0) = false := decide_eq_false hz
            have HNX := Lib.hid (show decide (x.v ≤ z) = (false || (ts.take (j + 1)).any (fun z => !tokB x z)) from by rw [HAX.out, ← Bool.or_assoc, HBJ.out]; unfold tokB; rw [decide_eq_true (show 0 ≤ z by omega)]; by_cases hv : z < x.v <;> simp [hv] <;> omega)
            go_wp2_with (fail)
            go_quiet (fail)
            go_wp2_with (fail)
            try rw [x3]
            exact ⟨⟨j + 1, _, by rw [← HNX.out], rfl, HLT.out, rfl⟩, vcLess j n HLT.out⟩
      · have hke : j = n := by omega
        have x0 : ¬ (j : Int) < (n : Int) := by omega
        have x1 : decide ((j : Int) < (n : Int)) = false := decide_eq_false x0
        have hall : (false || (ts.take j).any (fun z => !tokB x z)) = true := by rw [hke, ← HTL.out, List.take_length]; exact HBD.out
        rw [hall]
        clear hke hlt hall
        go_wp2_with (fail)
        exact bodyPost_ret (results_tmp rfl _ _ _) rfl ⟨rfl, below_drewN HB4.out d⟩

end
end stepRuns
end Go.Proofs.YtijmjlognekcjaaDoor
namespace Go.Proofs.YtijmjlognekcjaaDoor
open Go.ChangeShapes Go.WideShapes Go.ChangeAt Go.RowKit Cf Vc Br Nr Sf Ac Sp

namespace stepRuns
theorem walk (w : World) (x : Cfg) (s : ByteArray) (T : Option Addr) (n c : Nat) (ts : List Int) (turn : Int) (hts : ts.length = n) (hK : KIn .i64 w T ts) (hcap : n ≤ c) (hT : POn w ∧ GOn w) : Calls Tryd.prog 3 #[cfV x, .string s, .slice T n c, .int .i64 turn] w fun e w' => e = .returned (.bool true) ∧ Below w.heap.size w w' := by
  obtain ⟨hp, hg⟩ := hT
  by_cases h : n ≤ 8
  · cases hs : smallZ x with
    | false => exact leaf_great w x s T n c turn hp hg h hs
    | true =>
      by_cases hl : s.size ≤ 2048
      · by_cases hk : Ok x s
        · by_cases he : errR x [] ts = 0
          · exact leaf_ok w x s T n c ts turn hp hg hts hK hcap h hs hl hk he
          · exact leaf_bad w x s T n c ts turn hp hg hts hK h hs hl hk he
        · exact leaf_no w x s T n c turn hp hg h hs hl hk
      · exact leaf_long w x s T n c turn hp hg h hs (by omega)
  · exact leaf_big w x s T n c turn hp hg (by omega)
end stepRuns
end Go.Proofs.YtijmjlognekcjaaDoor
