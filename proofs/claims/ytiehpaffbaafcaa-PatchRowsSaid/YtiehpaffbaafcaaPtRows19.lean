/-
  PatchRows: deeds one behind the other come to what each comes to, one behind the other. The walk. Conditions: none.
-/
import Derived.Test.YtiehpaffbaafcaaPtLaw19
import Derived.Test.YtiehpaffbaafcaaAppEvery
namespace Go.Proofs.Ytiehpaffbaafcaa
open Go.ChangeShapes Go.WideShapes Go.ChangeAt Go.RowKit Pn Pt

namespace patchRows
theorem cat_text (x y : List UInt8) : (⟨(x ++ y).toArray⟩ : ByteArray) = ⟨x.toArray⟩ ++ ⟨y.toArray⟩ := by
  apply ByteArray.ext
  simp [ByteArray.data_append]
theorem text_size (x : List UInt8) : (⟨x.toArray⟩ : ByteArray).size = x.length := List.size_toArray
set_option maxRecDepth 100000 in
set_option maxHeartbeats 6400000 in
theorem walk (b : ByteArray) (A : Option Addr) (n c : Nat) (L : List Deed) (B : Option Addr) (m d : Nat) (M : List Deed) (w : World) (hL : L.length = n) (hn : n ≤ maxLen) (hA : DIn w A L) (hM : M.length = m) (hm : m ≤ maxLen) (hB : DIn w B M) :
    Calls Try.prog 4 #[.string b, .slice A n c, .slice B m d] w fun e w' => e = .returned (.bool true) ∧ Below w.heap.size w w' := by
  have HAW := Lib.hid (awake19 w)
  have HGA := Lib.hid (fun (W : World) (h : Below w.heap.size w W) => pt_great W A n c L hL hn (hA.below h (Nat.le_refl _)))
  have HGB := Lib.hid (fun (W : World) (h : Below w.heap.size w W) => pt_great W B m d M hM hm (hB.below h (Nat.le_refl _)))
  have HL := Lib.hid hL
  have HM := Lib.hid hM
  have HA := Lib.hid hA
  have HB := Lib.hid hB
  clear hL hM hA hB hn hm
  by_cases hb : 512 < b.size
  · have y0 : 512 < (b.size : Int) := by omega
    have y1 : decide (512 < (b.size : Int)) = true := decide_eq_true y0
    go_enter Try.func4, Try.ntmps4
    go_wp2_with (fail)
    refine HAW.out.mono ?_
    rintro e w1 ⟨rfl, b1⟩
    go_wp2_with (fail)
    exact bodyPost_ret (results_tmp rfl _ _ _) rfl ⟨rfl, b1⟩
  have y0 : ¬ 512 < (b.size : Int) := by omega
  have y1 : decide (512 < (b.size : Int)) = false := decide_eq_false y0
  have HBS := Lib.hid (show b.size ≤ 1073741824 by omega)
  clear hb
  go_enter Try.func4, Try.ntmps4
  go_wp2_with (fail)
  refine HAW.out.mono ?_
  rintro e w1 ⟨rfl, b1⟩
  have B1 := Lib.hid b1
  clear b1 HAW
  go_wp2_with (fail)
  refine (HGA.out w1 B1.out).mono ?_
  rintro e w2 ⟨g1, rfl, rfl⟩
  cases g1 with
  | true =>
    go_wp2_with (fail)
    exact bodyPost_ret (results_tmp rfl _ _ _) rfl ⟨rfl, B1.out⟩
  | false =>
  go_wp2_with (fail)
  refine (HGB.out w1 B1.out).mono ?_
  rintro e w2 ⟨g1, rfl, rfl⟩
  cases g1 with
  | true =>
    go_wp2_with (fail)
    exact bodyPost_ret (results_tmp rfl _ _ _) rfl ⟨rfl, B1.out⟩
  | false =>
  clear HGA HGB
  by_cases hn : 10 < n
  · have x0 : 10 < (n : Int) := by omega
    have x1 : decide (10 < (n : Int)) = true := decide_eq_true x0
    go_wp2_with (fail)
    exact bodyPost_ret (results_tmp rfl _ _ _) rfl ⟨rfl, B1.out⟩
  have x0 : ¬ 10 < (n : Int) := by omega
  have x1 : decide (10 < (n : Int)) = false := decide_eq_false x0
  by_cases hm : 10 < m
  · have z0 : 10 < (m : Int) := by omega
    have z1 : decide (10 < (m : Int)) = true := decide_eq_true z0
    go_wp2_with (fail)
    exact bodyPost_ret (results_tmp rfl _ _ _) rfl ⟨rfl, B1.out⟩
  have z0 : ¬ 10 < (m : Int) := by omega
  have z1 : decide (10 < (m : Int)) = false := decide_eq_false z0
  have HN := Lib.hid (show n ≤ 10 ∧ m ≤ 10 by omega)
  have HP1 := Lib.hid (fun (W : World) (h : Below w.heap.size w W) => pt_apply W b HBS.out A n c L HL.out (by have := HN.out; omega) (HA.out.below h (Nat.le_refl _)))
  have HP2 := Lib.hid (fun (W : World) (h : Below w.heap.size w W) => pt_apply W b HBS.out B m d M HM.out (by have := HN.out; omega) (HB.out.below h (Nat.le_refl _)))
  have HP3 := Lib.hid (fun (W : World) (G : Option Addr) (cg : Nat) (h : DIn W G (L ++ M)) => pt_apply W b HBS.out G (n + m) cg (L ++ M) (by rw [List.length_append, HL.out, HM.out]) (by have := HN.out; omega) h)
  have HLAW := Lib.hid (rows_law b L M)
  have HSX := Lib.hid (app_size b L [] (Nat.zero_le _))
  have HSY := Lib.hid (app_size b M [] (Nat.zero_le _))
  generalize appD b [] L = X at HP1 HLAW HSX
  generalize appD b [] M = Y at HP2 HLAW HSY
  generalize appD b [] (L ++ M) = Z at HP3 HLAW
  obtain ⟨x, e1⟩ := X
  obtain ⟨y, e2⟩ := Y
  obtain ⟨z, e3⟩ := Z
  simp only at HP1 HP2 HP3 HLAW HSX HSY
  obtain ⟨i0, hi, hz0, hz1, hz2⟩ := info_parts info_op
  have HI := Lib.hid hi
  have HZ0 := Lib.hid hz0
  have HZ1 := Lib.hid hz1
  have HZ2 := Lib.hid hz2
  clear hi hz0 hz1 hz2 hn hm
  go_wp2_with (fail)
  refine (HP1.out w1 B1.out).mono ?_
  rintro e w2 ⟨rfl, b2⟩
  have B2 := Lib.hid (B1.out.trans (b2.mono B1.out.size))
  clear b2 HP1
  go_wp2_with (fail)
  refine (HP2.out w2 B2.out).mono ?_
  rintro e w3 ⟨rfl, b3⟩
  have B3 := Lib.hid (B2.out.trans (b3.mono B2.out.size))
  clear b3 HP2 B2 B1
  have HO0 := Lib.hid (show (w3.alloc (.cells #[] 42)).ownsRow w3.heap.size 42 4 (.slice (some ⟨w3.heap.size, 0, none⟩) 0 0) 0 [] from by
    have := World.ownsRow_made (e := 42) (size := 4) w3 #[] 0 (base := w3.heap.size) (Nat.le_refl _) (Nat.zero_le _) rfl
    simpa using this)
  have HA3 := Lib.hid ((HA.out.below B3.out (Nat.le_refl _)).below ((Below.refl w3.heap.size w3).alloc (Nat.le_refl _) (.cells #[] 42)) (Nat.le_refl _))
  have HBW0 := Lib.hid (show Below w3.heap.size w3 (w3.alloc (.cells #[] 42)) from (Below.refl w3.heap.size w3).alloc (Nat.le_refl _) _)
  go_wp2_with (first
    | (refine wpList_buildNone rfl 22 42 rfl i0 Try.underlying22 HI.out ?_)
    | (at_builtin; refine Vc.wpList_append_every rfl (.tmp 50) (.tmp 51) 22 rfl w3.heap.size 42 i0 _ 4 40 Try.underlying22 HI.out HZ0.out HZ1.out HZ2.out rfl (by omega) (.slice (some ⟨w3.heap.size, 0, none⟩) 0 0) 0 [] rfl HO0.out (by intro e; cases e) A n c (dsL L) rfl (by rw [dsL_length, HL.out]) (fun h => HA3.out.news (by rw [HL.out]; exact h)) (dsL_one L) (by have := HN.out; unfold maxLen; omega) (by have := HN.out; omega) (by simp) ?_; intro g4 c4 w4 hown4 hg4; have HO4 := Lib.hid (show w4.ownsRow w3.heap.size 42 4 (.slice (some ⟨g4, 0, none⟩) n c4) n (dsL L) from by rw [Nat.zero_add] at hown4; exact hown4); have B4 := Lib.hid (HBW0.out.grown hg4 (by simp) (fun i hi => (World.ownsRow.lt HO0.out i hi).1)); have HB4 := Lib.hid ((HB.out.below B3.out (Nat.le_refl _)).below B4.out (Nat.le_refl _)); clear hown4 hg4)
    | (at_builtin; refine Vc.wpList_append_every rfl (.tmp 52) (.tmp 53) 22 rfl w3.heap.size 42 i0 _ 4 40 Try.underlying22 HI.out HZ0.out HZ1.out HZ2.out rfl (by omega) (.slice (some ⟨g4, 0, none⟩) n c4) n (dsL L) rfl HO4.out (by intro e; cases e) B m d (dsL M) rfl (by rw [dsL_length, HM.out]) (fun h => HB4.out.news (by rw [HM.out]; exact h)) (dsL_one M) (by have := HN.out; unfold maxLen; omega) (by have := HN.out; omega) B4.out.size ?_; intro g5 c5 w5 hown5 hg5; have HO5 := Lib.hid hown5; have B5 := Lib.hid (B4.out.grown hg5 B4.out.size (fun i hi => (World.ownsRow.lt HO4.out i hi).1)); clear hown5 hg5))
  have HD5 := Lib.hid (show DIn w5 (some ⟨g5, 0, none⟩) (L ++ M) from by
    refine OwnD.din (t := 42) (base := w3.heap.size) (c := c5) ?_
    unfold OwnD
    rw [List.length_append, HL.out, HM.out, dsL_append]
    exact HO5.out)
  refine (HP3.out w5 _ c5 HD5.out).mono ?_
  rintro e w6 ⟨rfl, b6⟩
  have B6 := Lib.hid (B3.out.trans ((B5.out.trans (b6.mono B5.out.size)).mono B3.out.size))
  clear b6 HP3 HO0 HA3 HBW0 B3 HD5 x0 x1 z0 z1 y0 y1
  by_cases h1 : e1 = 0
  · subst h1
    by_cases h2 : e2 = 0
    · subst h2
      by_cases h3 : x.length + y.length ≤ 8192
      · obtain ⟨rfl, rfl⟩ := HLAW.out.2.2 rfl rfl h3
        have q1 := text_size x
        have q2 := text_size y
        have HC := Lib.hid (cat_text x y)
        have hc := HC.out
        have t1 := IntWalk.wrap64_in ((x.length : Int) + (y.length : Int)) (by omega)
        have t2 : ¬ 8192 < (x.length : Int) + (y.length : Int) := by omega
        have t3 : decide (8192 < (x.length : Int) + (y.length : Int)) = false := decide_eq_false t2
        generalize (⟨(x ++ y).toArray⟩ : ByteArray) = Q at hc ⊢
        generalize (⟨x.toArray⟩ : ByteArray) = Q1 at q1 hc ⊢
        generalize (⟨y.toArray⟩ : ByteArray) = Q2 at q2 hc ⊢
        subst hc
        rw [← q1, ← q2] at t1 t2 t3
        have t4 : ¬ 9223372036854775807 < Q1.size + Q2.size := by omega
        clear HLAW HC h3
        go_wp2_with (fail)
        refine bodyPost_ret (results_tmp rfl _ _ _) rfl ?_
        exact ⟨rfl, B6.out⟩
      · obtain ⟨h4, rfl⟩ := HLAW.out.2.1 rfl (.inr h3)
        have q1 := text_size x
        have q2 := text_size y
        have t1 := IntWalk.wrap64_in ((x.length : Int) + (y.length : Int)) (by have := HSX.out; have := HSY.out; omega)
        have t2 : 8192 < (x.length : Int) + (y.length : Int) := by omega
        have t3 : decide (8192 < (x.length : Int) + (y.length : Int)) = true := decide_eq_true t2
        generalize (⟨x.toArray⟩ : ByteArray) = Q1 at q1 ⊢
        generalize (⟨y.toArray⟩ : ByteArray) = Q2 at q2 ⊢
        have t4 : (e3 == 0) = false := beq_eq_false_iff_ne.2 h4
        have t5 : (e3 != 0) = true := bne_iff_ne.2 h4
        clear HLAW h3
        go_wp2_with (fail)
        refine bodyPost_ret (results_tmp rfl _ _ _) rfl ?_
        exact ⟨rfl, B6.out⟩
    · obtain ⟨h4, rfl⟩ := HLAW.out.2.1 rfl (.inl h2)
      have t2 : (e2 == 0) = false := beq_eq_false_iff_ne.2 h2
      have t3 : (e2 != 0) = true := bne_iff_ne.2 h2
      have t4 : (e3 == 0) = false := beq_eq_false_iff_ne.2 h4
      have t5 : (e3 != 0) = true := bne_iff_ne.2 h4
      clear HLAW
      go_wp2_with (fail)
      refine bodyPost_ret (results_tmp rfl _ _ _) rfl ?_
      exact ⟨rfl, B6.out⟩
  · obtain ⟨rfl, rfl⟩ := HLAW.out.1 h1
    have t4 : (e3 == 0) = false := beq_eq_false_iff_ne.2 h1
    have t5 : (e3 != 0) = true := bne_iff_ne.2 h1
    clear HLAW
    go_wp2_with (fail)
    refine bodyPost_ret (results_tmp rfl _ _ _) rfl ?_
    exact ⟨rfl, B6.out⟩
end patchRows
end Go.Proofs.Ytiehpaffbaafcaa
