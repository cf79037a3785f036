/-
  PatchBytes: of every row of deeds the bytes, of all bytes the deeds. The walk. Condition: the deeds have 2^47 bytes at most.
-/
import Derived.Test.YtiehpaffbaafcaaPtForms19
import Derived.Test.YtiehpaffbaafcaaRef19B
import Derived.Test.YtiehpaffbaafcaaRef19P
import Derived.Test.YtiehpaffbaafcaaPtEq
namespace Go.Proofs.Ytiehpaffbaafcaa
open Go.ChangeShapes Go.WideShapes Go.ChangeAt Go.RowKit Pn Pt

namespace patchBytes
set_option maxRecDepth 100000 in
set_option maxHeartbeats 12800000 in
theorem walk (A : Option Addr) (n c : Nat) (L : List Deed) (s : ByteArray) (w : World) (hL : L.length = n) (hn : n ≤ maxLen) (hn40 : n * 40 ≤ 140737488351232) (hA : DIn w A L) :
    Calls Try.prog 3 #[.slice A n c, .string s] w fun e w' => e = .returned (.bool true) ∧ Below w.heap.size w w' := by
  have HAW := Lib.hid (awake19 w)
  have HGA := Lib.hid (fun (W : World) (h : Below w.heap.size w W) => pt_great W A n c L hL hn (hA.below h (Nat.le_refl _)))
  have HBY := Lib.hid (fun (W : World) (h : Below w.heap.size w W) => pt_bytes W A n c L hL (hA.below h (Nat.le_refl _)))
  have HCO := Lib.hid (fun (W : World) (h : Below w.heap.size w W) => pt_cost W A n c L hL (hA.below h (Nat.le_refl _)))
  have HFO := Lib.hid (fun (W : World) (h : Below w.heap.size w W) => pt_forms W A n c L hL (by omega) (hA.below h (Nat.le_refl _)))
  have HRB := Lib.hid (fun (W : World) (G : Option Addr) (q : Nat) (h : DIn W G L) => ref19_bytes W G n q L hL h)
  have HCD := Lib.hid (show costD L = if canD L = true then (allL L).length else 0 from rfl)
  clear hL hA hn hn40
  go_enter Try.func3, Try.ntmps3
  go_wp2_with (fail)
  refine HAW.out.mono ?_
  rintro e w1 ⟨rfl, b1⟩
  have B1 := Lib.hid b1
  clear b1 HAW
  go_wp2_with (fail)
  refine (HGA.out w1 B1.out).mono ?_
  rintro e w2 ⟨g1, rfl, rfl⟩
  cases g1 with
  | true =>
    go_wp2_with (fail)
    exact bodyPost_ret (results_tmp rfl _ _ _) rfl ⟨rfl, B1.out⟩
  | false =>
  by_cases hs : 4096 < s.size
  · have x0 : 4096 < (s.size : Int) := by omega
    have x1 : decide (4096 < (s.size : Int)) = true := decide_eq_true x0
    go_wp2_with (fail)
    exact bodyPost_ret (results_tmp rfl _ _ _) rfl ⟨rfl, B1.out⟩
  have x0 : ¬ 4096 < (s.size : Int) := by omega
  have x1 : decide (4096 < (s.size : Int)) = false := decide_eq_false x0
  have HPA := Lib.hid (fun (W : World) => pt_parse W s (by omega))
  have HRP := Lib.hid (fun (W : World) => ref19_parse W s)
  have HPL := Lib.hid (fun L' (h : parD s = some L') => par_length h)
  unfold PaSays at HPA
  unfold RaSays at HRP
  clear hs HGA
  -- the bytes: both the same
  obtain ⟨Q, is, er, hq1, hq2, hq3, hcase⟩ : ∃ (Q : ByteArray) (is : Bool) (er : Int), (if canD L = true then Value.tuple #[.string ⟨(allL L).toArray⟩, .int .i64 0] else .tuple #[.string ⟨#[]⟩, .int .i64 1]) = Value.tuple #[.string Q, .int .i64 er] ∧ (if canD L = true then Value.tuple #[.string ⟨(allL L).toArray⟩, .bool true] else .tuple #[.string ⟨#[]⟩, .bool false]) = Value.tuple #[.string Q, .bool is] ∧ costD L = Q.size ∧ ((is = true ∧ er = 0) ∨ (is = false ∧ er = 1)) := by
    rw [HCD.out]
    cases canD L with
    | true => exact ⟨⟨(allL L).toArray⟩, true, 0, rfl, rfl, by rw [if_pos rfl, two_sz], .inl ⟨rfl, rfl⟩⟩
    | false => exact ⟨⟨#[]⟩, false, 1, rfl, rfl, rfl, .inr ⟨rfl, rfl⟩⟩
  rw [hq1] at HBY
  rw [hq2] at HRB
  rw [hq3] at HCO
  clear hq1 hq2 hq3 HCD
  go_wp2_with (fail)
  refine (HBY.out w1 B1.out).mono ?_
  rintro e w2 ⟨rfl, b2⟩
  have B2 := Lib.hid (B1.out.trans (b2.mono B1.out.size))
  clear b2 HBY B1
  go_wp2_with (fail)
  refine (HFO.out w2 B2.out).mono ?_
  rintro e w3 ⟨G, q, rfl, hd3, b3⟩
  have B3 := Lib.hid (B2.out.trans (b3.mono B2.out.size))
  have HR3 := Lib.hid (HRB.out w3 G q hd3)
  clear b3 hd3 HRB B2
  go_wp2_with (fail)
  refine HR3.out.mono ?_
  rintro e w4 ⟨rfl, b4⟩
  have B4 := Lib.hid (B3.out.trans (b4.mono B3.out.size))
  have HC4 := Lib.hid (HCO.out w4 B4.out)
  clear b4 B3 HR3 HCO
  generalize parD s = P at HPA HRP HPL
  rcases hcase with ⟨rfl, rfl⟩ | ⟨rfl, rfl⟩
  all_goals
    go_wp2_with (first | (go_at_call 10; refine HC4.out.mono ?_; rintro e w5 ⟨rfl, b5⟩; have B5 := Lib.hid (B4.out.trans (b5.mono B4.out.size)); clear b5))
    cases P with
    | none =>
      refine (HPA.out w5).mono ?_
      rintro e w6 ⟨b6, rfl⟩
      have B6 := Lib.hid (B5.out.trans (b6.mono B5.out.size))
      clear b6
      go_wp2_with (fail)
      refine (HRP.out w6).mono ?_
      rintro e w7 ⟨b7, X, m, d, rfl⟩
      have B7 := Lib.hid (B6.out.trans (b7.mono B6.out.size))
      have HF7 := Lib.hid (pt_forms w7 none 0 0 [] rfl (by omega) (DIn.nil _ _))
      clear b7
      go_wp2_with (fail)
      refine HF7.out.mono ?_
      rintro e w8 ⟨G2, q2, rfl, _, b8⟩
      have B8 := Lib.hid (B7.out.trans (b8.mono B7.out.size))
      clear b8
      go_wp2_with (fail)
      go_loopw [14] (fun i wr => i = .int .i64 0 ∧ Below w.heap.size w wr) (fun _ _ => 0)
      case atStart => exact ⟨rfl, B8.out⟩
      case round =>
        obtain ⟨rfl, hb⟩ := hrel
        go_wp2_with (fail)
        exact bodyPost_ret (results_tmp rfl _ _ _) rfl ⟨rfl, hb⟩
    | some L2 =>
      have HL2 := Lib.hid (HPL.out L2 rfl)
      refine (HPA.out w5).mono ?_
      rintro e w6 ⟨b6, X, d, rfl, hd6⟩
      have B6 := Lib.hid (B5.out.trans (b6.mono B5.out.size))
      have D6 := Lib.hid hd6
      clear b6 hd6
      go_wp2_with (fail)
      refine (HRP.out w6).mono ?_
      rintro e w7 ⟨b7, Y, d2, rfl, hd7⟩
      have B7 := Lib.hid (B6.out.trans (b7.mono B6.out.size))
      have D7 := Lib.hid hd7
      have HF7 := Lib.hid (pt_forms w7 X L2.length d L2 rfl (by have := HL2.out; omega) (D6.out.below b7 (Nat.le_refl _)))
      clear b7 hd7 D6
      go_wp2_with (fail)
      refine HF7.out.mono ?_
      rintro e w8 ⟨G2, q2, rfl, hd8, b8⟩
      have B8 := Lib.hid (B7.out.trans (b8.mono B7.out.size))
      have D8 := Lib.hid hd8
      have D9 := Lib.hid (D7.out.below b8 (Nat.le_refl _))
      clear b8 hd8 D7
      go_wp2_with (fail)
      go_loopw [14] (fun i wr => ∃ j : Nat, i = .int .i64 (j : Int) ∧ j ≤ L2.length ∧ Below w8.heap.size w8 wr) (fun i _ => match i with | .int _ k => L2.length - k.toNat | _ => 0)
      case atStart => exact ⟨0, rfl, Nat.zero_le _, Below.refl _ _⟩
      case round =>
        obtain ⟨j, rfl, hj, hb⟩ := hrel
        have HB := Lib.hid hb
        clear hb
        have x2 : 0 ≤ (j : Int) := by omega
        by_cases hlt : j < L2.length
        · have y0 : (j : Int) < (L2.length : Int) := by omega
          have y1 : decide ((j : Int) < (L2.length : Int)) = true := decide_eq_true y0
          obtain ⟨pb, po, rfl, hc⟩ := D8.out (by omega)
          obtain ⟨qb, qo, rfl, hc2⟩ := D9.out (by omega)
          obtain ⟨c0, c1, c2, c3⟩ := (hc j _ (deed_at hlt)).below HB.out (Nat.le_refl _)
          obtain ⟨d0, d1, d2', d3⟩ := (hc2 j _ (deed_at hlt)).below HB.out (Nat.le_refl _)
          have HJ := Lib.hid (show j + 1 ≤ L2.length by omega)
          generalize L2.getD j dz = o at c0 c1 c2 c3 d0 d1 d2' d3
          have hne := fun W => run_neq_rop o W
          have HW1 := Lib.hid (IntWalk.wrap64_in ((j : Int) + 1) (by have := HL2.out; omega))
          clear hc hc2 hlt
          go_wp2_with (fail)
          go_quiet (fail)
          have HBQ := Lib.hid (below_drewN HB.out nq)
          go_wp2_with (fail)
          try rw [HW1.out]
          exact ⟨⟨j + 1, rfl, HJ.out, HBQ.out⟩, pt_less j L2.length HJ.out⟩
        · have hje : j = L2.length := by omega
          subst hje
          have y0 : ¬ ((L2.length : Nat) : Int) < (L2.length : Int) := by omega
          have y1 : decide (((L2.length : Nat) : Int) < (L2.length : Int)) = false := decide_eq_false y0
          go_wp2_with (fail)
          exact bodyPost_ret (results_tmp rfl _ _ _) rfl ⟨rfl, B8.out.trans (HB.out.mono B8.out.size)⟩
end patchBytes
end Go.Proofs.Ytiehpaffbaafcaa
