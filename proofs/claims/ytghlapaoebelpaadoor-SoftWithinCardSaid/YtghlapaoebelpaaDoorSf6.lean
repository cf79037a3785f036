/-
  Package soft: Mix. Conditions: the numbers are there.
-/
import Derived.Test.YtghlapaoebelpaaDoorSf5
namespace Go.Proofs.YtghlapaoebelpaaDoor
open Go.ChangeShapes Go.WideShapes Go.ChangeAt Go.RowKit Nm Vc Sf

namespace Sf
/-- Whether rows can be mixed. -/
def mixP (ws : List Int) (L : List (List Int)) : Prop := InW 65536 ws ∧ 0 < total ws ∧ ws.length = L.length ∧ evenTo L L.length
open Classical in
/-- What a mix is; nothing, if there is none. -/
noncomputable def mixR (ws : List Int) (L : List (List Int)) : List Int := if mixP ws L then mixL ws L (L.getD 0 []).length else []
theorem mixR_ok {ws : List Int} {L : List (List Int)} (h : mixP ws L) : mixR ws L = mixL ws L (L.getD 0 []).length := if_pos h
theorem mixR_not {ws : List Int} {L : List (List Int)} (h : ¬ mixP ws L) : mixR ws L = [] := if_neg h
theorem mixP_some {ws : List Int} {L : List (List Int)} (h : mixP ws L) : 0 < L.length := by
  obtain ⟨_, h1, h2, _⟩ := h
  rw [← h2]
  refine Nat.pos_of_ne_zero fun e => ?_
  rw [List.length_eq_zero_iff.1 e] at h1
  exact absurd h1 (by decide)
end Sf
section
variable (w : World) (A : Option Addr) (c : Nat) (zs : List Int) (E : Option Addr) (ce : Nat) (B : Nat → Option Addr) (C : Nat → Nat) (L : List (List Int)) (n q m : Nat)
set_option maxRecDepth 100000 in
set_option maxHeartbeats 1600000 in
theorem soft_mix_not (hz : zs.length = n) (hn : n ≤ 1000) (hL : L.length = q) (hq : q ≤ 1000) (hA : KIn .i64 w A zs) (hE : LIn w E B C L) (h : ¬ mixP zs L) :
    Calls Tryd.prog 18 #[.slice A n c, .slice E q ce] w fun e w' => e = .returned (.slice none 0 0) ∧ w = w' := by
  by_cases hW : InW 65536 zs
  · have HS := Lib.hid (soft_sum w 65536 A n c zs hz (by omega) (by omega) (by omega) hA hW)
    by_cases h0 : total zs = 0
    · rw [h0] at HS
      clear h hW h0 hA hE
      go_enter Tryd.func18, Tryd.ntmps18
      go_wp2_with (fail)
      refine HS.out.mono ?_
      rintro e w1 ⟨rfl, rfl⟩
      go_wp2_with (fail)
      refine bodyPost_ret (results_tmp rfl _ _ _) rfl ?_
      exact ⟨rfl, rfl⟩
    · have ht := (total_in (by omega) zs hW).1
      have t0 : (total zs == 0) = false := beq_eq_false_iff_ne.2 h0
      by_cases hnq : n = q
      · have HE := Lib.hid (soft_even_not w E ce B C L q hL (by omega) hE (fun he => h ⟨hW, by omega, by omega, by rw [hL]; exact he⟩))
        subst hnq
        have t1 : ((n : Int) != (n : Int)) = false := by simp
        generalize total zs = s at HS t0
        clear h hW h0 ht hA hE
        go_enter Tryd.func18, Tryd.ntmps18
        go_wp2_with (fail)
        refine HS.out.mono ?_
        rintro e w1 ⟨rfl, rfl⟩
        go_wp2_with (fail)
        refine HE.out.mono ?_
        rintro e w1 ⟨rfl, rfl⟩
        go_wp2_with (fail)
        refine bodyPost_ret (results_tmp rfl _ _ _) rfl ?_
        exact ⟨rfl, rfl⟩
      · have t1 : ((n : Int) != (q : Int)) = true := by
          rw [bne_iff_ne]
          omega
        generalize total zs = s at HS t0
        clear h hW h0 ht hA hE hnq
        go_enter Tryd.func18, Tryd.ntmps18
        go_wp2_with (fail)
        refine HS.out.mono ?_
        rintro e w1 ⟨rfl, rfl⟩
        go_wp2_with (fail)
        refine bodyPost_ret (results_tmp rfl _ _ _) rfl ?_
        exact ⟨rfl, rfl⟩
  · have HS := Lib.hid (soft_sum_not w 65536 A n c zs hz (by omega) (by omega) (by omega) hA hW)
    clear h hW hA hE
    go_enter Tryd.func18, Tryd.ntmps18
    go_wp2_with (fail)
    refine HS.out.mono ?_
    rintro e w1 ⟨rfl, rfl⟩
    go_wp2_with (fail)
    refine bodyPost_ret (results_tmp rfl _ _ _) rfl ?_
    exact ⟨rfl, rfl⟩
set_option maxRecDepth 100000 in
set_option maxHeartbeats 3200000 in
theorem soft_mix_ok (hz : zs.length = n) (hn : n ≤ 1000) (hL : L.length = n) (hA : KIn .i64 w A zs) (hE : LIn w E B C L) (h : mixP zs L) (hm : (L.getD 0 []).length = m) (hm2 : m ≤ 1000000) :
    Calls Tryd.prog 18 #[.slice A n c, .slice E n ce] w (RowSays w (fun v => v) (mixL zs L m)) := by
  have h0 := mixP_some h
  obtain ⟨hW, hs, _, hev⟩ := h
  rw [hL] at hev
  have HS := Lib.hid (soft_sum w 65536 A n c zs hz (by omega) (by omega) (by omega) hA hW)
  have HEV := Lib.hid (soft_even w E ce B C L n hL (by omega) hE hev)
  have hmr : ∀ i, i < n → (L.getD i []).length = m := fun i hi => (hev i hi).trans hm
  have HME := Lib.hid (fun W (b : Below w.heap.size w W) k (hk : k < m) => soft_mean W A c zs E ce B C L n k m (total zs) hz hL hn hW rfl hs (hA.below b (Nat.le_refl _)) (hE.below b (Nat.le_refl _)) hmr hk)
  have HE := Lib.hid hE
  have hcell := hE.at h0
  obtain ⟨pe, oe, rfl, hc0, _⟩ := hcell
  rw [Nat.add_zero, hm] at hc0
  have t0 : (total zs == 0) = false := beq_eq_false_iff_ne.2 (by omega)
  have t1 : ((n : Int) == (n : Int)) = true := beq_self_eq_true _
  have HLR := Lib.hid (mixL_length zs L m)
  have HAT := Lib.hid (mixL_at zs L m)
  have hn0 : 0 < (n : Int) := by omega
  obtain ⟨i0, hi, hz0, hz1, hz2⟩ := info_parts info_int
  have HI := Lib.hid hi
  have HZ0 := Lib.hid hz0
  have HZ1 := Lib.hid hz1
  have HZ2 := Lib.hid hz2
  clear hi hz0 hz1 hz2 hA hz hE hW hs hev hmr
  generalize mixL zs L m = R at HLR HAT ⊢
  generalize total zs = s at HS HME HAT t0
  go_enter Tryd.func18, Tryd.ntmps18
  go_wp2_with (fail)
  refine HS.out.mono ?_
  rintro e w1 ⟨rfl, rfl⟩
  go_wp2_with (fail)
  refine HEV.out.mono ?_
  rintro e w1 ⟨rfl, rfl⟩
  go_wp2_with (at_make; refine wpList_make_row _ rfl _ _ 22 rfl 3 i0 (.int .i64 0) Tryd.underlying22 HI.out HZ0.out HZ1.out rfl .i64 .i64 m rfl rfl (by rw [HZ2.out]; omega) (by omega) ?_)
  have HR0 := Lib.hid (show (w.alloc (.cells (madeCells #[.int .i64 0] m) 3)).rowIs w.heap.size 3 m (prt .i64 R 0) from (World.rowIs_made w (.int .i64 0) m 3).congr fun i _ => by rw [prt_none])
  have HB0 := Lib.hid ((Below.refl w.heap.size w).alloc (Nat.le_refl _) (.cells (madeCells #[.int .i64 0] m) 3))
  go_loopw [31] (fun i wr => ∃ j : Nat, i = .int .i64 (j : Int) ∧ j ≤ m ∧ wr.rowIs w.heap.size 3 m (prt .i64 R j) ∧ Below w.heap.size w wr) (fun i _ => match i with | .int _ k => m - k.toNat | _ => 0)
  case atStart => exact ⟨0, rfl, Nat.zero_le _, HR0.out, HB0.out⟩
  case round =>
    clear HR0 HB0 hc0 HS HEV
    obtain ⟨j, rfl, hj, hr, hb⟩ := hrel
    have HR := Lib.hid hr
    have HB := Lib.hid hb
    clear hr hb
    have x2 : 0 ≤ (j : Int) := by omega
    by_cases hlt : j < m
    · have x0 : (j : Int) < (m : Int) := by omega
      have x1 : decide ((j : Int) < (m : Int)) = true := decide_eq_true x0
      have HJ := Lib.hid (show j + 1 ≤ m by omega)
      have HXJ := Lib.hid (HAT.out j hlt)
      go_wp2_with (fail)
      refine (HME.out wr HB.out j hlt).mono ?_
      rintro e w2 ⟨rfl, rfl⟩
      go_wp2_with (fail)
      refine (sat_any _ wr).mono ?_
      rintro e w2 ⟨rfl, rfl⟩
      rw [← HXJ.out]
      have f1 := HR.out.frozen j
      have c1 := HR.out.cell hlt
      have HPS := Lib.hid (prt_set HR.out (rfl : R.getD j 0 = R.getD j 0))
      have HBS := Lib.hid (HB.out.setCell (p := ⟨w.heap.size, j, none⟩) (Nat.le_refl _) (.int .i64 (R.getD j 0)))
      have x3 := IntWalk.wrap64_in ((j : Int) + 1) (by omega)
      generalize R.getD j 0 = z at HPS HBS ⊢
      go_wp2_with (fail)
      exact ⟨⟨j + 1, rfl, HJ.out, HPS.out, HBS.out⟩, vc_less j m hlt⟩
    · have hke : j = m := by omega
      have x0 : ¬ (j : Int) < (m : Int) := by omega
      have x1 : decide ((j : Int) < (m : Int)) = false := decide_eq_false x0
      rw [hke] at HR
      go_wp2_with (fail)
      refine bodyPost_ret (results_tmp rfl _ _ _) rfl ?_
      refine ⟨some ⟨w.heap.size, 0, none⟩, m, ?_, KIn.row (HR.out.congr fun i hi => prt_all _ _ _ _ hi) (Nat.le_of_eq HLR.out), HB.out⟩
      rw [HLR.out]
      rfl
theorem soft_mix (hz : zs.length = n) (hn : n ≤ 1000) (hL : L.length = q) (hq : q ≤ 1000) (hA : KIn .i64 w A zs) (hE : LIn w E B C L) (hm : ∀ i, i < q → (L.getD i []).length ≤ 1000000) :
    Calls Tryd.prog 18 #[.slice A n c, .slice E q ce] w (RowSays w (fun v => v) (mixR zs L)) := by
  by_cases h : mixP zs L
  · rw [mixR_ok h]
    obtain rfl : q = n := by have := h.2.2.1; omega
    exact soft_mix_ok w A c zs E ce B C L q _ hz hn hL hA hE h rfl (hm 0 (by have := mixP_some h; omega))
  · rw [mixR_not h]
    refine (soft_mix_not w A c zs E ce B C L n q hz hn hL hq hA hE h).mono ?_
    rintro e w' ⟨rfl, rfl⟩
    exact ⟨none, 0, rfl, KIn.nil _ _ _, Below.refl _ _⟩
end
end Go.Proofs.YtghlapaoebelpaaDoor
