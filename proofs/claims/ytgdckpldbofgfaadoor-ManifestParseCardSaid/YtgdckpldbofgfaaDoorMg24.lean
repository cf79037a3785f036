/-
  The document's manifest: Parse. No conditions.
  The walk of ManifestParse. Condition: both tables of sha lie as the program's text lays them.
-/
import Derived.Test.YtgdckpldbofgfaaDoorMg23
import Derived.Test.YtgdckpldbofgfaaDoorMg19
set_option maxRecDepth 100000
namespace Go.Proofs.YtgdckpldbofgfaaDoor
open Go.ChangeShapes Go.WideShapes Go.ChangeAt Go.RowKit Sh Pn Mf Cf

set_option maxRecDepth 100000 in
set_option maxHeartbeats 6400000 in
theorem ref20_parse (w : World) (s : ByteArray) :
    Calls Tryd.prog 27 #[.string s] w fun e w' => ∃ A c, e = .returned (.tuple #[.agg (manA (parM s).1 A c), .int .i64 (parM s).2]) ∧ SIn w' A c (parM s).1.sums ∧ Below w.heap.size w w' := by
  have HI := Lib.hid (fun m A k => manI2 m A k)
  have HO := Lib.hid (fun m A k => manA_one m A k)
  have HNM := Lib.hid (fun (i : Nat) (W : World) (b : Nat) (h : RefAt W b (rsT freeM s i) (bsT freeM s i)) => show Calls Tryd.prog 45 #[.pointer (some ⟨b, 0, none⟩), .int .i64 2147483647] W (RefSays W b (.int .i64 (vsT freeM s i : Int)) (rsT freeM s (i + 1)) (bsT freeM s (i + 1))) from ref_num W b _ _ h (sane_T freeM s i) 2147483647)
  have HHD := Lib.hid (fun W => show Calls Tryd.prog 29 #[.agg (manA ⟨vsT freeM s 0, vsT freeM s 1, vsT freeM s 2, vsT freeM s 3, [], fun _ => 0⟩ none 0)] W fun e w' => e = .returned (.bool (headV freeM s)) ∧ Below W.heap.size W w' from ref20_head W _ none 0)
  have HNO := Lib.hid (fun h => par_not (t := s) h)
  have HYE := Lib.hid (fun h => par_yes (t := s) h)
  have HTX := Lib.hid (fun h h2 => par_text (t := s) h h2)
  have HOK := Lib.hid (show okF s = (!bsT freeM s 4 && headV freeM s) from rfl)
  have HPM := Lib.hid (show parM s = if 0 < needT s ∧ endT s = 0 then (if same (rootT s) (rootF (readT s).sums) = true then (readT s, 0) else (zeroM, 6)) else (zeroM, 5) from rfl)
  have HRT := Lib.hid (show readT s = { headT s with sums := sumsD (rsT limM s 4) (needT s), res := sD (rsT limM s 4) (needT s) } from rfl)
  have HBU := Lib.hid (headMan2 (vsT freeM s 0) (vsT freeM s 1) (vsT freeM s 2) (vsT freeM s 3))
  have HZ := Lib.hid (And.intro (show rsT freeM s 0 = s from rfl) (show bsT freeM s 0 = false from rfl))
  generalize hhd : (⟨vsT freeM s 0, vsT freeM s 1, vsT freeM s 2, vsT freeM s 3, [], fun _ => 0⟩ : Man) = hd at *
  have HHE := Lib.hid hhd
  clear hhd
  generalize parM s = pm at *
  go_enter Tryd.func27, Tryd.ntmps27
  go_upto_region 3 with (fail)
  refine gen_world (fun W => RefAt W (w.heap.size + 1) s false ∧ At W w.heap.size 30 zeroM none 0 ∧ Below w.heap.size w W) ?_ ?_
  · refine ⟨?_, ⟨(heap_alloc_old _ _ (by simp)).trans ((heap_alloc_new w _).trans (by kernel_rfl))⟩, ((Below.refl _ _).alloc (Nat.le_refl _) _).alloc (by simp) _⟩
    have := heap_alloc_new (w.alloc (.cells (manA zeroM none 0) 30)) (.cells #[.string s, .bool false] 86)
    simp only [World.size_alloc] at this
    exact this
  rintro w1 ⟨e1, a1, b1⟩
  have E1 := Lib.hid e1
  have A1 := Lib.hid a1
  have B1 := Lib.hid b1
  clear e1 a1 b1
  obtain ⟨eb, heb⟩ : ∃ eb, w.heap.size + 1 = eb := ⟨_, rfl⟩
  rw [heb] at E1 ⊢
  have HEB := Lib.hid (show w.heap.size < eb by omega)
  clear heb
  have HE0 := Lib.hid (show RefAt w1 eb (rsT freeM s 0) (bsT freeM s 0) by rw [HZ.out.1, HZ.out.2]; exact E1.out)
  clear E1
  go_wp2_with (fail)
  refine (HNM.out 0 w1 eb HE0.out).mono ?_
  rintro e w2 ⟨rfl, e2, o2⟩
  have hl2 := HEB.out
  have HE1 := Lib.hid e2
  have A2 := Lib.hid (A1.out.of_block (o2.block _ A1.out.lt (by omega)))
  have B2 := Lib.hid (B1.out.trans (o2.below (by omega) B1.out.size))
  clear e2 o2 hl2 HE0 A1 B1
  go_wp2_with (fail)
  refine (HNM.out 1 w2 eb HE1.out).mono ?_
  rintro e w3 ⟨rfl, e3, o3⟩
  have hl3 := HEB.out
  have HE2 := Lib.hid e3
  have A3 := Lib.hid (A2.out.of_block (o3.block _ A2.out.lt (by omega)))
  have B3 := Lib.hid (B2.out.trans (o3.below (by omega) B2.out.size))
  clear e3 o3 hl3 HE1 A2 B2
  go_wp2_with (fail)
  refine (HNM.out 2 w3 eb HE2.out).mono ?_
  rintro e w4 ⟨rfl, e4, o4⟩
  have hl4 := HEB.out
  have HE3 := Lib.hid e4
  have A4 := Lib.hid (A3.out.of_block (o4.block _ A3.out.lt (by omega)))
  have B4 := Lib.hid (B3.out.trans (o4.below (by omega) B3.out.size))
  clear e4 o4 hl4 HE2 A3 B3
  go_wp2_with (fail)
  refine (HNM.out 3 w4 eb HE3.out).mono ?_
  rintro e w5 ⟨rfl, e5, o5⟩
  have hl5 := HEB.out
  have HE4 := Lib.hid e5
  have A5 := Lib.hid (A4.out.of_block (o5.block _ A4.out.lt (by omega)))
  have B5 := Lib.hid (B4.out.trans (o5.below (by omega) B4.out.size))
  clear e5 o5 hl5 HE3 A4 B4
  generalize (vsT freeM s 0 : Int) = v0 at *
  generalize (vsT freeM s 1 : Int) = v1 at *
  generalize (vsT freeM s 2 : Int) = v2 at *
  generalize (vsT freeM s 3 : Int) = v3 at *
  have HEL := Lib.hid (show eb < w5.heap.size from HE4.out.lt)
  have HNW := Lib.hid (show ∀ o, (w5.alloc o).heap[w5.heap.size]? = some o from fun o => heap_alloc_new w5 o)
  have hxb := fun c => show Below w5.heap.size w5 ((w5.alloc (.cells c 30)).setRow w5.heap.size (manA hd none 0)) from below_setRow' ((Below.refl _ _).alloc (Nat.le_refl _) _) (Nat.le_refl _) _
  have HXB := Lib.hid hxb
  have HXW := Lib.hid (show ∀ c, ((w5.alloc (.cells c 30)).setRow w5.heap.size (manA hd none 0)).heap[w5.heap.size]? = some (.cells (manA hd none 0) 30 (0, 0)) from fun c => setRow_heap _ _ _ _ _ _ (heap_alloc_new w5 _))
  clear hxb
  go_upto_region 4 with (first
    | (refine wpList_build_to rfl 30 #[(0, .tmp 14), (1, .tmp 17), (2, .tmp 20), (3, .tmp 23)] rfl [(0, .int .i64 v0), (1, .int .i64 v1), (2, .int .i64 v2), (3, .int .i64 v3)] rfl _ HBU.out ?_)
    | (with_reducible refine wpList_store_row rfl 30 _ _ rfl _ (manA hd none 0) rfl rfl 30 _ (HNW.out _) (HI.out hd none 0) (by rw [manA_size]; kernel_rfl) (HO.out hd none 0) ?_))
  refine gen_world (fun W => RefAt W eb (rsT freeM s 4) (bsT freeM s 4) ∧ At W w.heap.size 30 zeroM none 0 ∧ At W w5.heap.size 30 hd none 0 ∧ Below w.heap.size w W ∧ W.heap.size = w5.heap.size + 1) ⟨HE4.out.of_block ((HXB.out _).block _ HEL.out), A5.out.keep (HXB.out _), ⟨HXW.out _⟩, B5.out.trans ((HXB.out _).mono B5.out.size), by simp [World.setRow]⟩ ?_
  rintro w6 ⟨e6, a6, m6, b6, s6⟩
  have E6 := Lib.hid e6
  have A6 := Lib.hid a6
  have M6 := Lib.hid m6
  have B6 := Lib.hid b6
  have S6 := Lib.hid s6
  clear e6 a6 m6 b6 s6 HNW HXB HXW HE4 A5 B5
  generalize w5.heap.size = mb at *
  have HZB := Lib.hid (fun (W : World) (hb : Below w.heap.size w W) => below_setRow' hb (Nat.le_refl _) (manA zeroM none 0))
  have HSZ := Lib.hid (fun W => show SIn W none 0 zeroM.sums from ⟨Nat.le_refl _, fun h0 => absurd h0 (Nat.lt_irrefl 0)⟩)
  have c1 := E6.out.wrong
  have HMC := Lib.hid M6.out.cells
  cases hbd : bsT freeM s 4 with
  | true =>
    try rw [hbd] at c1
    have HP := Lib.hid (HNO.out (by rw [HOK.out, hbd]; rfl))
    have HZ0 := Lib.hid A6.out.cells
    clear hbd
    go_wp2_with (first
      | (refine wpList_build_to rfl 30 #[] rfl [] rfl _ zeroMan2 ?_)
      | (with_reducible refine wpList_store_row rfl 30 _ _ rfl _ (manA zeroM none 0) rfl rfl 30 _ HZ0.out (HI.out zeroM none 0) rfl (HO.out zeroM none 0) ?_))
    refine bodyPost_ret (mf_res_tmp rfl _ _ _ 30 (manA zeroM none 0) (0, 0) _ rfl (setRow_heap _ _ _ _ _ _ HZ0.out) Tryd.underlying30 rfl (HI.out zeroM none 0)) rfl ?_
    rw [HP.out]
    exact ⟨none, 0, rfl, HSZ.out _, HZB.out _ B6.out⟩
  | false =>
  try rw [hbd] at c1
  have HBD := Lib.hid hbd
  clear hbd
  go_wp2_with ((with_reducible refine wpList_load_row_g ?_ 30 _ rfl _ rfl 30 (manA hd none 0) (0, 0) _ HMC.out Tryd.underlying30 rfl (HI.out hd none 0) ?_); rfl)
  refine (HHD.out _).mono ?_
  rintro e w7 ⟨rfl, b7⟩
  have E7 := Lib.hid (E6.out.of_block (b7.block _ E6.out.lt))
  have A7 := Lib.hid (A6.out.keep b7)
  have M7 := Lib.hid (M6.out.keep b7)
  have B7 := Lib.hid (B6.out.trans (b7.mono B6.out.size))
  have HML := Lib.hid (show eb < mb ∧ mb < w7.heap.size from ⟨HEL.out, M7.out.lt⟩)
  clear b7 E6 A6 M6 B6 S6 HMC c1
  cases hhv : headV freeM s with
  | false =>
    have HP := Lib.hid (HNO.out (by rw [HOK.out, hhv, Bool.and_false]))
    have HZ0 := Lib.hid A7.out.cells
    clear hhv
    go_wp2_with (first
      | (refine wpList_build_to rfl 30 #[] rfl [] rfl _ zeroMan2 ?_)
      | (with_reducible refine wpList_store_row rfl 30 _ _ rfl _ (manA zeroM none 0) rfl rfl 30 _ HZ0.out (HI.out zeroM none 0) rfl (HO.out zeroM none 0) ?_))
    refine bodyPost_ret (mf_res_tmp rfl _ _ _ 30 (manA zeroM none 0) (0, 0) _ rfl (setRow_heap _ _ _ _ _ _ HZ0.out) Tryd.underlying30 rfl (HI.out zeroM none 0)) rfl ?_
    rw [HP.out]
    exact ⟨none, 0, rfl, HSZ.out _, HZB.out _ B7.out⟩
  | true =>
  have hok : okF s = true := by rw [HOK.out, HBD.out, hhv]; rfl
  obtain ⟨y1, y2, y3, y4, y5, y6⟩ := HYE.out hok
  have HQ := Lib.hid (show hd.sums = [] by rw [← HHE.out])
  have HCS := Lib.hid (show hd.s = v2 ∧ hd.c = v3 by rw [← HHE.out]; exact ⟨rfl, rfl⟩)
  have HHB := Lib.hid (show headB hd.b hd.v hd.s hd.c = true ∧ needM hd = needT s by
    refine ⟨?_, by rw [← y6]; rfl⟩
    have h9 := y3
    unfold needT needM needN at h9
    split at h9
    · rename_i h10
      rw [← y6]
      exact h10
    · exact absurd h9 (Nat.lt_irrefl 0))
  have HRR := Lib.hid (show readT s = { hd with sums := sumsD (rsT freeM s 4) (needT s), res := sD (rsT freeM s 4) (needT s) } by rw [HRT.out, y6, y1])
  have HTE := Lib.hid (fun h2 => HTX.out hok h2)
  have HEN := Lib.hid y5
  have HN1 := Lib.hid (And.intro y3 y4)
  have HROO := Lib.hid (show rootT s = sD (rsT freeM s 4) (needT s + 1) from by
    show sD (rsT limM s 4) (needT s + 1) = _
    rw [y1])
  clear y1 y2 y3 y4 y5 y6 hok hhv HRT HTX HYE HNO HOK HNM HHD HZ HHE HBU
  generalize needT s = n at *
  generalize readT s = RM at *
  generalize endT s = en at *
  generalize rootT s = ro at *
  generalize rsT freeM s 4 = r at *
  have hgi := headB_iff.1 HHB.out.1
  have hnd := HHB.out.2
  unfold needM needN at hnd
  rw [if_pos HHB.out.1] at hnd
  rw [HCS.out.1, HCS.out.2] at hgi hnd
  have hq := cntN_quot (s := v2) (c := v3) (by omega) (by omega)
  rw [hnd] at hq
  have HIN := Lib.hid (show ∀ j, -9223372036854775808 ≤ nthM hd j ∧ nthM hd j ≤ 9223372036854775807 from fun j => by
    have h1 := headB_iff.1 HHB.out.1
    unfold nthM
    split <;> omega)
  have e2 := M7.out.size
  have e3 := M7.out.chunk
  rw [HCS.out.1] at e2
  rw [HCS.out.2] at e3
  have e0 := E7.out.rest
  have hn1 := HN1.out
  have z1 := IntWalk.wrap64_in (v2 + v3) (by omega)
  have z2 := IntWalk.wrap64_in (v2 + v3 - 1) (by omega)
  have z3 : ¬ v3 = 0 := by omega
  have z4 : (v3 == 0) = false := beq_eq_false_iff_ne.2 z3
  have z5 : ¬ v3 = -1 := by omega
  have z6 : (v3 == -1) = false := beq_eq_false_iff_ne.2 z5
  have z7 := IntWalk.wrap64_in (n : Int) (by clear hq z1 z2; omega)
  have z8 := IntWalk.wrap64_in ((n : Int) + 2) (by clear hq z1 z2 z7; omega)
  have z9 := IntWalk.wrap64_in (32 * ((n : Int) + 2)) (by clear hq z1 z2 z7 z8; omega)
  clear hgi hnd
  by_cases hrs : r.size = 32 * (n + 2)
  case neg =>
    have t1 : ((r.size : Int) != 32 * ((n : Int) + 2)) = true := bne_iff_ne.2 (by clear hq z1 z2 z7 z8 z9; omega)
    have t2 : ((r.size : Int) == 32 * ((n : Int) + 2)) = false := beq_eq_false_iff_ne.2 (by clear hq z1 z2 z7 z8 z9 t1; omega)
    have HP := Lib.hid (show pm = (zeroM, 5) from HPM.out.trans (if_neg fun h => hrs (HEN.out.1 h.2)))
    have HZ0 := Lib.hid A7.out.cells
    clear hn1 hrs
    go_wp2_with (first
      | (refine wpList_build_to rfl 30 #[] rfl [] rfl _ zeroMan2 ?_)
      | (with_reducible refine wpList_store_row rfl 30 _ _ rfl _ (manA zeroM none 0) rfl rfl 30 _ HZ0.out (HI.out zeroM none 0) rfl (HO.out zeroM none 0) ?_))
    refine bodyPost_ret (mf_res_tmp rfl _ _ _ 30 (manA zeroM none 0) (0, 0) _ rfl (setRow_heap _ _ _ _ _ _ HZ0.out) Tryd.underlying30 rfl (HI.out zeroM none 0)) rfl ?_
    rw [HP.out]
    exact ⟨none, 0, rfl, HSZ.out _, HZB.out _ B7.out⟩
  have t1 : ((r.size : Int) != 32 * ((n : Int) + 2)) = false := by
    rw [bne_eq_false_iff_eq]
    clear hq z1 z2 z7 z8 z9
    omega
  have t2 : ((r.size : Int) == 32 * ((n : Int) + 2)) = true := beq_iff_eq.2 (by clear hq z1 z2 z7 z8 z9 t1; omega)
  have HRS := Lib.hid hrs
  have R7 := Lib.hid (show Rads 30 23 w eb mb w7.heap.size r hd 0 0 none 0 w7 from by
    have hh : { hd with sums := sumsD r 0 } = hd := by
      rw [show sumsD r 0 = [] from rfl, ← HQ.out]
    refine ⟨by have h := E7.out; rw [HBD.out] at h; exact h, A7.out, ?_, B7.out, HEB.out, HML.out.1⟩
    rw [hh]
    exact grow_new M7.out HQ.out _ rfl)
  clear hn1 hrs E7 A7 M7 B7
  go_wp2_with (fail)
  try rw [z7]
  clear e0 e2 e3 z1 z2 z3 z4 z5 z6 z7 z8 z9 t1 t2 hq HBD
  have HBS := Lib.hid (show mb < w7.heap.size from HML.out.2)
  generalize w7.heap.size = base at *
  go_loopw [8] (fun i wr => ∃ (q : Nat) (A : Option Addr) (c : Nat), i = .int .i64 (q : Int) ∧ q ≤ n ∧ Rads 30 23 w eb mb base r hd q q A c wr) (fun i _ => match i with | .int _ q => n - q.toNat | _ => 0)
  case atStart => exact ⟨0, none, 0, rfl, Nat.zero_le _, R7.out⟩
  case round =>
    clear R7
    obtain ⟨q, A, c, rfl, hq, hr⟩ := hrel
    have HR := Lib.hid hr
    clear hr
    have hn1 := HN1.out
    have hrs := HRS.out
    by_cases hlt : q < n
    · have x0 : (q : Int) < (n : Int) := by omega
      have x1 : decide ((q : Int) < (n : Int)) = true := decide_eq_true x0
      have x3 := IntWalk.wrap64_in ((q : Int) + 1) (by omega)
      have h32 : 32 ≤ (rD r q).size := by rw [rD_size (by omega)]; omega
      have H32 := Lib.hid h32
      have HED := Lib.hid (fun (W : World) (hh : Rads 30 23 w eb mb base r hd q q A c W) => show Calls Tryd.prog 47 #[.pointer (some ⟨eb, 0, none⟩), .int .i64 32] W (RefSays W eb (.string (tkOut (rD r q) 32)) (tkRest (rD r q) 32) (tkBad (rD r q) false 32)) from ref_take W eb _ _ hh.eye (fun h => by cases h) 32)
      have HDG := Lib.hid (fun (W : World) => show Calls Tryd.prog 46 #[.string (tkOut (rD r q) 32)] W fun e w' => e = .returned (.agg (digF (sD r q))) ∧ Below W.heap.size W w' from by
        have := ref20_digest W (tkOut (rD r q) 32) (size_pos h32 (by omega))
        rw [dig_take r q h32] at this
        exact this)
      have R0 := Lib.hid (HR.out.step (below_drewN (Below.refl _ _) 1))
      have HSL := Lib.hid (fun (j k : Nat) (W : World) (hh : Rads 30 23 w eb mb base r hd j k A c W) => show W.cell? ⟨mb, 4, none⟩ = some (.slice A k c) from by
        have := hh.grow.at_.sums
        simp only [sumsD_length] at this
        exact this)
      have k0 := HSL.out _ _ _ R0.out
      clear h32 hn1 hrs
      generalize tkOut (rD r q) 32 = X at *
      go_wp2_with (fail)
      -- HANDV 0
      refine wp_region_noPanic ?_
      refine wp_region_heldV (S := (fun W : World => W.cell? ⟨mb, 4, none⟩ = some (.slice A q c))) 8 (by kernel_rfl) (by kernel_rfl) (by kernel_rfl) (by kernel_rfl) (by decide) k0 (fun hHeld => ?_)
      refine wpAnyV_take (i := 0) (v := .pointer (some ⟨mb, 4, none⟩)) 59 rfl rfl (by decide) (by kernel_rfl) (by kernel_rfl) (fun _ _ _ h => h) (Or.inl ⟨by rfl, ?_⟩) hHeld ?_
      · intro W hW
        try dsimp only at hW
        go_simp
      simp only [Act.put, List.setIfInBounds_toArray, List.set_cons_succ, List.set_cons_zero]
      refine wpAnyV_take (i := 1) (v := .slice A q c) 60 rfl rfl (by decide) (by kernel_rfl) (by kernel_rfl) (fun _ _ _ h => h) (Or.inl ⟨by rfl, ?_⟩) hHeld ?_
      · intro W hW
        try dsimp only at hW
        go_simp
      simp only [Act.put, List.setIfInBounds_toArray, List.set_cons_succ, List.set_cons_zero]
      refine wpAnyV_take (i := 2) (v := .pointer (some ⟨eb, 0, none⟩)) 61 rfl rfl (by decide) (by kernel_rfl) (by kernel_rfl) (fun _ _ _ h => h) (Or.inl ⟨by rfl, ?_⟩) hHeld ?_
      · intro W hW
        try dsimp only at hW
        go_simp
      simp only [Act.put, List.setIfInBounds_toArray, List.set_cons_succ, List.set_cons_zero]
      refine wpAnyV_one (i := 3) (by kernel_rfl) rfl (by decide) (fun K hK => ?_)
      go_simp
      refine (HED.out _ R0.out).mono ?_
      rintro e w8 ⟨rfl, e5, o5⟩
      have R5 := Lib.hid (R0.out.read H32.out e5 o5)
      clear e5 o5
      refine hK.out _ _ (HSL.out _ _ _ R5.out) (fun hHeld2 => ?_)
      clear hK K hHeld
      have hHeld := hHeld2
      clear hHeld2
      try simp only [Act.put, List.setIfInBounds_toArray, List.set_cons_succ, List.set_cons_zero]
      refine wpAnyV_one (i := 4) (by kernel_rfl) rfl (by decide) (fun K hK => ?_)
      go_simp
      refine (HDG.out _).mono ?_
      rintro e w9 ⟨rfl, b6⟩
      have R6 := Lib.hid (R5.out.step b6)
      clear b6
      refine hK.out _ _ (HSL.out _ _ _ R6.out) (fun hHeld2 => ?_)
      clear hK K hHeld
      have hHeld := hHeld2
      clear hHeld2
      try simp only [Act.put, List.setIfInBounds_toArray, List.set_cons_succ, List.set_cons_zero]
      refine wpAnyV_one (i := 5) (by kernel_rfl) rfl (by decide) (fun K hK => ?_)
      refine step_buildTo (by rfl) 28 23 1 #[(0, .tmp 63)] (by rfl) Tryd.underlying28 (digF (sD r q)) (by rw [Array.toList_map]; exact rfOneS _) ?_
      refine hK.out _ _ (HSL.out _ _ _ (R6.out.step ((Below.refl w9.heap.size w9).alloc (Nat.le_refl _) (.cells (digF (sD r q)) 23)))) (fun hHeld2 => ?_)
      clear hK K hHeld
      have hHeld := hHeld2
      clear hHeld2
      try simp only [Act.put, List.setIfInBounds_toArray]
      refine wpAnyV_one (i := 6) (by kernel_rfl) rfl (by decide) (fun K hK => ?_)
      refine step_add (by rfl) (.tmp 60) (.tmp 64) 28 (by rfl) 23 Tryd.underlying28 infoR R6.out.grow (sD r q) (by simp only [sumsD_length]; rfl) (by rfl) (by simp only [sumsD_length]; have := HN1.out; omega) ?_
      intro g cap wz hg hat hb7
      simp only [sumsD_length] at hg hat ⊢
      have R7 := Lib.hid (R6.out.added hg hb7)
      have c7 := hat.sums
      simp only [sumsD_length] at c7
      have f7 := hat.fz 4
      clear hg hat hb7
      refine hK.out _ _ c7 (fun hHeld2 => ?_)
      clear hK K hHeld
      have hHeld := hHeld2
      clear hHeld2
      try simp only [Act.put]
      refine wpAnyV_take (i := 7) (v := .pointer (some ⟨mb, 4, none⟩)) 66 rfl rfl (by decide) (by kernel_rfl) (by kernel_rfl) (fun _ _ _ h => h) (Or.inl ⟨by rfl, ?_⟩) hHeld ?_
      · intro W hW
        try dsimp only at hW
        go_simp
      simp only [Act.put]
      refine wpAnyV_last (by kernel_rfl) rfl (by kernel_rfl) (fun K hK => ?_)
      go_simp
      refine hK.out _ _ ?_
      refine NoPanic.normal ?_
      -- VDNAH 0
      clear hHeld f7 c7 k0
      go_wp2_with (fail)
      exact ⟨⟨q + 1, _, _, by rw [x3]; rfl, hlt, R7.out⟩, by rw [x3]; exact mfLess q n hlt⟩
    · obtain rfl : q = n := by omega
      have x0 : ¬ (q : Int) < (q : Int) := by omega
      have x1 : decide ((q : Int) < (q : Int)) = false := decide_eq_false x0
      have h32 : 32 ≤ (rD r q).size := by rw [rD_size (by omega)]; omega
      have H32 := Lib.hid h32
      have HED := Lib.hid (fun (W : World) (hh : Rads 30 23 w eb mb base r hd q q A c W) => show Calls Tryd.prog 47 #[.pointer (some ⟨eb, 0, none⟩), .int .i64 32] W (RefSays W eb (.string (tkOut (rD r q) 32)) (tkRest (rD r q) 32) (tkBad (rD r q) false 32)) from ref_take W eb _ _ hh.eye (fun h => by cases h) 32)
      have HDG := Lib.hid (fun (W : World) => show Calls Tryd.prog 46 #[.string (tkOut (rD r q) 32)] W fun e w' => e = .returned (.agg (digF (sD r q))) ∧ Below W.heap.size W w' from by
        have := ref20_digest W (tkOut (rD r q) 32) (size_pos h32 (by omega))
        rw [dig_take r q h32] at this
        exact this)
      clear h32 hn1 hrs
      generalize tkOut (rD r q) 32 = X at *
      go_wp2_with (fail)
      refine (HED.out _ HR.out).mono ?_
      rintro e w8 ⟨rfl, e8, o8⟩
      have R8 := Lib.hid (HR.out.read H32.out e8 o8)
      clear e8 o8 HED HR
      go_wp2_with (fail)
      refine (HDG.out _).mono ?_
      rintro e w9 ⟨rfl, b9⟩
      have R9 := Lib.hid (R8.out.step b9)
      clear b9 R8 HDG
      have HT9 := Lib.hid (R9.out.grow.at_.there (digF (sD r q)).size (digF_size _))
      go_upto_region 14 with (with_reducible refine wpList_store_mid rfl 23 _ _ rfl mb 5 (digF (sD r q)) rfl rfl HT9.out (hiRD _) (hoDig _) ?_)
      have R10' := Lib.hid (R9.out.res (sD r q))
      refine gen_world (fun W => Rads 30 23 w eb mb base r { hd with res := sD r q } (q + 1) q A c W) R10'.out ?_
      rintro w10 r10
      have R10 := Lib.hid r10
      clear r10 R9 R10' HT9
      have HRR' := Lib.hid (show ({ ({ hd with res := sD r q } : Man) with sums := sumsD r q } : Man) = RM from HRR.out.symm)
      have HMR := Lib.hid (fun (W : World) (hh : Rads 30 23 w eb mb base r { hd with res := sD r q } (q + 1) q A c W) => show At W mb 30 RM A c ∧ SIn W A c RM.sums from by
        have h1 := hh.grow.at_
        have h2 := hh.grow.sin
        rw [HRR'.out] at h1 h2
        exact ⟨h1, h2⟩)
      have HSU := Lib.hid (show RM.sums = sumsD r q by rw [HRR.out])
      have HMC := Lib.hid (HMR.out _ R10.out).1.cells
      have HBY := Lib.hid (ref20_bytes w10 RM A c (HMR.out _ R10.out).2 (by rw [HSU.out, sumsD_length]; have := HN1.out; omega) (fun j => by
        have h1 := HIN.out j
        have h2 : nthM RM j = nthM hd j := by rw [HRR.out]; unfold nthM; split <;> rfl
        rw [h2]
        exact h1))
      have HEQ := Lib.hid (show ((⟨(textR RM).toArray⟩ : ByteArray).toList == s.toList) = same ro (rootF RM.sums) by
        rw [Bool.eq_iff_iff, beq_iff_eq, ByteArray.toList_eq, ByteArray.toList_eq]
        exact HTE.out HRS.out)
      have HPT := Lib.hid (show pm = if same ro (rootF RM.sums) = true then (RM, 0) else (zeroM, 6) from HPM.out.trans (if_pos ⟨HN1.out.1, HEN.out.2 HRS.out⟩))
      generalize same ro (rootF RM.sums) = sm at *
      generalize (⟨(textR RM).toArray⟩ : ByteArray) = Y at *
      go_wp2_with (with_reducible refine wpList_load_row rfl 30 _ rfl _ rfl 30 (manA RM A c) (0, 0) _ HMC.out Tryd.underlying30 rfl (HI.out RM A c) ?_)
      refine HBY.out.mono ?_
      rintro e w11 ⟨rfl, b11⟩
      have R11 := Lib.hid (R10.out.step b11)
      have HZ1 := Lib.hid R11.out.out.cells
      have HM1C := Lib.hid (HMR.out _ R11.out).1.cells
      clear b11 R10 HMC HBY
      cases sm with
      | false =>
        have HP := Lib.hid (show pm = (zeroM, 6) from HPT.out.trans (if_neg Bool.false_ne_true))
        have s1 : (Y.toList == s.toList) = false := HEQ.out
        have s2 : (Y.toList != s.toList) = true := by unfold bne; rw [HEQ.out]; rfl
        go_wp2_with (first
          | (refine wpList_build_to rfl 30 #[] rfl [] rfl _ zeroMan2 ?_)
          | (with_reducible refine wpList_store_row rfl 30 _ _ rfl _ (manA zeroM none 0) rfl rfl 30 _ HZ1.out (HI.out zeroM none 0) rfl (HO.out zeroM none 0) ?_))
        refine bodyPost_ret (mf_res_tmp rfl _ _ _ 30 (manA zeroM none 0) (0, 0) _ rfl (setRow_heap _ _ _ _ _ _ HZ1.out) Tryd.underlying30 rfl (HI.out zeroM none 0)) rfl ?_
        rw [HP.out]
        exact ⟨none, 0, rfl, HSZ.out _, HZB.out _ R11.out.below⟩
      | true =>
        have HP := Lib.hid (show pm = (RM, 0) from HPT.out.trans (if_pos rfl))
        have s1 : (Y.toList == s.toList) = true := HEQ.out
        have s2 : (Y.toList != s.toList) = false := by unfold bne; rw [HEQ.out]; rfl
        have HSN := Lib.hid (show SIn (w11.setRow w.heap.size (manA RM A c)) A c RM.sums by rw [HSU.out]; exact R11.out.sinOut _)
        go_wp2_with (first
          | (with_reducible refine wpList_load_row rfl 30 _ rfl _ rfl 30 (manA RM A c) (0, 0) _ HM1C.out Tryd.underlying30 rfl (HI.out RM A c) ?_)
          | (with_reducible refine wpList_store_row rfl 30 _ _ rfl _ (manA RM A c) rfl rfl 30 _ HZ1.out (HI.out RM A c) (by rw [manA_size, manA_size]) (HO.out RM A c) ?_))
        refine bodyPost_ret (mf_res_tmp rfl _ _ _ 30 (manA RM A c) (0, 0) _ rfl (setRow_heap _ _ _ _ _ _ HZ1.out) Tryd.underlying30 rfl (HI.out RM A c)) rfl ?_
        rw [HP.out]
        exact ⟨A, c, rfl, HSN.out, below_setRow' R11.out.below (Nat.le_refl _) _⟩
end Go.Proofs.YtgdckpldbofgfaaDoor
namespace Go.Proofs.YtgdckpldbofgfaaDoor.manifestParse
open Go.ChangeShapes Go.WideShapes Go.ChangeAt Go.RowKit Sh Pn Mf

theorem par_sums (s : ByteArray) : (parM s).1.sums.length ≤ 64 := by
  unfold parM
  split
  · split
    · show (sumsD _ (needT s)).length ≤ 64
      rw [sumsD_length]
      exact need_most _
    · exact Nat.zero_le _
  · exact Nat.zero_le _
theorem par_err (s : ByteArray) : (parM s).2 = 0 ∨ (parM s).2 = 5 ∨ (parM s).2 = 6 := by
  unfold parM
  split
  · split
    · exact .inl rfl
    · exact .inr (.inr rfl)
  · exact .inr (.inl rfl)
set_option maxRecDepth 100000 in
set_option maxHeartbeats 6400000 in
theorem walk (s : ByteArray) (w : World) (hT : Tabs w) :
    Calls Tryd.prog 4 #[.string s] w fun e w' => e = .returned (.bool true) ∧ Below w.heap.size w w' := by
  have HT := Lib.hid hT
  have HI := Lib.hid (fun m A k => manI m A k)
  have HI2 := Lib.hid (fun m A k => manI2 m A k)
  have HO := Lib.hid (fun m A k => manA_one m A k)
  have HPA := Lib.hid (fun (W : World) (hW : Below w.heap.size w W) => mf_parse W s (hT.below hW))
  have HRP := Lib.hid (fun (W : World) => ref20_parse W s)
  have HPS := Lib.hid (par_sums s)
  have HPE := Lib.hid (par_err s)
  clear hT
  generalize parM s = pm at *
  obtain ⟨m, er⟩ := pm
  have HAL := Lib.hid (fun (W : World) A k C d (h1 : SIn W A k m.sums) (h2 : SIn W C d m.sums) => law20_alike W m A k C d h1 h2 (by have := HPS.out; simp only at this; omega))
  go_enter Tryd.func4, Tryd.ntmps4
  go_wp2_with (fail)
  refine (awake20 _ HT.out).mono ?_
  rintro e w1 ⟨rfl, b1⟩
  have B1 := Lib.hid b1
  clear b1
  by_cases hs : 4096 < s.size
  · have t1 : decide (4096 < (s.size : Int)) = true := decide_eq_true (by omega)
    have t2 : decide (4096 < s.size) = true := decide_eq_true hs
    clear hs
    go_wp2_with (fail)
    exact bodyPost_ret (results_tmp rfl _ _ _) rfl ⟨rfl, B1.out⟩
  have t1 : decide (4096 < (s.size : Int)) = false := decide_eq_false (by omega)
  have t2 : decide (4096 < s.size) = false := decide_eq_false hs
  clear hs
  go_wp2_with (fail)
  refine (HPA.out _ B1.out).mono ?_
  rintro e w2 ⟨A, k, rfl, s2, b2⟩
  have B2 := Lib.hid (B1.out.trans (b2.mono B1.out.size))
  have S2 := Lib.hid s2
  clear b2 s2 B1 HPA t1 t2
  have HNW := Lib.hid (show ∀ o, (w2.alloc o).heap[w2.heap.size]? = some o from fun o => heap_alloc_new w2 o)
  have HXA := Lib.hid (fun c => at_store (w := w2) (t := 26) m A k c)
  go_wp2_with (with_reducible refine wpList_store_row rfl 26 _ _ rfl _ (manA m A k) rfl rfl 26 _ (HNW.out _) (HI.out m A k) (by rw [manA_size]; kernel_rfl) (HO.out m A k) ?_)
  refine mf_calls (fun W => At W w2.heap.size 26 m A k ∧ SIn W A k m.sums ∧ Below w.heap.size w W) ⟨(HXA.out _).1, S2.out.keep (HXA.out _).2, B2.out.trans ((HXA.out _).2.mono B2.out.size)⟩ ?_
  rintro w3 ⟨a3, s3, b3⟩
  have A3 := Lib.hid a3
  have S3 := Lib.hid s3
  have B3 := Lib.hid b3
  clear a3 s3 b3 HNW HXA B2 S2
  generalize w2.heap.size = mb at *
  refine (HRP.out w3).mono ?_
  rintro e w4 ⟨C, d, rfl, s4, b4⟩
  have A4 := Lib.hid (A3.out.keep b4)
  have S4 := Lib.hid (S3.out.keep b4)
  have R4 := Lib.hid s4
  have B4 := Lib.hid (B3.out.trans (b4.mono B3.out.size))
  clear b4 s4 A3 S3 B3 HRP
  have HNW := Lib.hid (show ∀ o, (w4.alloc o).heap[w4.heap.size]? = some o from fun o => heap_alloc_new w4 o)
  have HXA := Lib.hid (fun c => at_store (w := w4) (t := 30) m C d c)
  have HXM := Lib.hid (fun c => (A4.out.keep (HXA.out c).2).cells)
  have HXR := Lib.hid (fun c => (HXA.out c).1.cells)
  have e1 : (er == er) = true := beq_self_eq_true _
  go_wp2_with (first
    | (with_reducible refine wpList_store_row rfl 30 _ _ rfl _ (manA m C d) rfl rfl 30 _ (HNW.out _) (HI2.out m C d) (by rw [manA_size]; kernel_rfl) (HO.out m C d) ?_)
    | ((with_reducible refine wpList_load_row_g ?_ 26 _ rfl _ rfl 26 (manA m A k) (0, 0) _ (HXM.out _) Tryd.underlying26 rfl (HI.out m A k) ?_); rfl)
    | ((with_reducible refine wpList_load_row_g ?_ 30 _ rfl _ rfl 30 (manA m C d) (0, 0) _ (HXR.out _) Tryd.underlying30 rfl (HI2.out m C d) ?_); rfl))
  refine mf_calls (fun W => SIn W A k m.sums ∧ SIn W C d m.sums ∧ Below w.heap.size w W) ⟨S4.out.keep (HXA.out _).2, R4.out.keep (HXA.out _).2, B4.out.trans ((HXA.out _).2.mono B4.out.size)⟩ ?_
  rintro w5 ⟨s5, r5, b5⟩
  refine (HAL.out w5 A k C d s5 r5).mono ?_
  rintro e w6 ⟨rfl, b6⟩
  have B6 := Lib.hid (b5.trans (b6.mono b5.size))
  clear s5 r5 b5 b6
  go_wp2_with (fail)
  exact bodyPost_ret (results_tmp rfl _ _ _) rfl ⟨rfl, B6.out⟩
end Go.Proofs.YtgdckpldbofgfaaDoor.manifestParse
