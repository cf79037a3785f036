/-
  The walk of ManifestCuts. Condition: both tables of sha lie as the program's text lays them.
-/
import Derived.Test.YtgdckpldbofgfaaDoorMg21
import Derived.Test.YtgdckpldbofgfaaDoorMg17
set_option maxRecDepth 100000
namespace Go.Proofs.YtgdckpldbofgfaaDoor.manifestCuts
open Go.ChangeShapes Go.WideShapes Go.ChangeAt Go.RowKit Sh Pn Mf Sp

set_option maxRecDepth 100000 in
set_option maxHeartbeats 6400000 in
theorem walk (p : ByteArray) (chunk a : Int) (f : Nat → UInt8) (w : World) (hT : Tabs w) :
    Calls Tryd.prog 6 #[.string p, .int .i64 chunk, .int .i64 a, .agg (digF f)] w fun e w' => e = .returned (.bool true) ∧ Below w.heap.size w w' := by
  have HT := Lib.hid hT
  have HI := Lib.hid (fun m A k => manI m A k)
  have HO := Lib.hid (fun m A k => manA_one m A k)
  have HB0 := Lib.hid ((Below.refl w.heap.size w).alloc (Nat.le_refl _) (.cells (digF f) 24))
  have HX0 := Lib.hid (heap_alloc_new w (.cells (digF f) 24))
  obtain ⟨j, hj, hjj⟩ := cut64 chunk 40 (by omega)
  have hjj' : (IntKind.u64.wrap chunk).tmod 40 = (j : Int) := hjj
  have y1 := IntWalk.wrap64_in (j : Int) (by omega)
  obtain ⟨K, hK⟩ : ∃ K, j + 1 = K := ⟨_, rfl⟩
  have HK := Lib.hid (show 1 ≤ K ∧ K ≤ 40 by omega)
  have y2 : wrap64 (1 + (j : Int)) = (K : Int) := by rw [show (1 : Int) + (j : Int) = (K : Int) by omega]; exact IntWalk.wrap64_in _ (by omega)
  clear hT hjj hK hj
  go_enter Tryd.func6, Tryd.ntmps6
  go_wp2_with (fail)
  refine (awake20 _ (HT.out.below HB0.out)).mono ?_
  rintro e w1 ⟨rfl, b1⟩
  have HX1 := Lib.hid ((b1.block _ (by simp)).trans HX0.out)
  have HB1 := Lib.hid (HB0.out.trans (b1.mono HB0.out.size))
  clear b1 HX0 HB0
  go_upto_region 4 with (fail)
  clear hjj' y1
  try rw [y2]
  clear y2
  by_cases h1 : 300 < p.size
  · have t1 : decide (300 < (p.size : Int)) = true := decide_eq_true (by omega)
    have t2 : decide (300 < p.size) = true := decide_eq_true h1
    clear h1
    go_wp2_with (fail)
    exact bodyPost_ret (results_tmp rfl _ _ _) rfl ⟨rfl, HB1.out⟩
  have t1 : decide (300 < (p.size : Int)) = false := decide_eq_false (by omega)
  have t2 : decide (300 < p.size) = false := decide_eq_false h1
  by_cases h2 : p.size = 0
  · have t3 : ((p.size : Int) == 0) = true := by rw [h2]; rfl
    have t4 : (p.size == 0) = true := by rw [h2]; rfl
    clear h1 h2
    go_wp2_with (fail)
    exact bodyPost_ret (results_tmp rfl _ _ _) rfl ⟨rfl, HB1.out⟩
  have t3 : ((p.size : Int) == 0) = false := beq_eq_false_iff_ne.2 (by omega)
  have t4 : (p.size == 0) = false := beq_eq_false_iff_ne.2 (by omega)
  have hk := HK.out
  have hq := cntN_quot (s := (p.size : Int)) (c := (K : Int)) (by omega) (by omega)
  simp only [Int.toNat_natCast] at hq
  obtain ⟨n, hn⟩ : ∃ n, cntN p.size K = n := ⟨_, rfl⟩
  have hn0 := cntN_pos (s := p.size) (c := K) hk.1 (by omega)
  have hn1 : cntN p.size K ≤ 400 := by
    unfold cntN
    exact Nat.div_le_of_le_mul (by omega)
  rw [hn] at hq hn0 hn1
  have y7 := IntWalk.wrap64_in (n : Int) (by omega)
  have HN := Lib.hid hn
  have y1 := IntWalk.wrap64_in ((p.size : Int) + (K : Int)) (by omega)
  have y2 := IntWalk.wrap64_in ((p.size : Int) + (K : Int) - 1) (by omega)
  have y3 : ¬ (K : Int) = 0 := by omega
  have y4 : ((K : Int) == 0) = false := beq_eq_false_iff_ne.2 y3
  have y5 : ¬ (K : Int) = -1 := by omega
  have y6 : ((K : Int) == -1) = false := beq_eq_false_iff_ne.2 y5
  have HS1 := Lib.hid (show 1 ≤ p.size ∧ p.size ≤ 300 by omega)
  clear h1 h2 hk hn
  by_cases h3 : 64 < n
  · have t5 : decide (64 < (n : Int)) = true := decide_eq_true (by omega)
    have t6 : decide (64 < n) = true := decide_eq_true h3
    clear h3
    go_wp2_with (fail)
    exact bodyPost_ret (results_tmp rfl _ _ _) rfl ⟨rfl, HB1.out⟩
  have t5 : decide (64 < (n : Int)) = false := decide_eq_false (by omega)
  have t6 : decide (64 < n) = false := decide_eq_false h3
  have HN2 := Lib.hid (show 1 ≤ n ∧ n ≤ 64 by omega)
  obtain ⟨M1, M2⟩ := made (b := 1) (v := 2) (c := K) (p := p) (f := f) (by omega) (by omega) (by omega) (by omega) (by omega) HS1.out.1 (by have := HS1.out; omega) HK.out.1 (by have := HK.out; omega) (by rw [HN.out]; omega)
  obtain ⟨m, hm⟩ : ∃ m : Man, m = ⟨1, 2, p.size, K, sumsP p K (cntN p.size K), f⟩ := ⟨_, rfl⟩
  rw [← hm] at M1 M2
  have HM := Lib.hid hm
  have HM2 := Lib.hid M2
  have HMK := Lib.hid (fun (W : World) (hW : Below w.heap.size w W) => show Calls Tryd.prog 23 #[.int .i64 1, .int .i64 2, .int .i64 (K : Int), .string p, .agg (digF f)] W fun e w' => ∃ A k, e = .returned (.tuple #[.agg (manA m A k), .int .i64 0]) ∧ SIn w' A k m.sums ∧ Below W.heap.size W w' from by
    have := mf_make W 1 2 K p f (by have := HS1.out; omega) (HT.out.below hW)
    rw [M1] at this
    exact this)
  clear M1 M2 h3 hm
  have HDF := Lib.hid (hiDigF f)
  go_wp2_with (with_reducible refine wpList_load_row rfl 24 _ rfl _ rfl 24 (digF f) (0, 0) _ HX1.out Tryd.underlying24 rfl HDF.out ?_)
  clear t1 t2 t3 t4 t5 t6 y1 y2 y3 y4 y5 y6 y7 hq hn0 hn1
  refine (HMK.out _ HB1.out).mono ?_
  rintro e w2 ⟨A, k, rfl, s2, b2⟩
  have HB2 := Lib.hid (HB1.out.trans (b2.mono HB1.out.size))
  have HX2 := Lib.hid ((b2.block _ (Array.getElem?_eq_some_iff.1 HX1.out).1).trans HX1.out)
  have HS2 := Lib.hid s2
  clear b2 s2 HMK HB1 HX1
  have HNW := Lib.hid (show ∀ o, (w2.alloc o).heap[w2.heap.size]? = some o from fun o => heap_alloc_new w2 o)
  have HXA := Lib.hid (fun c => at_store (w := w2) (t := 26) m A k c)
  have HH2 := Lib.hid (fun c => show Held 26 24 w w2.heap.size m A k f ((w2.alloc (.cells c 26)).setRow w2.heap.size (manA m A k)) from
    ⟨(HXA.out c).1, HS2.out.keep (HXA.out c).2, ((HXA.out c).2.block _ (Array.getElem?_eq_some_iff.1 HX2.out).1).trans HX2.out, HB2.out.trans ((HXA.out c).2.mono HB2.out.size), (Array.getElem?_eq_some_iff.1 HX2.out).1⟩)
  go_upto_region 7 with (with_reducible refine wpList_store_row rfl 26 _ _ rfl _ (manA m A k) rfl rfl 26 _ (HNW.out _) (HI.out m A k) (by rw [manA_size]; kernel_rfl) (HO.out m A k) ?_)
  refine gen_world (fun W => Held 26 24 w w2.heap.size m A k f W) (HH2.out _) ?_
  rintro w3 h3
  have H3 := Lib.hid h3
  clear h3 HNW HXA HH2 HX2 HS2 HB2
  generalize w2.heap.size = mb at *
  have HSU := Lib.hid (sumTo_all p.size K HK.out.1)
  rw [HN.out] at HSU
  have HCO := Lib.hid (fun W => show Calls Tryd.prog 11 #[.agg (manA m A k)] W fun e w' => e = .returned (.int .i64 (n : Int)) ∧ Below W.heap.size W w' from by
    have := mf_count W m A k
    rw [HM2.out, HN.out] at this
    exact this)
  have HLE := Lib.hid (fun (W : World) (i : Nat) (hi : i < n) => show Calls Tryd.prog 12 #[.agg (manA m A k), .int .i64 (i : Int)] W fun e w' => e = .returned (.int .i64 (lenN p.size K i : Int)) ∧ Below W.heap.size W w' from by
    have := mf_length W m A k (i : Int)
    rw [HM.out, made_length (by rw [← HM.out]; exact HM2.out) i (by rw [HN.out]; exact hi), ← HM.out] at this
    exact this)
  go_wp2_with (fail)
  go_loopw [12, 13] (fun sm i wr => ∃ q : Nat, sm = .int .i64 (sumTo p.size K q : Int) ∧ i = .int .i64 (q : Int) ∧ q ≤ n ∧ Held 26 24 w mb m A k f wr) (fun _ i _ => match i with | .int _ q => n - q.toNat | _ => 0)
  case atStart => exact ⟨0, rfl, rfl, Nat.zero_le _, H3.out⟩
  case round =>
    clear H3
    obtain ⟨q, rfl, rfl, hq, hr⟩ := hrel
    have HR := Lib.hid hr
    have HMC := Lib.hid hr.one.cells
    clear hr
    go_wp2_with (with_reducible refine wpList_load_row rfl 26 _ rfl _ rfl 26 (manA m A k) (0, 0) _ HMC.out Tryd.underlying26 rfl (HI.out _ A k) ?_)
    refine (HCO.out _).mono ?_
    rintro e w4 ⟨rfl, b4⟩
    have HR4 := Lib.hid (HR.out.step b4)
    have HMC4 := Lib.hid HR4.out.one.cells
    clear b4 HR HMC
    by_cases hlt : q < n
    · have x0 : (q : Int) < (n : Int) := by omega
      have x1 : decide ((q : Int) < (n : Int)) = true := decide_eq_true x0
      have hn := HN2.out
      have x3 := IntWalk.wrap64_in ((q : Int) + 1) (by omega)
      have hsl : sumTo p.size K q + lenN p.size K q ≤ 300 := by
        have h1 := sumTo_next p.size K (q + 1)
        have h2 : sumTo p.size K (q + 1) = sumTo p.size K q + lenN p.size K q := rfl
        have := HS1.out
        omega
      have x4 := IntWalk.wrap64_in ((sumTo p.size K q : Int) + (lenN p.size K q : Int)) (by omega)
      have HSQ := Lib.hid (show sumTo p.size K (q + 1) = sumTo p.size K q + lenN p.size K q from rfl)
      have HLQ := Lib.hid (fun W => HLE.out W q hlt)
      generalize sumTo p.size K q = S at *
      generalize lenN p.size K q = L at *
      clear hsl hn
      go_wp2_with (with_reducible refine wpList_load_row rfl 26 _ rfl _ rfl 26 (manA m A k) (0, 0) _ HMC4.out Tryd.underlying26 rfl (HI.out _ A k) ?_)
      refine (HLQ.out _).mono ?_
      rintro e w5 ⟨rfl, b5⟩
      have HR5 := Lib.hid (HR4.out.step b5)
      clear b5 HR4 HMC4
      go_wp2_with (fail)
      exact ⟨⟨q + 1, by rw [HSQ.out, x4]; rfl, by rw [x3]; rfl, by omega, HR5.out⟩, by rw [x3]; exact mfLess q n hlt⟩
    · obtain rfl : q = n := by omega
      have x0 : ¬ (q : Int) < (q : Int) := by omega
      have x1 : decide ((q : Int) < (q : Int)) = false := decide_eq_false x0
      rw [HSU.out]
      -- TAIL
      have hq0 := HN2.out
      obtain ⟨i, hi, hii⟩ := cut64 a q hq0.1
      have u1 := u64_in q (by omega)
      have u2 := IntWalk.wrap64_in (i : Int) (by omega)
      have z1 : ¬ (q : Int) = 0 := by omega
      have z2 : ((q : Int) == 0) = false := beq_eq_false_iff_ne.2 z1
      have HII := Lib.hid hi
      clear hq0 hi
      go_wp2_with (with_reducible refine wpList_load_row rfl 26 _ rfl _ rfl 26 (manA m A k) (0, 0) _ HMC4.out Tryd.underlying26 rfl (HI.out _ A k) ?_)
      refine (HCO.out _).mono ?_
      rintro e w5 ⟨rfl, b5⟩
      have HR5 := Lib.hid (HR4.out.step b5)
      have HMC5 := Lib.hid HR5.out.one.cells
      clear b5 HR4 HMC4
      go_wp2_with (with_reducible refine wpList_load_row rfl 26 _ rfl _ rfl 26 (manA m A k) (0, 0) _ HMC5.out Tryd.underlying26 rfl (HI.out _ A k) ?_)
      obtain ⟨X, hX⟩ : ∃ X, X = p.extract (i * K) (i * K + lenN p.size K i) := ⟨_, rfl⟩
      have HIN := Lib.hid (show i < cntN p.size K by rw [HN.out]; exact HII.out)
      have HMP := Lib.hid (show countM ⟨1, 2, p.size, K, sumsP p K (cntN p.size K), f⟩ = cntN p.size K by rw [← HM.out]; exact HM2.out)
      have HPT := Lib.hid (fun W => show Calls Tryd.prog 14 #[.agg (manA m A k), .int .i64 (i : Int), .string p] W fun e w' => e = .returned (.string X) ∧ Below W.heap.size W w' from by
        have := mf_part W m A k (i : Int) p (by have := HS1.out; omega)
        rw [HM.out, made_part HK.out.1 HMP.out i HIN.out, ← HM.out, ← hX] at this
        exact this)
      have HXS := Lib.hid (show X.size = lenN p.size K i ∧ 1 ≤ X.size ∧ X.size ≤ 300 by
        have h1 : X.size = lenN p.size K i := by rw [hX]; exact made_part_size HK.out.1 HIN.out
        have h2 := lenN_pos HK.out.1 HIN.out
        have h3 := lenN_within HK.out.1 HIN.out
        have := HS1.out
        omega)
      have HLM := Lib.hid (show lengthM m (i : Int) = lenN p.size K i by rw [HM.out]; exact made_length HMP.out i HIN.out)
      clear hX
      refine (HPT.out _).mono ?_
      rintro e w6 ⟨rfl, b6⟩
      have HR6 := Lib.hid (HR5.out.step b6)
      have HMC6 := Lib.hid HR6.out.one.cells
      clear b6 HR5 HMC5 HPT hii u1 u2 z1 z2 x0 x1
      have HNW := Lib.hid (show ∀ o, (w6.alloc o).heap[w6.heap.size]? = some o from fun o => heap_alloc_new w6 o)
      have HXA := Lib.hid (fun c => at_store (w := w6) (t := 26) m A k c)
      have HST := Lib.hid (fun W (hW : Below w6.heap.size w6 W) => HR6.out.step hW)
      have HXL := Lib.hid (show mb < w6.heap.size ∧ w.heap.size < w6.heap.size from ⟨HR6.out.one.lt, Nat.lt_trans HR6.out.lt HR6.out.one.lt⟩)
      go_upto_region 17 with (first
        | (with_reducible refine wpList_load_row rfl 26 _ rfl _ rfl 26 (manA m A k) (0, 0) _ HMC6.out Tryd.underlying26 rfl (HI.out _ A k) ?_)
        | (with_reducible refine wpList_store_row rfl 26 _ _ rfl _ (manA m A k) rfl rfl 26 _ (HNW.out _) (HI.out m A k) (by rw [manA_size]; kernel_rfl) (HO.out m A k) ?_))
      refine gen_world (fun W => Below w6.heap.size w6 W ∧ At W w6.heap.size 26 m A k) ⟨(HXA.out _).2, (HXA.out _).1⟩ ?_
      rintro w7 ⟨b7, a7⟩
      have HB7 := Lib.hid b7
      have HA7 := Lib.hid a7
      clear b7 a7 HNW HXA HMC6 HR6
      generalize w6.heap.size = xb at *
      simp only [Act.put]
      have HML := Lib.hid (count_sums (m := m) (n := q) (by rw [HM2.out, HN.out]) HN2.out.1)
      go_cut [81] (fun v wx => ∃ (B : Option Addr) (r : Nat), v = .slice B (q + 1) r ∧ Below xb w6 wx ∧ At wx xb 26 { m with sums := m.sums ++ [f] } B r)
      case first =>
        obtain ⟨i0, hi0, hz0, hz1, hz2⟩ := info_parts infoD
        have HI0 := Lib.hid hi0
        have HZ0 := Lib.hid hz0
        have HZ1 := Lib.hid hz1
        have HZ2 := Lib.hid hz2
        have h7 := HST.out _ HB7.out
        obtain ⟨pb, po, rfl, hdg⟩ := h7.sin.2 (by rw [HML.out]; exact HN2.out.1)
        have HDG := Lib.hid hdg
        have HPB := Lib.hid (digs_lt hdg (by rw [HML.out]; exact HN2.out.1))
        have HQ2 := Lib.hid HN2.out
        have HH7 := Lib.hid h7
        have HKS := Lib.hid (show ∀ W, Below w7.heap.size w7 W → W.cell? ⟨mb, 4, none⟩ = some (.slice (some ⟨pb, po, none⟩) q k) ∧ W.rangeAt w.heap.size 0 (digF f).toList from fun W hW => by
          have h8 := h7.step hW
          have h9 := h8.one.sums
          rw [HML.out] at h9
          exact ⟨h9, fun j u hj => by rw [Nat.zero_add, cell_of_row _ _ _ _ _ _ h8.res, ← hj, Array.getElem?_toList]⟩)
        have b00 : Below w7.heap.size w7 w7.drew := below_drewN (Below.refl _ _) 1
        have k0 := HKS.out _ b00
        have HDI := Lib.hid (digIL f)
        have HDF' := Lib.hid (hoDig f)
        clear hi0 hz0 hz1 hz2 h7 hdg
        refine wp_region_noPanic ?_
        refine wp_region_heldV (S := (fun W : World => W.cell? ⟨mb, 4, none⟩ = some (.slice (some ⟨pb, po, none⟩) q k) ∧ W.rangeAt w.heap.size 0 (digF f).toList)) 8 (by kernel_rfl) (by kernel_rfl) (by kernel_rfl) (by kernel_rfl) (by decide) k0 (fun hHeld => ?_)
        refine wpAnyV_take (i := 1) (v := .pointer (some ⟨mb, 4, none⟩)) 76 rfl rfl (by decide) (by kernel_rfl) (by kernel_rfl) (fun _ _ _ h => h) (Or.inl ⟨by rfl, ?_⟩) hHeld ?_
        · intro W hW
          try dsimp only at hW
          go_simp
        simp only [Act.put, List.setIfInBounds_toArray, List.set_cons_succ, List.set_cons_zero]
        refine wpAnyV_take (i := 2) (v := .slice (some ⟨pb, po, none⟩) q k) 77 rfl rfl (by decide) (by kernel_rfl) (by kernel_rfl) (fun _ _ _ h => h) (Or.inl ⟨by rfl, ?_⟩) hHeld ?_
        · intro W hW
          try dsimp only at hW
          go_simp
        simp only [Act.put, List.setIfInBounds_toArray, List.set_cons_succ, List.set_cons_zero]
        refine wpAnyV_take (i := 4) (v := .agg (digF f).toList.toArray) 79 rfl rfl (by decide) (by kernel_rfl) (by kernel_rfl) (fun _ _ _ h => h) (yieldsIf_load_mid (by rfl) 24 _ rfl w.heap.size 0 rfl (digF f).toList _ (fun W hW => hW.2) Tryd.underlying24 rfl HDI.out) hHeld ?_
        simp only [Act.put, List.setIfInBounds_toArray, List.set_cons_succ, List.set_cons_zero]
        refine wpAnyV_two (i := 0) (j := 5) (by kernel_rfl) rfl rfl (by decide) (by decide) (fun K hK => ?_) (fun K hK => ?_)
        · skip
          refine step_buildNone (by rfl) 22 24 (by rfl) i0 Tryd.underlying22 HI0.out ?_
          have h1a : Below w7.drew.heap.size w7.drew (w7.drew.alloc (.cells (#[]) 24)) := (Below.refl _ _).alloc (Nat.le_refl _) _
          have hb1 := b00.alloc b00.size (.cells (#[]) 24)
          have ho1 : World.ownsRow (w7.drew.alloc (.cells (#[]) 24)) w7.heap.size 24 32 (.slice (some ⟨w7.drew.heap.size, 0, none⟩) 0 0) 0 [] := World.ownsRow_made _ #[] 0 b00.size (Nat.zero_le _) rfl
          clear h1a
          have hsz1 : w7.drew.heap.size = w7.heap.size := rfl
          generalize hgg1 : w7.drew.heap.size = g1 at ho1 ⊢
          generalize w7.drew.alloc (.cells (#[]) 24) = v1 at hb1 ho1 ⊢
          refine hK.out _ _ (HKS.out _ hb1) (fun hHeld2 => ?_)
          clear hK K hHeld
          have hHeld := hHeld2
          clear hHeld2
          simp only [Act.put, List.setIfInBounds_toArray]
          refine wpAnyV_two (i := 3) (j := 5) (by kernel_rfl) rfl rfl (by decide) (by decide) (fun K hK => ?_) (fun K hK => ?_)
          · skip
            refine step_append_lies _ (by rfl) (.tmp 75) (.tmp 77) 22 (by rfl) w7.heap.size 24 i0 _ 32 32 Tryd.underlying22 HI0.out HZ0.out HZ1.out HZ2.out (vals_size 32 _) (by omega) (.slice (some ⟨g1, 0, none⟩) 0 0) 0 [] (by rfl) ho1 ⟨pb, po, none⟩ q k (dcells m.sums) (by rfl) (by rw [dcells_length, HML.out]; omega) (fun j u hj => by rw [Addr.add_lit]; exact (HDG.out.keep hb1 HPB.out) j u hj) (dcells_one _) HQ2.out.1 (by have := HQ2.out; unfold maxLen; omega) (by have := HQ2.out; omega) hb1.size _ rfl ?_
            intro a2 c2 v2 ho2 hgr2 _ _
            have hb2 := hb1.grown hgr2 hb1.size (fun i hi => (ho1.lt i hi).1)
            refine hK.out _ _ (HKS.out _ hb2) (fun hHeld2 => ?_)
            clear hK K hHeld
            have hHeld := hHeld2
            clear hHeld2
            simp only [Act.put]
            refine wpAnyV_one (i := 5) (by kernel_rfl) rfl (by decide) (fun K hK => ?_)
            refine step_buildTo (by rfl) 22 24 1 #[(0, .tmp 79)] (by rfl) Tryd.underlying22 (digF f) (by rw [Array.toList_map]; exact dgOneS _) ?_
            have h3a : Below v2.heap.size v2 (v2.alloc (.cells (digF f) 24)) := (Below.refl _ _).alloc (Nat.le_refl _) _
            have hb3 := hb2.alloc hb2.size (.cells (digF f) 24)
            have hn3 : ∀ j u, (digF f).toList[j]? = some u → (v2.alloc (.cells (digF f) 24)).cell? ((⟨v2.heap.size, 0, none⟩ : Addr).add j) = some u := fun j u hj => by rw [Addr.add_lit, Nat.zero_add, cell_of_row _ _ _ _ _ _ (heap_alloc_new v2 _), ← hj, Array.getElem?_toList]
            have ho3 := own_below ho2 h3a
            have hne : v2.heap.size ≠ a2 := Nat.ne_of_gt (ho2.lt a2 rfl).2
            clear h3a
            generalize v2.heap.size = g3 at ho3 hn3 hne ⊢
            generalize v2.alloc (.cells (digF f) 24) = v3 at hb3 ho3 hn3 ⊢
            refine hK.out _ _ (HKS.out _ hb3) (fun hHeld2 => ?_)
            clear hK K hHeld
            have hHeld := hHeld2
            clear hHeld2
            simp only [Act.put]
            refine wpAnyV_one (i := 6) (by kernel_rfl) rfl (by decide) (fun K hK => ?_)
            refine step_append_lies _ (by rfl) (.tmp 78) (.tmp 80) 22 (by rfl) w7.heap.size 24 i0 _ 32 32 Tryd.underlying22 HI0.out HZ0.out HZ1.out HZ2.out (vals_size 32 _) (by omega) (.slice (some ⟨a2, 0, none⟩) (0 + q) c2) (0 + q) _ (by simp only [Nat.zero_add]; rfl) ho3 ⟨g3, 0, none⟩ 1 1 (digF f).toList (by rfl) (by rw [Array.length_toList, Nat.one_mul]; exact vals_size 32 _) hn3 (fun u hu => Array.all_eq_true_iff_forall_mem.1 HDF'.out u (by simpa using hu)) (by omega) (by have := HQ2.out; unfold maxLen; omega) (by have := HQ2.out; omega) hb3.size _ rfl ?_
            intro a4 c4 v4 ho4 hgr4 _ _
            have hb4 := hb3.grown hgr4 hb3.size (fun i hi => (ho3.lt i hi).1)
            refine hK.out _ _ (HKS.out _ hb4) (fun hHeld2 => ?_)
            clear hK K hHeld
            have hHeld := hHeld2
            clear hHeld2
            simp only [Act.put]
            have a9 := HA7.out.keep hb4
            have c9 := a9.sums
            have f9 := a9.fz 4
            refine wpAnyV_take (i := 7) (v := .pointer (some ⟨xb, 4, none⟩)) 82 rfl rfl (by decide) (by kernel_rfl) (by kernel_rfl) (fun _ _ _ h => h) (Or.inl ⟨by rfl, ?_⟩) hHeld ?_
            · intro W hW
              try dsimp only at hW
              go_simp
            simp only [Act.put]
            refine wpAnyV_last (by kernel_rfl) rfl (by kernel_rfl) (fun K hK => ?_)
            go_simp
            refine hK.out _ _ ?_
            refine NoPanic.normal ?_
            clear hHeld c9 f9
            have hz := (HB7.out.trans (hb4.mono (Nat.le_of_lt HA7.out.lt))).setCell (p := ⟨xb, 4, none⟩) (Nat.le_refl _) (.slice (some ⟨a4, 0, none⟩) (q + 1) c4)
            have az := a9.setSums (m.sums ++ [f]) (some ⟨a4, 0, none⟩) (q + 1) c4 (by rw [List.length_append, HML.out]; rfl)
            have HZZ := Lib.hid hz
            have HAZ := Lib.hid az
            clear hz az a9
            go_wp2_with (fail)
            go_meet
            exact ⟨_, _, rfl, HZZ.out, HAZ.out⟩
          · skip
            refine step_buildTo (by rfl) 22 24 1 #[(0, .tmp 79)] (by rfl) Tryd.underlying22 (digF f) (by rw [Array.toList_map]; exact dgOneS _) ?_
            have h5a : Below v1.heap.size v1 (v1.alloc (.cells (digF f) 24)) := (Below.refl _ _).alloc (Nat.le_refl _) _
            have hb5 := hb1.alloc hb1.size (.cells (digF f) 24)
            have hn5 : ∀ j u, (digF f).toList[j]? = some u → (v1.alloc (.cells (digF f) 24)).cell? ((⟨v1.heap.size, 0, none⟩ : Addr).add j) = some u := fun j u hj => by rw [Addr.add_lit, Nat.zero_add, cell_of_row _ _ _ _ _ _ (heap_alloc_new v1 _), ← hj, Array.getElem?_toList]
            have ho5 := own_below ho1 h5a
            have hne : v1.heap.size ≠ g1 := Nat.ne_of_gt (ho1.lt g1 rfl).2
            clear h5a
            generalize v1.heap.size = g5 at ho5 hn5 hne ⊢
            generalize v1.alloc (.cells (digF f) 24) = v5 at hb5 ho5 hn5 ⊢
            refine hK.out _ _ (HKS.out _ hb5) (fun hHeld2 => ?_)
            clear hK K hHeld
            have hHeld := hHeld2
            clear hHeld2
            simp only [Act.put]
            refine wpAnyV_one (i := 3) (by kernel_rfl) rfl (by decide) (fun K hK => ?_)
            refine step_append_lies _ (by rfl) (.tmp 75) (.tmp 77) 22 (by rfl) w7.heap.size 24 i0 _ 32 32 Tryd.underlying22 HI0.out HZ0.out HZ1.out HZ2.out (vals_size 32 _) (by omega) (.slice (some ⟨g1, 0, none⟩) 0 0) 0 [] (by rfl) ho5 ⟨pb, po, none⟩ q k (dcells m.sums) (by rfl) (by rw [dcells_length, HML.out]; omega) (fun j u hj => by rw [Addr.add_lit]; exact (HDG.out.keep hb5 HPB.out) j u hj) (dcells_one _) HQ2.out.1 (by have := HQ2.out; unfold maxLen; omega) (by have := HQ2.out; omega) hb5.size _ rfl ?_
            intro a6 c6 v6 ho6 hgr6 _ _
            have hb6 := hb5.grown hgr6 hb5.size (fun i hi => (ho5.lt i hi).1)
            have hn6 : ∀ j u, (digF f).toList[j]? = some u → v6.cell? ((⟨g5, 0, none⟩ : Addr).add j) = some u := fun j u hj => by
              have h := hn5 j u hj
              rw [Addr.add_lit] at h ⊢
              exact (World.cell?_of_block (hgr6.block _ (block_lt_of_cell h) (fun e => hne (Option.some.inj e)))).trans h
            refine hK.out _ _ (HKS.out _ hb6) (fun hHeld2 => ?_)
            clear hK K hHeld
            have hHeld := hHeld2
            clear hHeld2
            simp only [Act.put]
            refine wpAnyV_one (i := 6) (by kernel_rfl) rfl (by decide) (fun K hK => ?_)
            refine step_append_lies _ (by rfl) (.tmp 78) (.tmp 80) 22 (by rfl) w7.heap.size 24 i0 _ 32 32 Tryd.underlying22 HI0.out HZ0.out HZ1.out HZ2.out (vals_size 32 _) (by omega) (.slice (some ⟨a6, 0, none⟩) (0 + q) c6) (0 + q) _ (by simp only [Nat.zero_add]; rfl) ho6 ⟨g5, 0, none⟩ 1 1 (digF f).toList (by rfl) (by rw [Array.length_toList, Nat.one_mul]; exact vals_size 32 _) hn6 (fun u hu => Array.all_eq_true_iff_forall_mem.1 HDF'.out u (by simpa using hu)) (by omega) (by have := HQ2.out; unfold maxLen; omega) (by have := HQ2.out; omega) hb6.size _ rfl ?_
            intro a7 c7 v7 ho7 hgr7 _ _
            have hb7 := hb6.grown hgr7 hb6.size (fun i hi => (ho6.lt i hi).1)
            refine hK.out _ _ (HKS.out _ hb7) (fun hHeld2 => ?_)
            clear hK K hHeld
            have hHeld := hHeld2
            clear hHeld2
            simp only [Act.put]
            have a9 := HA7.out.keep hb7
            have c9 := a9.sums
            have f9 := a9.fz 4
            refine wpAnyV_take (i := 7) (v := .pointer (some ⟨xb, 4, none⟩)) 82 rfl rfl (by decide) (by kernel_rfl) (by kernel_rfl) (fun _ _ _ h => h) (Or.inl ⟨by rfl, ?_⟩) hHeld ?_
            · intro W hW
              try dsimp only at hW
              go_simp
            simp only [Act.put]
            refine wpAnyV_last (by kernel_rfl) rfl (by kernel_rfl) (fun K hK => ?_)
            go_simp
            refine hK.out _ _ ?_
            refine NoPanic.normal ?_
            clear hHeld c9 f9
            have hz := (HB7.out.trans (hb7.mono (Nat.le_of_lt HA7.out.lt))).setCell (p := ⟨xb, 4, none⟩) (Nat.le_refl _) (.slice (some ⟨a7, 0, none⟩) (q + 1) c7)
            have az := a9.setSums (m.sums ++ [f]) (some ⟨a7, 0, none⟩) (q + 1) c7 (by rw [List.length_append, HML.out]; rfl)
            have HZZ := Lib.hid hz
            have HAZ := Lib.hid az
            clear hz az a9
            go_wp2_with (fail)
            go_meet
            exact ⟨_, _, rfl, HZZ.out, HAZ.out⟩
        · skip
          refine step_buildTo (by rfl) 22 24 1 #[(0, .tmp 79)] (by rfl) Tryd.underlying22 (digF f) (by rw [Array.toList_map]; exact dgOneS _) ?_
          have h8a : Below w7.drew.heap.size w7.drew (w7.drew.alloc (.cells (digF f) 24)) := (Below.refl _ _).alloc (Nat.le_refl _) _
          have hb8 := b00.alloc b00.size (.cells (digF f) 24)
          have hn8 : ∀ j u, (digF f).toList[j]? = some u → (w7.drew.alloc (.cells (digF f) 24)).cell? ((⟨w7.drew.heap.size, 0, none⟩ : Addr).add j) = some u := fun j u hj => by rw [Addr.add_lit, Nat.zero_add, cell_of_row _ _ _ _ _ _ (heap_alloc_new w7.drew _), ← hj, Array.getElem?_toList]
          clear h8a
          have hsz8 : w7.drew.heap.size = w7.heap.size := rfl
          generalize hgg8 : w7.drew.heap.size = g8 at hn8 ⊢
          generalize w7.drew.alloc (.cells (digF f) 24) = v8 at hb8 hn8 ⊢
          refine hK.out _ _ (HKS.out _ hb8) (fun hHeld2 => ?_)
          clear hK K hHeld
          have hHeld := hHeld2
          clear hHeld2
          simp only [Act.put, List.setIfInBounds_toArray]
          refine wpAnyV_one (i := 0) (by kernel_rfl) rfl (by decide) (fun K hK => ?_)
          refine step_buildNone (by rfl) 22 24 (by rfl) i0 Tryd.underlying22 HI0.out ?_
          have h9a : Below v8.heap.size v8 (v8.alloc (.cells (#[]) 24)) := (Below.refl _ _).alloc (Nat.le_refl _) _
          have hb9 := hb8.alloc hb8.size (.cells (#[]) 24)
          have ho9 : World.ownsRow (v8.alloc (.cells (#[]) 24)) w7.heap.size 24 32 (.slice (some ⟨v8.heap.size, 0, none⟩) 0 0) 0 [] := World.ownsRow_made _ #[] 0 hb8.size (Nat.zero_le _) rfl
          have hn9 : ∀ j u, (digF f).toList[j]? = some u → (v8.alloc (.cells (#[]) 24)).cell? ((⟨g8, 0, none⟩ : Addr).add j) = some u := fun j u hj => by
            have h := hn8 j u hj
            rw [Addr.add_lit] at h ⊢
            exact (h9a.cell (block_lt_of_cell h)).trans h
          have hne : g8 ≠ v8.heap.size := by
            have h0 : (digF f).toList[0]? = some (.int .u8 ((f 0).toNat : Int)) := by rw [Array.getElem?_toList]; exact vals_get 32 _ 0 (by omega)
            have h := block_lt_of_cell (hn8 0 _ h0)
            rw [Addr.add_lit] at h
            exact Nat.ne_of_lt h
          clear h9a
          generalize v8.heap.size = g9 at ho9 hn9 hne ⊢
          generalize v8.alloc (.cells (#[]) 24) = v9 at hb9 ho9 hn9 ⊢
          refine hK.out _ _ (HKS.out _ hb9) (fun hHeld2 => ?_)
          clear hK K hHeld
          have hHeld := hHeld2
          clear hHeld2
          simp only [Act.put]
          refine wpAnyV_one (i := 3) (by kernel_rfl) rfl (by decide) (fun K hK => ?_)
          refine step_append_lies _ (by rfl) (.tmp 75) (.tmp 77) 22 (by rfl) w7.heap.size 24 i0 _ 32 32 Tryd.underlying22 HI0.out HZ0.out HZ1.out HZ2.out (vals_size 32 _) (by omega) (.slice (some ⟨g9, 0, none⟩) 0 0) 0 [] (by rfl) ho9 ⟨pb, po, none⟩ q k (dcells m.sums) (by rfl) (by rw [dcells_length, HML.out]; omega) (fun j u hj => by rw [Addr.add_lit]; exact (HDG.out.keep hb9 HPB.out) j u hj) (dcells_one _) HQ2.out.1 (by have := HQ2.out; unfold maxLen; omega) (by have := HQ2.out; omega) hb9.size _ rfl ?_
          intro a10 c10 v10 ho10 hgr10 _ _
          have hb10 := hb9.grown hgr10 hb9.size (fun i hi => (ho9.lt i hi).1)
          have hn10 : ∀ j u, (digF f).toList[j]? = some u → v10.cell? ((⟨g8, 0, none⟩ : Addr).add j) = some u := fun j u hj => by
            have h := hn9 j u hj
            rw [Addr.add_lit] at h ⊢
            exact (World.cell?_of_block (hgr10.block _ (block_lt_of_cell h) (fun e => hne (Option.some.inj e)))).trans h
          refine hK.out _ _ (HKS.out _ hb10) (fun hHeld2 => ?_)
          clear hK K hHeld
          have hHeld := hHeld2
          clear hHeld2
          simp only [Act.put]
          refine wpAnyV_one (i := 6) (by kernel_rfl) rfl (by decide) (fun K hK => ?_)
          refine step_append_lies _ (by rfl) (.tmp 78) (.tmp 80) 22 (by rfl) w7.heap.size 24 i0 _ 32 32 Tryd.underlying22 HI0.out HZ0.out HZ1.out HZ2.out (vals_size 32 _) (by omega) (.slice (some ⟨a10, 0, none⟩) (0 + q) c10) (0 + q) _ (by simp only [Nat.zero_add]; rfl) ho10 ⟨g8, 0, none⟩ 1 1 (digF f).toList (by rfl) (by rw [Array.length_toList, Nat.one_mul]; exact vals_size 32 _) hn10 (fun u hu => Array.all_eq_true_iff_forall_mem.1 HDF'.out u (by simpa using hu)) (by omega) (by have := HQ2.out; unfold maxLen; omega) (by have := HQ2.out; omega) hb10.size _ rfl ?_
          intro a11 c11 v11 ho11 hgr11 _ _
          have hb11 := hb10.grown hgr11 hb10.size (fun i hi => (ho10.lt i hi).1)
          refine hK.out _ _ (HKS.out _ hb11) (fun hHeld2 => ?_)
          clear hK K hHeld
          have hHeld := hHeld2
          clear hHeld2
          simp only [Act.put]
          have a9 := HA7.out.keep hb11
          have c9 := a9.sums
          have f9 := a9.fz 4
          refine wpAnyV_take (i := 7) (v := .pointer (some ⟨xb, 4, none⟩)) 82 rfl rfl (by decide) (by kernel_rfl) (by kernel_rfl) (fun _ _ _ h => h) (Or.inl ⟨by rfl, ?_⟩) hHeld ?_
          · intro W hW
            try dsimp only at hW
            go_simp
          simp only [Act.put]
          refine wpAnyV_last (by kernel_rfl) rfl (by kernel_rfl) (fun K hK => ?_)
          go_simp
          refine hK.out _ _ ?_
          refine NoPanic.normal ?_
          clear hHeld c9 f9
          have hz := (HB7.out.trans (hb11.mono (Nat.le_of_lt HA7.out.lt))).setCell (p := ⟨xb, 4, none⟩) (Nat.le_refl _) (.slice (some ⟨a11, 0, none⟩) (q + 1) c11)
          have az := a9.setSums (m.sums ++ [f]) (some ⟨a11, 0, none⟩) (q + 1) c11 (by rw [List.length_append, HML.out]; rfl)
          have HZZ := Lib.hid hz
          have HAZ := Lib.hid az
          clear hz az a9
          go_wp2_with (fail)
          go_meet
          exact ⟨_, _, rfl, HZZ.out, HAZ.out⟩
      case rest =>
        obtain ⟨B, r, rfl, bc, ac⟩ := hcut
        obtain ⟨mx, hmx⟩ : ∃ mx : Man, mx = { m with sums := m.sums ++ [f] } := ⟨_, rfl⟩
        obtain ⟨ml, hml⟩ : ∃ ml : Man, ml = { m with sums := m.sums.drop 1 } := ⟨_, rfl⟩
        rw [← hmx] at ac
        have hcm : countM m = q := by rw [HM2.out, HN.out]
        have HG1 := Lib.hid (show countM mx = 0 by rw [hmx]; exact count_other hcm HN2.out.1 _ (by rw [List.length_append, HML.out]; simp))
        have HG2 := Lib.hid (show countM ml = 0 by rw [hml]; exact count_other hcm HN2.out.1 _ (by rw [List.length_drop, HML.out]; have := HN2.out; omega))
        have HLL := Lib.hid (show ml.sums.length = q - 1 by rw [hml]; show (m.sums.drop 1).length = _; rw [List.length_drop, HML.out])
        have HMLS := Lib.hid (show ml = { m with sums := ml.sums } by rw [hml])
        have HBC := Lib.hid bc
        have HAC := Lib.hid ac
        have HHC := Lib.hid (HST.out _ bc)
        have HMC := Lib.hid HHC.out.one.cells
        have HXA := Lib.hid (fun c => at_store (w := wc) (t := 26) m A k c)
        have HNW := Lib.hid (show ∀ o, (wc.alloc o).heap[wc.heap.size]? = some o from fun o => heap_alloc_new wc o)
        have HXC := Lib.hid (Nat.le_of_lt ac.lt)
        clear bc ac hmx hml hcm
        go_upto_region 19 with (first
          | (with_reducible refine wpList_load_row rfl 26 _ rfl _ rfl 26 (manA m A k) (0, 0) _ HMC.out Tryd.underlying26 rfl (HI.out _ A k) ?_)
          | (with_reducible refine wpList_store_row rfl 26 _ _ rfl _ (manA m A k) rfl rfl 26 _ (HNW.out _) (HI.out m A k) (by rw [manA_size]; kernel_rfl) (HO.out m A k) ?_))
        refine gen_world (fun W => Below xb w6 W ∧ At W xb 26 mx B r ∧ At W wc.heap.size 26 m A k) ⟨HBC.out.trans ((HXA.out _).2.mono HXC.out), HAC.out.keep (HXA.out _).2, (HXA.out _).1⟩ ?_
        rintro w8 ⟨b8, x8, a8⟩
        have HB8 := Lib.hid b8
        have HX8 := Lib.hid x8
        have HA8 := Lib.hid a8
        have HLB := Lib.hid (show xb < wc.heap.size from HAC.out.lt)
        clear b8 x8 a8 HXA HNW HMC HHC HAC HBC HXC
        generalize wc.heap.size = lb at *
        have e4 : w8.cell? ⟨mb, 4, none⟩ = some (.slice A q k) := by
          have := (HST.out _ HB8.out).one.sums
          rwa [HML.out] at this
        have c4 := HA8.out.sums
        have f4 := HA8.out.fz 4
        obtain ⟨C, hC⟩ := cut_digs A q k HN2.out.1
        have HBL := Lib.hid (HB8.out.setCell (p := ⟨lb, 4, none⟩) (show xb ≤ lb from Nat.le_of_lt HLB.out) (.slice C (q - 1) (k - 1)))
        have HXL8 := Lib.hid (HX8.out.of_block (heap_setCell_other w8 ⟨lb, 4, none⟩ xb (.slice C (q - 1) (k - 1)) (by show xb ≠ lb; have := HLB.out; omega)))
        have HAL := Lib.hid (HA8.out.setSums ml.sums C (q - 1) (k - 1) HLL.out.symm)
        rw [← HMLS.out] at HAL
        have n1 : (1 : Int) ≤ (q : Int) := by have := HN2.out; omega
        go_upto_region 20 with (fail)
        refine gen_world (fun W => Below xb w6 W ∧ At W xb 26 mx B r ∧ At W lb 26 ml C (k - 1)) ⟨HBL.out, HXL8.out, HAL.out⟩ ?_
        rintro w9 ⟨b9, x9, a9⟩
        have HH9 := Lib.hid (HST.out _ b9)
        have HX9 := Lib.hid x9
        have HA9 := Lib.hid a9
        have HTX := Lib.hid HXS.out
        generalize k - 1 = kl at *
        clear b9 x9 a9 e4 c4 f4 hC HBL HXL8 HAL HB8 HX8 HA8 n1
        have HKS := Lib.hid (show ∀ W, Below w9.heap.size w9 W → W.rangeAt mb 0 (manA m A k).toList ∧ W.rangeAt xb 0 (manA mx B r).toList ∧ W.rangeAt lb 0 (manA ml C kl).toList from fun W hW =>
          ⟨(HH9.out.one.keep hW).row, (HX9.out.keep hW).row, (HA9.out.keep hW).row⟩)
        have HTB := Lib.hid (fun (W : World) (hW : Below w9.heap.size w9 W) => HT.out.below (HH9.out.step hW).below)
        have HC1 := Lib.hid (fun (W : World) (hW : Below w9.heap.size w9 W) => show Calls Tryd.prog 16 #[.agg (manA m A k), .int .i64 (i : Int), .string (X ++ ⟨#[120]⟩)] W fun e w' => e = .returned (.int .i64 5) ∧ Below W.heap.size W w' from by
          have hsz : (X ++ ⟨#[120]⟩ : ByteArray).size = X.size + 1 := by rw [ByteArray.size_append]; rfl
          have := mf_check W m A k (i : Int) (X ++ ⟨#[120]⟩) (by rw [hsz]; have := HTX.out; omega) (HH9.out.sin.keep hW) (HTB.out W hW)
          rw [check_size (by rw [HLM.out]; have := HTX.out; omega) (by rw [HLM.out, hsz]; have := HTX.out; omega)] at this
          exact this)
        have HC2 := Lib.hid (fun (W : World) (hW : Below w9.heap.size w9 W) => show Calls Tryd.prog 16 #[.agg (manA m A k), .int .i64 (i : Int), .string (X.extract 1 X.size)] W fun e w' => e = .returned (.int .i64 5) ∧ Below W.heap.size W w' from by
          have hsz : (X.extract 1 X.size).size = X.size - 1 := by rw [ByteArray.size_extract, Nat.min_self]
          have := mf_check W m A k (i : Int) (X.extract 1 X.size) (by rw [hsz]; have := HTX.out; omega) (HH9.out.sin.keep hW) (HTB.out W hW)
          rw [check_size (by rw [HLM.out]; have := HTX.out; omega) (by rw [HLM.out, hsz]; have := HTX.out; omega)] at this
          exact this)
        have HGX := Lib.hid (fun (W : World) => show Calls Tryd.prog 10 #[.agg (manA mx B r)] W fun e w' => e = .returned (.bool false) ∧ Below W.heap.size W w' from by
          have := mf_good W mx B r
          rw [HG1.out] at this
          exact this)
        have HGL := Lib.hid (fun (W : World) => show Calls Tryd.prog 10 #[.agg (manA ml C kl)] W fun e w' => e = .returned (.bool false) ∧ Below W.heap.size W w' from by
          have := mf_good W ml C kl
          rw [HG2.out] at this
          exact this)
        have HC3 := Lib.hid (fun (W : World) => mf_check_none W mx B r (i : Int) X (made_out (by rw [HG1.out]; omega)))
        have b00 : Below w9.heap.size w9 w9.drew := below_drewN (Below.refl _ _) 1
        have k0 := HKS.out _ b00
        have HI1 := Lib.hid (manIL m A k)
        have HI2 := Lib.hid (manIL mx B r)
        have HI3 := Lib.hid (manIL ml C kl)
        have hxf := fun (W : World) => str_from X 1 1 rfl HTX.out.2.1 W
        have s1 : ¬ 9223372036854775807 < X.size + 1 := by have := HTX.out; omega
        have s2 : ((p.size : Int) == (p.size : Int)) = true := beq_self_eq_true _
        have hsx : (⟨#[120]⟩ : ByteArray).size = 1 := rfl
        go_wp2_with (fail)
        -- HAND
        refine wp_region_noPanic ?_
        refine wp_region_held_drew (S := (fun W : World => W.rangeAt mb 0 (manA m A k).toList ∧ W.rangeAt xb 0 (manA mx B r).toList ∧ W.rangeAt lb 0 (manA ml C kl).toList)) (by kernel_rfl) k0 (fun hHeld => ?_)
        refine wpAnyH_takeAt (i := 0) (v := .int .i64 (p.size : Int)) 88 rfl rfl (by kernel_rfl) (by kernel_rfl) (by kernel_rfl) (fun _ _ _ h => h) (Or.inl ⟨by rfl, ?_⟩) hHeld ?_
        · intro W hW
          try dsimp only at hW
          go_simp
        simp only [Act.put, List.setIfInBounds_toArray, List.set_cons_succ, List.set_cons_zero]
        refine wpAnyH_takeAt (i := 1) (v := .string p) 89 rfl rfl (by kernel_rfl) (by kernel_rfl) (by kernel_rfl) (fun _ _ _ h => h) (Or.inl ⟨by rfl, ?_⟩) hHeld ?_
        · intro W hW
          try dsimp only at hW
          go_simp
        simp only [Act.put, List.setIfInBounds_toArray, List.set_cons_succ, List.set_cons_zero]
        refine wpAnyH_takeAt (i := 2) (v := .int .i64 (p.size : Int)) 90 rfl rfl (by kernel_rfl) (by kernel_rfl) (by kernel_rfl) (fun _ _ _ h => h) (Or.inl ⟨by rfl, ?_⟩) hHeld ?_
        · intro W hW
          try dsimp only at hW
          go_simp
        simp only [Act.put, List.setIfInBounds_toArray, List.set_cons_succ, List.set_cons_zero]
        refine wpAnyH_takeAt (i := 3) (v := .bool true) 91 rfl rfl (by kernel_rfl) (by kernel_rfl) (by kernel_rfl) (fun _ _ _ h => h) (Or.inl ⟨by rfl, ?_⟩) hHeld ?_
        · intro W hW
          try dsimp only at hW
          go_simp
        simp only [Act.put, List.setIfInBounds_toArray, List.set_cons_succ, List.set_cons_zero]
        refine wpAnyH_takeAt (i := 4) (v := .bool true) 92 rfl rfl (by kernel_rfl) (by kernel_rfl) (by kernel_rfl) (fun _ _ _ h => h) (Or.inl ⟨by rfl, ?_⟩) hHeld ?_
        · intro W hW
          try dsimp only at hW
          go_simp
        simp only [Act.put, List.setIfInBounds_toArray, List.set_cons_succ, List.set_cons_zero]
        refine wpAnyH_takeAt (i := 5) (v := .agg (manA m A k).toList.toArray) 93 rfl rfl (by kernel_rfl) (by kernel_rfl) (by kernel_rfl) (fun _ _ _ h => h) (yieldsIf_load_mid (by rfl) 26 _ rfl mb (0) rfl (manA m A k).toList _ (fun W hW => hW.1) Tryd.underlying26 rfl HI1.out) hHeld ?_
        simp only [Act.put, List.setIfInBounds_toArray, List.set_cons_succ, List.set_cons_zero]
        refine wpAnyH_takeAt (i := 6) (v := .int .i64 (i : Int)) 94 rfl rfl (by kernel_rfl) (by kernel_rfl) (by kernel_rfl) (fun _ _ _ h => h) (Or.inl ⟨by rfl, ?_⟩) hHeld ?_
        · intro W hW
          try dsimp only at hW
          go_simp
        simp only [Act.put, List.setIfInBounds_toArray, List.set_cons_succ, List.set_cons_zero]
        refine wpAnyH_takeAt (i := 7) (v := .string X) 95 rfl rfl (by kernel_rfl) (by kernel_rfl) (by kernel_rfl) (fun _ _ _ h => h) (Or.inl ⟨by rfl, ?_⟩) hHeld ?_
        · intro W hW
          try dsimp only at hW
          go_simp
        simp only [Act.put, List.setIfInBounds_toArray, List.set_cons_succ, List.set_cons_zero]
        refine wpAnyH_takeAt (i := 8) (v := .string (X ++ ⟨#[120]⟩)) 96 rfl rfl (by kernel_rfl) (by kernel_rfl) (by kernel_rfl) (fun _ _ _ h => h) (Or.inl ⟨by rfl, ?_⟩) hHeld ?_
        · intro W hW
          try dsimp only at hW
          go_simp
        simp only [Act.put, List.setIfInBounds_toArray, List.set_cons_succ, List.set_cons_zero]
        refine wpAnyH_ready (rs := [9]) (by kernel_rfl) (by simp) ?_
        refine AllReadyH.cons rfl (fun K hK => ?_) AllReadyH.nil
        go_simp
        refine (HC1.out _ b00).mono ?_
        rintro e w10 ⟨rfl, b10⟩
        have hk1 := b00.trans (b10.mono b00.size)
        clear b10
        refine hK.out _ _ (HKS.out _ hk1) (fun hHeld2 => ?_)
        clear hK K hHeld
        have hHeld := hHeld2
        clear hHeld2
        try simp only [Act.put, List.setIfInBounds_toArray, List.set_cons_succ, List.set_cons_zero]
        refine wpAnyH_takeAt (i := 10) (v := .bool true) 98 rfl rfl (by kernel_rfl) (by kernel_rfl) (by kernel_rfl) (fun _ _ _ h => h) (Or.inl ⟨by rfl, ?_⟩) hHeld ?_
        · intro W hW
          try dsimp only at hW
          go_simp
        simp only [Act.put, List.setIfInBounds_toArray, List.set_cons_succ, List.set_cons_zero]
        refine wpAnyH_takeAt (i := 11) (v := .bool true) 99 rfl rfl (by kernel_rfl) (by kernel_rfl) (by kernel_rfl) (fun _ _ _ h => h) (Or.inl ⟨by rfl, ?_⟩) hHeld ?_
        · intro W hW
          try dsimp only at hW
          go_simp
        simp only [Act.put, List.setIfInBounds_toArray, List.set_cons_succ, List.set_cons_zero]
        refine wpAnyH_takeAt (i := 12) (v := .bool true) 100 rfl rfl (by kernel_rfl) (by kernel_rfl) (by kernel_rfl) (fun _ _ _ h => h) (Or.inl ⟨by rfl, ?_⟩) hHeld ?_
        · intro W hW
          try dsimp only at hW
          go_simp
        simp only [Act.put, List.setIfInBounds_toArray, List.set_cons_succ, List.set_cons_zero]
        refine wpAnyH_takeAt (i := 13) (v := .agg (manA m A k).toList.toArray) 101 rfl rfl (by kernel_rfl) (by kernel_rfl) (by kernel_rfl) (fun _ _ _ h => h) (yieldsIf_load_mid (by rfl) 26 _ rfl mb (0) rfl (manA m A k).toList _ (fun W hW => hW.1) Tryd.underlying26 rfl HI1.out) hHeld ?_
        simp only [Act.put, List.setIfInBounds_toArray, List.set_cons_succ, List.set_cons_zero]
        refine wpAnyH_takeAt (i := 14) (v := .int .i64 (i : Int)) 102 rfl rfl (by kernel_rfl) (by kernel_rfl) (by kernel_rfl) (fun _ _ _ h => h) (Or.inl ⟨by rfl, ?_⟩) hHeld ?_
        · intro W hW
          try dsimp only at hW
          go_simp
        simp only [Act.put, List.setIfInBounds_toArray, List.set_cons_succ, List.set_cons_zero]
        refine wpAnyH_takeAt (i := 15) (v := .string X) 103 rfl rfl (by kernel_rfl) (by kernel_rfl) (by kernel_rfl) (fun _ _ _ h => h) (Or.inl ⟨by rfl, ?_⟩) hHeld ?_
        · intro W hW
          try dsimp only at hW
          go_simp
        simp only [Act.put, List.setIfInBounds_toArray, List.set_cons_succ, List.set_cons_zero]
        refine wpAnyH_takeAt (i := 16) (v := .string (X.extract 1 X.size)) 104 rfl rfl (by kernel_rfl) (by kernel_rfl) (by kernel_rfl) (fun _ _ _ h => h) (Or.inl ⟨by rfl, ?_⟩) hHeld ?_
        · intro W hW
          try dsimp only at hW
          go_simp
        simp only [Act.put, List.setIfInBounds_toArray, List.set_cons_succ, List.set_cons_zero]
        refine wpAnyH_ready (rs := [17]) (by kernel_rfl) (by simp) ?_
        refine AllReadyH.cons rfl (fun K hK => ?_) AllReadyH.nil
        go_simp
        refine (HC2.out _ hk1).mono ?_
        rintro e w11 ⟨rfl, b11⟩
        have hk2 := hk1.trans (b11.mono hk1.size)
        clear b11
        refine hK.out _ _ (HKS.out _ hk2) (fun hHeld2 => ?_)
        clear hK K hHeld
        have hHeld := hHeld2
        clear hHeld2
        try simp only [Act.put, List.setIfInBounds_toArray, List.set_cons_succ, List.set_cons_zero]
        refine wpAnyH_takeAt (i := 18) (v := .bool true) 106 rfl rfl (by kernel_rfl) (by kernel_rfl) (by kernel_rfl) (fun _ _ _ h => h) (Or.inl ⟨by rfl, ?_⟩) hHeld ?_
        · intro W hW
          try dsimp only at hW
          go_simp
        simp only [Act.put, List.setIfInBounds_toArray, List.set_cons_succ, List.set_cons_zero]
        refine wpAnyH_takeAt (i := 19) (v := .bool true) 107 rfl rfl (by kernel_rfl) (by kernel_rfl) (by kernel_rfl) (fun _ _ _ h => h) (Or.inl ⟨by rfl, ?_⟩) hHeld ?_
        · intro W hW
          try dsimp only at hW
          go_simp
        simp only [Act.put, List.setIfInBounds_toArray, List.set_cons_succ, List.set_cons_zero]
        refine wpAnyH_takeAt (i := 20) (v := .bool true) 108 rfl rfl (by kernel_rfl) (by kernel_rfl) (by kernel_rfl) (fun _ _ _ h => h) (Or.inl ⟨by rfl, ?_⟩) hHeld ?_
        · intro W hW
          try dsimp only at hW
          go_simp
        simp only [Act.put, List.setIfInBounds_toArray, List.set_cons_succ, List.set_cons_zero]
        refine wpAnyH_takeAt (i := 21) (v := .agg (manA mx B r).toList.toArray) 109 rfl rfl (by kernel_rfl) (by kernel_rfl) (by kernel_rfl) (fun _ _ _ h => h) (yieldsIf_load_mid (by rfl) 26 _ rfl xb (0) rfl (manA mx B r).toList _ (fun W hW => hW.2.1) Tryd.underlying26 rfl HI2.out) hHeld ?_
        simp only [Act.put, List.setIfInBounds_toArray, List.set_cons_succ, List.set_cons_zero]
        refine wpAnyH_ready (rs := [22]) (by kernel_rfl) (by simp) ?_
        refine AllReadyH.cons rfl (fun K hK => ?_) AllReadyH.nil
        go_simp
        refine (HGX.out _).mono ?_
        rintro e w12 ⟨rfl, b12⟩
        have hk3 := hk2.trans (b12.mono hk2.size)
        clear b12
        refine hK.out _ _ (HKS.out _ hk3) (fun hHeld2 => ?_)
        clear hK K hHeld
        have hHeld := hHeld2
        clear hHeld2
        try simp only [Act.put, List.setIfInBounds_toArray, List.set_cons_succ, List.set_cons_zero]
        refine wpAnyH_takeAt (i := 23) (v := .bool true) 111 rfl rfl (by kernel_rfl) (by kernel_rfl) (by kernel_rfl) (fun _ _ _ h => h) (Or.inl ⟨by rfl, ?_⟩) hHeld ?_
        · intro W hW
          try dsimp only at hW
          go_simp
        simp only [Act.put, List.setIfInBounds_toArray, List.set_cons_succ, List.set_cons_zero]
        refine wpAnyH_takeAt (i := 24) (v := .bool true) 112 rfl rfl (by kernel_rfl) (by kernel_rfl) (by kernel_rfl) (fun _ _ _ h => h) (Or.inl ⟨by rfl, ?_⟩) hHeld ?_
        · intro W hW
          try dsimp only at hW
          go_simp
        simp only [Act.put, List.setIfInBounds_toArray, List.set_cons_succ, List.set_cons_zero]
        refine wpAnyH_takeAt (i := 25) (v := .bool true) 113 rfl rfl (by kernel_rfl) (by kernel_rfl) (by kernel_rfl) (fun _ _ _ h => h) (Or.inl ⟨by rfl, ?_⟩) hHeld ?_
        · intro W hW
          try dsimp only at hW
          go_simp
        simp only [Act.put, List.setIfInBounds_toArray, List.set_cons_succ, List.set_cons_zero]
        refine wpAnyH_takeAt (i := 26) (v := .agg (manA ml C kl).toList.toArray) 114 rfl rfl (by kernel_rfl) (by kernel_rfl) (by kernel_rfl) (fun _ _ _ h => h) (yieldsIf_load_mid (by rfl) 26 _ rfl lb (0) rfl (manA ml C kl).toList _ (fun W hW => hW.2.2) Tryd.underlying26 rfl HI3.out) hHeld ?_
        simp only [Act.put, List.setIfInBounds_toArray, List.set_cons_succ, List.set_cons_zero]
        refine wpAnyH_ready (rs := [27]) (by kernel_rfl) (by simp) ?_
        refine AllReadyH.cons rfl (fun K hK => ?_) AllReadyH.nil
        go_simp
        refine (HGL.out _).mono ?_
        rintro e w13 ⟨rfl, b13⟩
        have hk4 := hk3.trans (b13.mono hk3.size)
        clear b13
        refine hK.out _ _ (HKS.out _ hk4) (fun hHeld2 => ?_)
        clear hK K hHeld
        have hHeld := hHeld2
        clear hHeld2
        try simp only [Act.put, List.setIfInBounds_toArray, List.set_cons_succ, List.set_cons_zero]
        refine wpAnyH_takeAt (i := 28) (v := .bool true) 116 rfl rfl (by kernel_rfl) (by kernel_rfl) (by kernel_rfl) (fun _ _ _ h => h) (Or.inl ⟨by rfl, ?_⟩) hHeld ?_
        · intro W hW
          try dsimp only at hW
          go_simp
        simp only [Act.put, List.setIfInBounds_toArray, List.set_cons_succ, List.set_cons_zero]
        refine wpAnyH_takeAt (i := 29) (v := .bool true) 117 rfl rfl (by kernel_rfl) (by kernel_rfl) (by kernel_rfl) (fun _ _ _ h => h) (Or.inl ⟨by rfl, ?_⟩) hHeld ?_
        · intro W hW
          try dsimp only at hW
          go_simp
        simp only [Act.put, List.setIfInBounds_toArray, List.set_cons_succ, List.set_cons_zero]
        refine wpAnyH_takeAt (i := 30) (v := .bool true) 118 rfl rfl (by kernel_rfl) (by kernel_rfl) (by kernel_rfl) (fun _ _ _ h => h) (Or.inl ⟨by rfl, ?_⟩) hHeld ?_
        · intro W hW
          try dsimp only at hW
          go_simp
        simp only [Act.put, List.setIfInBounds_toArray, List.set_cons_succ, List.set_cons_zero]
        refine wpAnyH_takeAt (i := 31) (v := .agg (manA mx B r).toList.toArray) 119 rfl rfl (by kernel_rfl) (by kernel_rfl) (by kernel_rfl) (fun _ _ _ h => h) (yieldsIf_load_mid (by rfl) 26 _ rfl xb (0) rfl (manA mx B r).toList _ (fun W hW => hW.2.1) Tryd.underlying26 rfl HI2.out) hHeld ?_
        simp only [Act.put, List.setIfInBounds_toArray, List.set_cons_succ, List.set_cons_zero]
        refine wpAnyH_takeAt (i := 32) (v := .int .i64 (i : Int)) 120 rfl rfl (by kernel_rfl) (by kernel_rfl) (by kernel_rfl) (fun _ _ _ h => h) (Or.inl ⟨by rfl, ?_⟩) hHeld ?_
        · intro W hW
          try dsimp only at hW
          go_simp
        simp only [Act.put, List.setIfInBounds_toArray, List.set_cons_succ, List.set_cons_zero]
        refine wpAnyH_takeAt (i := 33) (v := .string X) 121 rfl rfl (by kernel_rfl) (by kernel_rfl) (by kernel_rfl) (fun _ _ _ h => h) (Or.inl ⟨by rfl, ?_⟩) hHeld ?_
        · intro W hW
          try dsimp only at hW
          go_simp
        simp only [Act.put, List.setIfInBounds_toArray, List.set_cons_succ, List.set_cons_zero]
        refine wpAnyH_ready (rs := [34]) (by kernel_rfl) (by simp) ?_
        refine AllReadyH.cons rfl (fun K hK => ?_) AllReadyH.nil
        go_simp
        refine (HC3.out _).mono ?_
        rintro e w14 ⟨rfl, b14⟩
        have hk5 := hk4.trans (b14.mono hk4.size)
        clear b14
        refine hK.out _ _ (HKS.out _ hk5) (fun hHeld2 => ?_)
        clear hK K hHeld
        have hHeld := hHeld2
        clear hHeld2
        try simp only [Act.put, List.setIfInBounds_toArray, List.set_cons_succ, List.set_cons_zero]
        refine wpAnyH_takeAt (i := 35) (v := .bool true) 123 rfl rfl (by kernel_rfl) (by kernel_rfl) (by kernel_rfl) (fun _ _ _ h => h) (Or.inl ⟨by rfl, ?_⟩) hHeld ?_
        · intro W hW
          try dsimp only at hW
          go_simp
        simp only [Act.put, List.setIfInBounds_toArray, List.set_cons_succ, List.set_cons_zero]
        refine wpAnyH_takeAt (i := 36) (v := .bool true) 124 rfl rfl (by kernel_rfl) (by kernel_rfl) (by kernel_rfl) (fun _ _ _ h => h) (Or.inl ⟨by rfl, ?_⟩) hHeld ?_
        · intro W hW
          try dsimp only at hW
          go_simp
        simp only [Act.put, List.setIfInBounds_toArray, List.set_cons_succ, List.set_cons_zero]
        refine wpAnyH_takeAt (i := 37) (v := .bool true) 8 rfl rfl (by kernel_rfl) (by kernel_rfl) (by kernel_rfl) (fun _ _ _ h => h) (Or.inl ⟨by rfl, ?_⟩) hHeld ?_
        · intro W hW
          try dsimp only at hW
          go_simp
        simp only [Act.put, List.setIfInBounds_toArray, List.set_cons_succ, List.set_cons_zero]
        refine wpAnyH_done (by kernel_rfl) ?_ _
        refine NoPanic.normal ?_
        -- DNAH
        have HFB := Lib.hid (HH9.out.step hk5).below
        clear hHeld k0 b00 hk1 hk2 hk3 hk4 hk5 hxf s1 s2 hsx
        go_wp2_with (fail)
        exact bodyPost_ret (results_tmp rfl _ _ _) rfl ⟨rfl, HFB.out⟩
end Go.Proofs.YtgdckpldbofgfaaDoor.manifestCuts
