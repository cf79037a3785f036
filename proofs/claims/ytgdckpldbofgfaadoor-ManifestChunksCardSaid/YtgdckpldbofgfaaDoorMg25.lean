/-
  For the walk of ManifestChunks: the chunks, one behind the other, are the patch. No program here. No conditions.
  The walk of ManifestChunks. Condition: both tables of sha lie as the program's text lays them.
-/
import Derived.Test.YtgdckpldbofgfaaDoorMg21
import Derived.Test.YtgdckpldbofgfaaDoorMg17
set_option maxRecDepth 100000
namespace Go.Proofs.YtgdckpldbofgfaaDoor
open Go.ChangeShapes Go.WideShapes Go.ChangeAt Go.RowKit Sh Pn Mf

namespace Mf
/-! The chunks, one behind the other. -/
def allB (p : ByteArray) (c q : Nat) : ByteArray := ⟨(p.data.toList.take (q * c)).toArray⟩
theorem allB_zero (p : ByteArray) (c : Nat) : allB p c 0 = ⟨#[]⟩ := by
  unfold allB
  rw [Nat.zero_mul, List.take_zero]
theorem allB_next (p : ByteArray) (c q : Nat) : allB p c q ++ p.extract (q * c) (q * c + lenN p.size c q) = allB p c (q + 1) := by
  apply ByteArray.ext
  rw [ByteArray.data_append]
  apply Array.ext'
  rw [Array.toList_append, piece_extract]
  unfold allB pieceL
  show p.data.toList.take (q * c) ++ _ = p.data.toList.take ((q + 1) * c)
  rw [Nat.add_mul, Nat.one_mul, List.take_add]
theorem allB_size (p : ByteArray) (c q : Nat) : (allB p c q).size ≤ p.size := by
  unfold allB
  rw [Pn.size_list, List.length_take]
  exact Nat.min_le_right _ _
theorem allB_all (p : ByteArray) (c : Nat) (hc : 1 ≤ c) : allB p c (cntN p.size c) = p := by
  unfold allB
  have h := cntN_lo (s := p.size) hc
  rw [List.take_of_length_le (show p.data.toList.length ≤ _ from h)]
/-- Two manifests beside a third one. -/
structure Three (t td : TypeId) (w : World) (mb nb xb : Nat) (m n x : Man) (A : Option Addr) (k : Nat) (B : Option Addr) (r : Nat) (W : World) : Prop where
  one : At W mb t m A k
  two : At W nb t n B r
  tri : At W xb t x B r
  s1 : SIn W A k m.sums
  s2 : SIn W B r n.sums
  below : Below w.heap.size w W
theorem Three.step {t td : TypeId} {w W W' : World} {mb nb xb : Nat} {m n x : Man} {A : Option Addr} {k : Nat} {B : Option Addr} {r : Nat} (h : Three t td w mb nb xb m n x A k B r W) (hb : Below W.heap.size W W') : Three t td w mb nb xb m n x A k B r W' :=
  ⟨h.one.keep hb, h.two.keep hb, h.tri.keep hb, h.s1.keep hb, h.s2.keep hb, h.below.trans (hb.mono h.below.size)⟩
end Mf
end Go.Proofs.YtgdckpldbofgfaaDoor
namespace Go.Proofs.YtgdckpldbofgfaaDoor.manifestChunks
open Go.ChangeShapes Go.WideShapes Go.ChangeAt Go.RowKit Sh Pn Mf Sp

set_option maxRecDepth 100000 in
set_option maxHeartbeats 6400000 in
theorem walk (p : ByteArray) (chunk base : Int) (f : Nat → UInt8) (w : World) (hT : Tabs w) :
    Calls Tryd.prog 5 #[.string p, .int .i64 chunk, .int .i64 base, .agg (digF f)] w fun e w' => e = .returned (.bool true) ∧ Below w.heap.size w w' := by
  have HT := Lib.hid hT
  have HI := Lib.hid (fun m A k => manI m A k)
  have HO := Lib.hid (fun m A k => manA_one m A k)
  have HB0 := Lib.hid ((Below.refl w.heap.size w).alloc (Nat.le_refl _) (.cells (digF f) 24))
  have HX0 := Lib.hid (heap_alloc_new w (.cells (digF f) 24))
  obtain ⟨j, hj, hjj⟩ := cut64 chunk 40 (by omega)
  have hjj' : (IntKind.u64.wrap chunk).tmod 40 = (j : Int) := hjj
  have y1 := IntWalk.wrap64_in (j : Int) (by omega)
  obtain ⟨K, hK⟩ : ∃ K, j + 1 = K := ⟨_, rfl⟩
  have HK := Lib.hid (show 1 ≤ K ∧ K ≤ 40 by omega)
  have y2 : wrap64 (1 + (j : Int)) = (K : Int) := by rw [show (1 : Int) + (j : Int) = (K : Int) by omega]; exact IntWalk.wrap64_in _ (by omega)
  obtain ⟨V, jb, hv, hbb, v1, v2, v3⟩ := cut_one base 1000 (by omega) (by omega)
  have HV := Lib.hid hv
  have HBB := Lib.hid (show (IntKind.u64.wrap base).tmod 1000 = (jb : Int) ∧ wrap64 (jb : Int) = (jb : Int) ∧ wrap64 (1 + (jb : Int)) = (V : Int) ∧ wrap64 ((V : Int) + 1) = (V : Int) + 1 from ⟨hbb, v1, v2, v3⟩)
  clear hT hjj hK hj hbb hv v1 v2 v3
  go_enter Tryd.func5, Tryd.ntmps5
  go_wp2_with (fail)
  refine (awake20 _ (HT.out.below HB0.out)).mono ?_
  rintro e w1 ⟨rfl, b1⟩
  have HX1 := Lib.hid ((b1.block _ (by simp)).trans HX0.out)
  have HB1 := Lib.hid (HB0.out.trans (b1.mono HB0.out.size))
  clear b1 HX0 HB0
  go_upto_region 4 with (fail)
  clear hjj' y1
  try rw [y2]
  clear y2
  by_cases h1 : 300 < p.size
  · have t1 : decide (300 < (p.size : Int)) = true := decide_eq_true (by omega)
    have t2 : decide (300 < p.size) = true := decide_eq_true h1
    clear h1
    go_wp2_with (fail)
    exact bodyPost_ret (results_tmp rfl _ _ _) rfl ⟨rfl, HB1.out⟩
  have t1 : decide (300 < (p.size : Int)) = false := decide_eq_false (by omega)
  have t2 : decide (300 < p.size) = false := decide_eq_false h1
  by_cases h2 : p.size = 0
  · have t3 : ((p.size : Int) == 0) = true := by rw [h2]; rfl
    have t4 : (p.size == 0) = true := by rw [h2]; rfl
    clear h1 h2
    go_wp2_with (fail)
    exact bodyPost_ret (results_tmp rfl _ _ _) rfl ⟨rfl, HB1.out⟩
  have t3 : ((p.size : Int) == 0) = false := beq_eq_false_iff_ne.2 (by omega)
  have t4 : (p.size == 0) = false := beq_eq_false_iff_ne.2 (by omega)
  have hk := HK.out
  have hq := cntN_quot (s := (p.size : Int)) (c := (K : Int)) (by omega) (by omega)
  simp only [Int.toNat_natCast] at hq
  obtain ⟨n, hn⟩ : ∃ n, cntN p.size K = n := ⟨_, rfl⟩
  have hn0 := cntN_pos (s := p.size) (c := K) hk.1 (by omega)
  have hn1 : cntN p.size K ≤ 400 := by
    unfold cntN
    exact Nat.div_le_of_le_mul (by omega)
  rw [hn] at hq hn0 hn1
  have y7 := IntWalk.wrap64_in (n : Int) (by omega)
  have HN := Lib.hid hn
  have y1 := IntWalk.wrap64_in ((p.size : Int) + (K : Int)) (by omega)
  have y2 := IntWalk.wrap64_in ((p.size : Int) + (K : Int) - 1) (by omega)
  have y3 : ¬ (K : Int) = 0 := by omega
  have y4 : ((K : Int) == 0) = false := beq_eq_false_iff_ne.2 y3
  have y5 : ¬ (K : Int) = -1 := by omega
  have y6 : ((K : Int) == -1) = false := beq_eq_false_iff_ne.2 y5
  have HS1 := Lib.hid (show 1 ≤ p.size ∧ p.size ≤ 300 by omega)
  clear h1 h2 hk hn
  by_cases h3 : 64 < n
  · have t5 : decide (64 < (n : Int)) = true := decide_eq_true (by omega)
    have t6 : decide (64 < n) = true := decide_eq_true h3
    clear h3
    go_wp2_with (fail)
    exact bodyPost_ret (results_tmp rfl _ _ _) rfl ⟨rfl, HB1.out⟩
  have t5 : decide (64 < (n : Int)) = false := decide_eq_false (by omega)
  have t6 : decide (64 < n) = false := decide_eq_false h3
  have HN2 := Lib.hid (show 1 ≤ n ∧ n ≤ 64 by omega)
  obtain ⟨M1, M2⟩ := made (b := (V : Int)) (v := (V : Int) + 1) (c := K) (p := p) (f := f) (by have := HV.out; omega) (by have := HV.out; omega) (by have := HV.out; omega) (by have := HV.out; omega) (by omega) HS1.out.1 (by have := HS1.out; omega) HK.out.1 (by have := HK.out; omega) (by rw [HN.out]; omega)
  obtain ⟨m, hm⟩ : ∃ m : Man, m = ⟨(V : Int), (V : Int) + 1, p.size, K, sumsP p K (cntN p.size K), f⟩ := ⟨_, rfl⟩
  rw [← hm] at M1 M2
  have HM := Lib.hid hm
  have HM2 := Lib.hid M2
  have HMK := Lib.hid (fun (W : World) (hW : Below w.heap.size w W) => show Calls Tryd.prog 23 #[.int .i64 (V : Int), .int .i64 ((V : Int) + 1), .int .i64 (K : Int), .string p, .agg (digF f)] W fun e w' => ∃ A k, e = .returned (.tuple #[.agg (manA m A k), .int .i64 0]) ∧ SIn w' A k m.sums ∧ Below W.heap.size W w' from by
    have := mf_make W V (V + 1) K p f (by have := HS1.out; omega) (HT.out.below hW)
    rw [M1] at this
    exact this)
  clear M1 M2 h3 hm
  have HDF := Lib.hid (hiDigF f)
  go_upto_region 6 with (fail)
  clear t1 t2 t3 t4 t5 t6 y1 y2 y3 y4 y5 y6 y7 hq hn0 hn1
  obtain ⟨hbb, v1, v2, v3⟩ := HBB.out
  go_upto_region 7 with (fail)
  try rw [v2]
  clear hbb v1 v2 HBB
  go_wp2_with (with_reducible refine wpList_load_row rfl 24 _ rfl _ rfl 24 (digF f) (0, 0) _ HX1.out Tryd.underlying24 rfl HDF.out ?_)
  clear v3
  refine (HMK.out _ HB1.out).mono ?_
  rintro e w2 ⟨A, k, rfl, s2, b2⟩
  have HB2 := Lib.hid (HB1.out.trans (b2.mono HB1.out.size))
  have HX2 := Lib.hid ((b2.block _ (Array.getElem?_eq_some_iff.1 HX1.out).1).trans HX1.out)
  have HS2 := Lib.hid s2
  clear b2 s2 HMK HB1 HX1
  have HNW := Lib.hid (show ∀ o, (w2.alloc o).heap[w2.heap.size]? = some o from fun o => heap_alloc_new w2 o)
  have HXA := Lib.hid (fun c => at_store (w := w2) (t := 26) m A k c)
  have HH2 := Lib.hid (fun c => show Held 26 24 w w2.heap.size m A k f ((w2.alloc (.cells c 26)).setRow w2.heap.size (manA m A k)) from
    ⟨(HXA.out c).1, HS2.out.keep (HXA.out c).2, ((HXA.out c).2.block _ (Array.getElem?_eq_some_iff.1 HX2.out).1).trans HX2.out, HB2.out.trans ((HXA.out c).2.mono HB2.out.size), (Array.getElem?_eq_some_iff.1 HX2.out).1⟩)
  go_upto_region 8 with (with_reducible refine wpList_store_row rfl 26 _ _ rfl _ (manA m A k) rfl rfl 26 _ (HNW.out _) (HI.out m A k) (by rw [manA_size]; kernel_rfl) (HO.out m A k) ?_)
  refine gen_world (fun W => Held 26 24 w w2.heap.size m A k f W) (HH2.out _) ?_
  rintro w3 h3
  have H3 := Lib.hid h3
  have HMC := Lib.hid h3.one.cells
  clear h3 HNW HXA HH2 HX2 HS2 HB2
  generalize w2.heap.size = mb at *
  have HGD := Lib.hid (fun W => show Calls Tryd.prog 10 #[.agg (manA m A k)] W fun e w' => e = .returned (.bool true) ∧ Below W.heap.size W w' from by
    have := mf_good W m A k
    rw [decide_eq_true (show 0 < countM m by rw [HM2.out, HN.out]; have := HN2.out; omega)] at this
    exact this)
  have HSZ := Lib.hid (show m.s = (p.size : Int) by rw [HM.out])
  go_wp2_with ((with_reducible refine wpList_load_row_g ?_ 26 _ rfl _ rfl 26 (manA m A k) (0, 0) _ HMC.out Tryd.underlying26 rfl (HI.out m A k) ?_); rfl)
  refine (HGD.out _).mono ?_
  rintro e w4 ⟨rfl, b4⟩
  have H4 := Lib.hid (H3.out.step b4)
  have e2 := H4.out.one.size
  rw [HSZ.out] at e2
  have s0 : ((p.size : Int) != (p.size : Int)) = false := bne_self_eq_false _
  have s1 : ((p.size : Int) == (p.size : Int)) = true := beq_self_eq_true _
  clear b4 H3 HMC HGD
  go_upto_region 10 with (fail)
  clear e2 s0 s1
  have HCO := Lib.hid (fun W => show Calls Tryd.prog 11 #[.agg (manA m A k)] W fun e w' => e = .returned (.int .i64 (n : Int)) ∧ Below W.heap.size W w' from by
    have := mf_count W m A k
    rw [HM2.out, HN.out] at this
    exact this)
  have HMP := Lib.hid (show countM ⟨(V : Int), (V : Int) + 1, p.size, K, sumsP p K (cntN p.size K), f⟩ = cntN p.size K by rw [← HM.out]; exact HM2.out)
  have HLE := Lib.hid (fun (W : World) (i : Nat) (hi : i < n) => show Calls Tryd.prog 12 #[.agg (manA m A k), .int .i64 (i : Int)] W fun e w' => e = .returned (.int .i64 (lenN p.size K i : Int)) ∧ Below W.heap.size W w' from by
    have := mf_length W m A k (i : Int)
    rw [HM.out, made_length HMP.out i (by rw [HN.out]; exact hi), ← HM.out] at this
    exact this)
  have HPT := Lib.hid (fun (W : World) (i : Nat) (hi : i < n) => show Calls Tryd.prog 14 #[.agg (manA m A k), .int .i64 (i : Int), .string p] W fun e w' => e = .returned (.string (p.extract (i * K) (i * K + lenN p.size K i))) ∧ Below W.heap.size W w' from by
    have := mf_part W m A k (i : Int) p (by have := HS1.out; omega)
    rw [HM.out, made_part HK.out.1 HMP.out i (by rw [HN.out]; exact hi), ← HM.out] at this
    exact this)
  have HCH := Lib.hid (fun (W : World) (i : Nat) (hi : i < n) (hS : SIn W A k m.sums) (hW : Below w.heap.size w W) => show Calls Tryd.prog 16 #[.agg (manA m A k), .int .i64 (i : Int), .string (p.extract (i * K) (i * K + lenN p.size K i))] W fun e w' => e = .returned (.int .i64 0) ∧ Below W.heap.size W w' from by
    have h1 := made_part_size HK.out.1 (show i < cntN p.size K by rw [HN.out]; exact hi)
    have h2 := lenN_within HK.out.1 (show i < cntN p.size K by rw [HN.out]; exact hi)
    have := mf_check W m A k (i : Int) (p.extract (i * K) (i * K + lenN p.size K i)) (by rw [h1]; have := HS1.out; omega) hS (HT.out.below hW)
    rw [HM.out, made_check HK.out.1 HMP.out i (by rw [HN.out]; exact hi), ← HM.out] at this
    exact this)
  go_wp2_with (fail)
  go_loopw [13, 14] (fun al i wr => ∃ q : Nat, al = .string (allB p K q) ∧ i = .int .i64 (q : Int) ∧ q ≤ n ∧ Held 26 24 w mb m A k f wr) (fun _ i _ => match i with | .int _ q => n - q.toNat | _ => 0)
  case atStart => exact ⟨0, by rw [allB_zero], rfl, Nat.zero_le _, H4.out⟩
  case round =>
    clear H4
    obtain ⟨q, rfl, rfl, hq, hr⟩ := hrel
    have HR := Lib.hid hr
    have HMC := Lib.hid hr.one.cells
    clear hr
    go_wp2_with (with_reducible refine wpList_load_row rfl 26 _ rfl _ rfl 26 (manA m A k) (0, 0) _ HMC.out Tryd.underlying26 rfl (HI.out _ A k) ?_)
    refine (HCO.out _).mono ?_
    rintro e w5 ⟨rfl, b5⟩
    have HR5 := Lib.hid (HR.out.step b5)
    have HMC5 := Lib.hid HR5.out.one.cells
    clear b5 HR HMC
    by_cases hlt : q < n
    · have x0 : (q : Int) < (n : Int) := by omega
      have x1 : decide ((q : Int) < (n : Int)) = true := decide_eq_true x0
      have hn := HN2.out
      have x3 := IntWalk.wrap64_in ((q : Int) + 1) (by omega)
      have HAN := Lib.hid (allB_next p K q)
      have HLT := Lib.hid hlt
      have hsz : (allB p K q).size ≤ 300 ∧ (p.extract (q * K) (q * K + lenN p.size K q)).size = lenN p.size K q ∧ lenN p.size K q ≤ 300 := by
        have h0 := allB_size p K q
        have h1 := made_part_size HK.out.1 (show q < cntN p.size K by rw [HN.out]; exact hlt)
        have h2 := lenN_within HK.out.1 (show q < cntN p.size K by rw [HN.out]; exact hlt)
        have := HS1.out
        omega
      have HPQ := Lib.hid (fun W => HPT.out W q hlt)
      have HLQ := Lib.hid (fun W => HLE.out W q hlt)
      have HCQ := Lib.hid (fun W h1 h2 => HCH.out W q hlt h1 h2)
      generalize p.extract (q * K) (q * K + lenN p.size K q) = X at *
      generalize lenN p.size K q = L at *
      generalize allB p K q = Y at *
      have s0 : ((X.size : Int) != (L : Int)) = false := by rw [hsz.2.1]; simp
      have s1 : ((X.size : Int) == (L : Int)) = true := by rw [hsz.2.1]; simp
      have s2 : ¬ 9223372036854775807 < Y.size + X.size := by omega
      clear hsz hn
      go_wp2_with (with_reducible refine wpList_load_row rfl 26 _ rfl _ rfl 26 (manA m A k) (0, 0) _ HMC5.out Tryd.underlying26 rfl (HI.out _ A k) ?_)
      refine (HPQ.out _).mono ?_
      rintro e w6 ⟨rfl, b6⟩
      have HR6 := Lib.hid (HR5.out.step b6)
      have HMC6 := Lib.hid HR6.out.one.cells
      clear b6 HR5 HMC5
      go_wp2_with (with_reducible refine wpList_load_row rfl 26 _ rfl _ rfl 26 (manA m A k) (0, 0) _ HMC6.out Tryd.underlying26 rfl (HI.out _ A k) ?_)
      refine (HCQ.out _ HR6.out.sin HR6.out.below).mono ?_
      rintro e w7 ⟨rfl, b7⟩
      have HR7 := Lib.hid (HR6.out.step b7)
      have HMC7 := Lib.hid HR7.out.one.cells
      clear b7 HR6 HMC6
      go_wp2_with ((with_reducible refine wpList_load_row_g ?_ 26 _ rfl _ rfl 26 (manA m A k) (0, 0) _ HMC7.out Tryd.underlying26 rfl (HI.out m A k) ?_); rfl)
      refine (HLQ.out _).mono ?_
      rintro e w8 ⟨rfl, b8⟩
      have HR8 := Lib.hid (HR7.out.step b8)
      clear b8 HR7 HMC7
      go_wp2_with (fail)
      exact ⟨⟨q + 1, by rw [← HAN.out], by rw [x3]; rfl, HLT.out, HR8.out⟩, by rw [x3]; exact mfLess q n HLT.out⟩
    · obtain rfl : q = n := by omega
      have x0 : ¬ (q : Int) < (q : Int) := by omega
      have x1 : decide ((q : Int) < (q : Int)) = false := decide_eq_false x0
      have hall := allB_all p K HK.out.1
      rw [HN.out] at hall
      rw [hall]
      clear hall
      have HN0 := Lib.hid (show 0 < countM m by rw [HM2.out, HN.out]; exact HN2.out.1)
      have HBY := Lib.hid (fun (W : World) (hS : SIn W A k m.sums) (hW : Below w.heap.size w W) => mf_bytes W m A k HN0.out hS (HT.out.below hW))
      obtain ⟨nn, hpa, n1, n2, n3, n4, n5, n6⟩ := read_text HN0.out
      have HSM := Lib.hid (sameM_of n1 n2 n3 n4 n5 n6)
      have HRO := Lib.hid (show same (rootF nn.sums) (rootF m.sums) = true from same_cl.2 (rootF_cl n6))
      have HLN := Lib.hid (show m.sums.length = q ∧ nn.sums.length = q by
        have h1 := count_sums (m := m) (n := q) (by rw [HM2.out, HN.out]) HN2.out.1
        have h2 : nn.sums.length = m.sums.length := by simpa using congrArg List.length n6
        omega)
      have HVV := Lib.hid (show m.v = (V : Int) + 1 ∧ nn.v = m.v from ⟨by rw [HM.out], n2⟩)
      have HPA := Lib.hid (fun (W : World) (hW : Below w.heap.size w W) => show Calls Tryd.prog 26 #[.string ⟨(textM m).toArray⟩] W fun e w' => ∃ B r, e = .returned (.tuple #[.agg (manA nn B r), .int .i64 0]) ∧ SIn w' B r nn.sums ∧ Below W.heap.size W w' from by
        have := mf_parse W ⟨(textM m).toArray⟩ (HT.out.below hW)
        rw [hpa] at this
        exact this)
      clear hpa n1 n2 n3 n4 n5 n6
      generalize (⟨(textM m).toArray⟩ : ByteArray) = T at *
      go_wp2_with (with_reducible refine wpList_load_row rfl 26 _ rfl _ rfl 26 (manA m A k) (0, 0) _ HMC5.out Tryd.underlying26 rfl (HI.out _ A k) ?_)
      refine (HBY.out _ HR5.out.sin HR5.out.below).mono ?_
      rintro e w6 ⟨rfl, b6⟩
      have HR6 := Lib.hid (HR5.out.step b6)
      clear b6 HR5 HMC5 HBY
      go_wp2_with (fail)
      refine (HPA.out _ HR6.out.below).mono ?_
      rintro e w7 ⟨B, r, rfl, s7, b7⟩
      have HR7 := Lib.hid (HR6.out.step b7)
      have HS7 := Lib.hid s7
      clear b7 s7 HR6 HPA
      have HNW := Lib.hid (show ∀ o, (w7.alloc o).heap[w7.heap.size]? = some o from fun o => heap_alloc_new w7 o)
      have HXA := Lib.hid (fun c => at_store (w := w7) (t := 26) nn B r c)
      go_upto_region 20 with (with_reducible refine wpList_store_row rfl 26 _ _ rfl _ (manA nn B r) rfl rfl 26 _ (HNW.out _) (HI.out nn B r) (by rw [manA_size]; kernel_rfl) (HO.out nn B r) ?_)
      refine gen_world (fun W => Held 26 24 w mb m A k f W ∧ At W w7.heap.size 26 nn B r ∧ SIn W B r nn.sums) ⟨HR7.out.step (HXA.out _).2, (HXA.out _).1, HS7.out.keep (HXA.out _).2⟩ ?_
      rintro w8 ⟨h8, a8, s8⟩
      have HR8 := Lib.hid h8
      have HA8 := Lib.hid a8
      have HS8 := Lib.hid s8
      have HAC8 := Lib.hid a8.cells
      clear h8 a8 s8 HNW HXA HR7 HS7
      generalize w7.heap.size = nb at *
      have HNW := Lib.hid (show ∀ o, (w8.alloc o).heap[w8.heap.size]? = some o from fun o => heap_alloc_new w8 o)
      have HXA := Lib.hid (fun c => at_store (w := w8) (t := 26) nn B r c)
      have HLX := Lib.hid (show nb < w8.heap.size ∧ mb < w8.heap.size from ⟨HA8.out.lt, HR8.out.one.lt⟩)
      go_upto_region 21 with (first
        | (with_reducible refine wpList_load_row rfl 26 _ rfl _ rfl 26 (manA nn B r) (0, 0) _ HAC8.out Tryd.underlying26 rfl (HI.out nn B r) ?_)
        | (with_reducible refine wpList_store_row rfl 26 _ _ rfl _ (manA nn B r) rfl rfl 26 _ (HNW.out _) (HI.out nn B r) (by rw [manA_size]; kernel_rfl) (HO.out nn B r) ?_))
      refine gen_world (fun W => Below w8.heap.size w8 W ∧ At W w8.heap.size 26 nn B r) ⟨(HXA.out _).2, (HXA.out _).1⟩ ?_
      rintro w9 ⟨b9, a9⟩
      have HB9 := Lib.hid b9
      have HA9 := Lib.hid a9
      have HHX := Lib.hid (fun W (hW : Below w8.heap.size w8 W) => And.intro (HR8.out.step hW) (And.intro (HA8.out.keep hW) (HS8.out.keep hW)))
      clear b9 a9 HNW HXA HAC8 HR8 HA8 HS8
      generalize w8.heap.size = xb at *
      have e1 := HA9.out.ver
      have f1 := HA9.out.fz 1
      rw [HVV.out.2, HVV.out.1] at e1
      have v1 := IntWalk.wrap64_in ((V : Int) + 1 + 1) (by have := HV.out; omega)
      have HSX := Lib.hid (fun x => HB9.out.setCell (p := ⟨xb, 1, none⟩) (Nat.le_refl _) x)
      have HAX := Lib.hid (HA9.out.setVer ((V : Int) + 1 + 1))
      go_upto_region 22 with (fail)
      obtain ⟨nx, hnx⟩ : ∃ nx : Man, nx = { nn with v := (V : Int) + 1 + 1 } := ⟨_, rfl⟩
      have HNX := Lib.hid (show nx.sums = nn.sums ∧ nx.v = (V : Int) + 1 + 1 by rw [hnx]; exact ⟨rfl, rfl⟩)
      rw [← hnx] at HAX
      refine gen_world (fun W => Three 26 24 w mb nb xb m nn nx A k B r W) (by
        have h1 := HHX.out _ (HSX.out (.int .i64 ((V : Int) + 1 + 1)))
        exact ⟨h1.1.one, h1.2.1, HAX.out, h1.1.sin, h1.2.2, h1.1.below⟩) ?_
      rintro w10 t10
      have T10 := Lib.hid t10
      clear t10 hnx e1 f1 v1 HSX HAX HHX HA9 HB9
      have HKS := Lib.hid (show ∀ W, Below w10.heap.size w10 W → W.rangeAt mb 0 (manA m A k).toList ∧ W.rangeAt nb 0 (manA nn B r).toList ∧ W.rangeAt xb 0 (manA nx B r).toList from fun W hW =>
        have h := T10.out.step hW
        ⟨h.one.row, h.two.row, h.tri.row⟩)
      have HS1' := Lib.hid (fun (W : World) (hW : Below w10.heap.size w10 W) => show Calls Tryd.prog 20 #[.agg (manA m A k), .agg (manA nn B r)] W fun e w' => e = .returned (.bool true) ∧ Below W.heap.size W w' from by
        have h := T10.out.step hW
        have := mf_same W m A k nn B r h.s1 h.s2 (by rw [HLN.out.1]; have := HN2.out; omega)
        rw [HSM.out] at this
        exact this)
      have HS2' := Lib.hid (fun (W : World) (hW : Below w10.heap.size w10 W) => show Calls Tryd.prog 20 #[.agg (manA m A k), .agg (manA nx B r)] W fun e w' => e = .returned (.bool false) ∧ Below W.heap.size W w' from by
        have h := T10.out.step hW
        have h2 : sameM m nx = false := by
          unfold sameM
          rw [HVV.out.1, HNX.out.2, beq_eq_false_iff_ne.2 (show (V : Int) + 1 ≠ (V : Int) + 1 + 1 by omega)]
          simp
        have := mf_same W m A k nx B r h.s1 (by rw [HNX.out.1]; exact h.s2) (by rw [HLN.out.1]; have := HN2.out; omega)
        rw [h2] at this
        exact this)
      have HR1 := Lib.hid (fun (W : World) (hW : Below w10.heap.size w10 W) => mf_root W nn B r (T10.out.step hW).s2 (by rw [HLN.out.2]; have := HN2.out; omega) (HT.out.below (T10.out.step hW).below))
      have HR2 := Lib.hid (fun (W : World) (hW : Below w10.heap.size w10 W) => mf_root W m A k (T10.out.step hW).s1 (by rw [HLN.out.1]; have := HN2.out; omega) (HT.out.below (T10.out.step hW).below))
      have E : ∀ W, (binOp .eql 24 (.agg (digF (rootF nn.sums))) (.agg (digF (rootF m.sums)))).run Tryd.prog W = .ok (.bool true) W := fun W => by rw [run_eql_dig, HRO.out]
      have b00 : Below w10.heap.size w10 w10.drew := below_drewN (Below.refl _ _) 1
      have k0 := HKS.out _ b00
      have HI1 := Lib.hid (manIL m A k)
      have HI2 := Lib.hid (manIL nn B r)
      have HI3 := Lib.hid (manIL nx B r)
      have s2 : (p.toList == p.toList) = true := beq_self_eq_true _
      generalize rootF nn.sums = Q1 at *
      generalize rootF m.sums = Q2 at *
      go_wp2_with (fail)
      -- HAND
      refine wp_region_noPanic ?_
      refine wp_region_held_drew (S := (fun W : World => W.rangeAt mb 0 (manA m A k).toList ∧ W.rangeAt nb 0 (manA nn B r).toList ∧ W.rangeAt xb 0 (manA nx B r).toList)) (by kernel_rfl) k0 (fun hHeld => ?_)
      refine wpAnyH_takeAt (i := 0) (v := .string p) 116 rfl rfl (by kernel_rfl) (by kernel_rfl) (by kernel_rfl) (fun _ _ _ h => h) (Or.inl ⟨by rfl, ?_⟩) hHeld ?_
      · intro W hW
        try dsimp only at hW
        go_simp
      simp only [Act.put, List.setIfInBounds_toArray, List.set_cons_succ, List.set_cons_zero]
      refine wpAnyH_takeAt (i := 1) (v := .string p) 117 rfl rfl (by kernel_rfl) (by kernel_rfl) (by kernel_rfl) (fun _ _ _ h => h) (Or.inl ⟨by rfl, ?_⟩) hHeld ?_
      · intro W hW
        try dsimp only at hW
        go_simp
      simp only [Act.put, List.setIfInBounds_toArray, List.set_cons_succ, List.set_cons_zero]
      refine wpAnyH_takeAt (i := 2) (v := .bool true) 118 rfl rfl (by kernel_rfl) (by kernel_rfl) (by kernel_rfl) (fun _ _ _ h => h) (Or.inl ⟨by rfl, ?_⟩) hHeld ?_
      · intro W hW
        try dsimp only at hW
        go_simp
      simp only [Act.put, List.setIfInBounds_toArray, List.set_cons_succ, List.set_cons_zero]
      refine wpAnyH_takeAt (i := 3) (v := .bool true) 119 rfl rfl (by kernel_rfl) (by kernel_rfl) (by kernel_rfl) (fun _ _ _ h => h) (Or.inl ⟨by rfl, ?_⟩) hHeld ?_
      · intro W hW
        try dsimp only at hW
        go_simp
      simp only [Act.put, List.setIfInBounds_toArray, List.set_cons_succ, List.set_cons_zero]
      refine wpAnyH_takeAt (i := 4) (v := .int .i64 0) 120 rfl rfl (by kernel_rfl) (by kernel_rfl) (by kernel_rfl) (fun _ _ _ h => h) (Or.inl ⟨by rfl, ?_⟩) hHeld ?_
      · intro W hW
        try dsimp only at hW
        go_simp
      simp only [Act.put, List.setIfInBounds_toArray, List.set_cons_succ, List.set_cons_zero]
      refine wpAnyH_takeAt (i := 5) (v := .bool true) 121 rfl rfl (by kernel_rfl) (by kernel_rfl) (by kernel_rfl) (fun _ _ _ h => h) (Or.inl ⟨by rfl, ?_⟩) hHeld ?_
      · intro W hW
        try dsimp only at hW
        go_simp
      simp only [Act.put, List.setIfInBounds_toArray, List.set_cons_succ, List.set_cons_zero]
      refine wpAnyH_takeAt (i := 6) (v := .bool true) 122 rfl rfl (by kernel_rfl) (by kernel_rfl) (by kernel_rfl) (fun _ _ _ h => h) (Or.inl ⟨by rfl, ?_⟩) hHeld ?_
      · intro W hW
        try dsimp only at hW
        go_simp
      simp only [Act.put, List.setIfInBounds_toArray, List.set_cons_succ, List.set_cons_zero]
      refine wpAnyH_takeAt (i := 7) (v := .bool true) 123 rfl rfl (by kernel_rfl) (by kernel_rfl) (by kernel_rfl) (fun _ _ _ h => h) (Or.inl ⟨by rfl, ?_⟩) hHeld ?_
      · intro W hW
        try dsimp only at hW
        go_simp
      simp only [Act.put, List.setIfInBounds_toArray, List.set_cons_succ, List.set_cons_zero]
      refine wpAnyH_takeAt (i := 8) (v := .int .i64 0) 124 rfl rfl (by kernel_rfl) (by kernel_rfl) (by kernel_rfl) (fun _ _ _ h => h) (Or.inl ⟨by rfl, ?_⟩) hHeld ?_
      · intro W hW
        try dsimp only at hW
        go_simp
      simp only [Act.put, List.setIfInBounds_toArray, List.set_cons_succ, List.set_cons_zero]
      refine wpAnyH_takeAt (i := 9) (v := .bool true) 125 rfl rfl (by kernel_rfl) (by kernel_rfl) (by kernel_rfl) (fun _ _ _ h => h) (Or.inl ⟨by rfl, ?_⟩) hHeld ?_
      · intro W hW
        try dsimp only at hW
        go_simp
      simp only [Act.put, List.setIfInBounds_toArray, List.set_cons_succ, List.set_cons_zero]
      refine wpAnyH_takeAt (i := 10) (v := .bool true) 126 rfl rfl (by kernel_rfl) (by kernel_rfl) (by kernel_rfl) (fun _ _ _ h => h) (Or.inl ⟨by rfl, ?_⟩) hHeld ?_
      · intro W hW
        try dsimp only at hW
        go_simp
      simp only [Act.put, List.setIfInBounds_toArray, List.set_cons_succ, List.set_cons_zero]
      refine wpAnyH_takeAt (i := 11) (v := .bool true) 127 rfl rfl (by kernel_rfl) (by kernel_rfl) (by kernel_rfl) (fun _ _ _ h => h) (Or.inl ⟨by rfl, ?_⟩) hHeld ?_
      · intro W hW
        try dsimp only at hW
        go_simp
      simp only [Act.put, List.setIfInBounds_toArray, List.set_cons_succ, List.set_cons_zero]
      refine wpAnyH_takeAt (i := 12) (v := .agg (manA m A k).toList.toArray) 128 rfl rfl (by kernel_rfl) (by kernel_rfl) (by kernel_rfl) (fun _ _ _ h => h) (yieldsIf_load_mid (by rfl) 26 _ rfl mb (0) rfl (manA m A k).toList _ (fun W hW => hW.1) Tryd.underlying26 rfl HI1.out) hHeld ?_
      simp only [Act.put, List.setIfInBounds_toArray, List.set_cons_succ, List.set_cons_zero]
      refine wpAnyH_takeAt (i := 13) (v := .agg (manA nn B r).toList.toArray) 129 rfl rfl (by kernel_rfl) (by kernel_rfl) (by kernel_rfl) (fun _ _ _ h => h) (yieldsIf_load_mid (by rfl) 26 _ rfl nb (0) rfl (manA nn B r).toList _ (fun W hW => hW.2.1) Tryd.underlying26 rfl HI2.out) hHeld ?_
      simp only [Act.put, List.setIfInBounds_toArray, List.set_cons_succ, List.set_cons_zero]
      refine wpAnyH_ready (rs := [14]) (by kernel_rfl) (by simp) ?_
      refine AllReadyH.cons rfl (fun K hK => ?_) AllReadyH.nil
      go_simp
      refine (HS1'.out _ b00).mono ?_
      rintro e w11 ⟨rfl, b11⟩
      have hk1 := b00.trans (b11.mono b00.size)
      clear b11
      refine hK.out _ _ (HKS.out _ hk1) (fun hHeld2 => ?_)
      clear hK K hHeld
      have hHeld := hHeld2
      clear hHeld2
      try simp only [Act.put, List.setIfInBounds_toArray, List.set_cons_succ, List.set_cons_zero]
      refine wpAnyH_takeAt (i := 15) (v := .bool true) 131 rfl rfl (by kernel_rfl) (by kernel_rfl) (by kernel_rfl) (fun _ _ _ h => h) (Or.inl ⟨by rfl, ?_⟩) hHeld ?_
      · intro W hW
        try dsimp only at hW
        go_simp
      simp only [Act.put, List.setIfInBounds_toArray, List.set_cons_succ, List.set_cons_zero]
      refine wpAnyH_takeAt (i := 16) (v := .bool true) 132 rfl rfl (by kernel_rfl) (by kernel_rfl) (by kernel_rfl) (fun _ _ _ h => h) (Or.inl ⟨by rfl, ?_⟩) hHeld ?_
      · intro W hW
        try dsimp only at hW
        go_simp
      simp only [Act.put, List.setIfInBounds_toArray, List.set_cons_succ, List.set_cons_zero]
      refine wpAnyH_takeAt (i := 17) (v := .agg (manA m A k).toList.toArray) 133 rfl rfl (by kernel_rfl) (by kernel_rfl) (by kernel_rfl) (fun _ _ _ h => h) (yieldsIf_load_mid (by rfl) 26 _ rfl mb (0) rfl (manA m A k).toList _ (fun W hW => hW.1) Tryd.underlying26 rfl HI1.out) hHeld ?_
      simp only [Act.put, List.setIfInBounds_toArray, List.set_cons_succ, List.set_cons_zero]
      refine wpAnyH_takeAt (i := 18) (v := .agg (manA nx B r).toList.toArray) 134 rfl rfl (by kernel_rfl) (by kernel_rfl) (by kernel_rfl) (fun _ _ _ h => h) (yieldsIf_load_mid (by rfl) 26 _ rfl xb (0) rfl (manA nx B r).toList _ (fun W hW => hW.2.2) Tryd.underlying26 rfl HI3.out) hHeld ?_
      simp only [Act.put, List.setIfInBounds_toArray, List.set_cons_succ, List.set_cons_zero]
      refine wpAnyH_ready (rs := [19]) (by kernel_rfl) (by simp) ?_
      refine AllReadyH.cons rfl (fun K hK => ?_) AllReadyH.nil
      go_simp
      refine (HS2'.out _ hk1).mono ?_
      rintro e w12 ⟨rfl, b12⟩
      have hk2 := hk1.trans (b12.mono hk1.size)
      clear b12
      refine hK.out _ _ (HKS.out _ hk2) (fun hHeld2 => ?_)
      clear hK K hHeld
      have hHeld := hHeld2
      clear hHeld2
      try simp only [Act.put, List.setIfInBounds_toArray, List.set_cons_succ, List.set_cons_zero]
      refine wpAnyH_takeAt (i := 20) (v := .bool true) 136 rfl rfl (by kernel_rfl) (by kernel_rfl) (by kernel_rfl) (fun _ _ _ h => h) (Or.inl ⟨by rfl, ?_⟩) hHeld ?_
      · intro W hW
        try dsimp only at hW
        go_simp
      simp only [Act.put, List.setIfInBounds_toArray, List.set_cons_succ, List.set_cons_zero]
      refine wpAnyH_takeAt (i := 21) (v := .bool true) 137 rfl rfl (by kernel_rfl) (by kernel_rfl) (by kernel_rfl) (fun _ _ _ h => h) (Or.inl ⟨by rfl, ?_⟩) hHeld ?_
      · intro W hW
        try dsimp only at hW
        go_simp
      simp only [Act.put, List.setIfInBounds_toArray, List.set_cons_succ, List.set_cons_zero]
      refine wpAnyH_takeAt (i := 22) (v := .bool true) 138 rfl rfl (by kernel_rfl) (by kernel_rfl) (by kernel_rfl) (fun _ _ _ h => h) (Or.inl ⟨by rfl, ?_⟩) hHeld ?_
      · intro W hW
        try dsimp only at hW
        go_simp
      simp only [Act.put, List.setIfInBounds_toArray, List.set_cons_succ, List.set_cons_zero]
      refine wpAnyH_takeAt (i := 23) (v := .agg (manA nn B r).toList.toArray) 139 rfl rfl (by kernel_rfl) (by kernel_rfl) (by kernel_rfl) (fun _ _ _ h => h) (yieldsIf_load_mid (by rfl) 26 _ rfl nb (0) rfl (manA nn B r).toList _ (fun W hW => hW.2.1) Tryd.underlying26 rfl HI2.out) hHeld ?_
      simp only [Act.put, List.setIfInBounds_toArray, List.set_cons_succ, List.set_cons_zero]
      refine wpAnyH_takeAt (i := 25) (v := .agg (manA m A k).toList.toArray) 141 rfl rfl (by kernel_rfl) (by kernel_rfl) (by kernel_rfl) (fun _ _ _ h => h) (yieldsIf_load_mid (by rfl) 26 _ rfl mb (0) rfl (manA m A k).toList _ (fun W hW => hW.1) Tryd.underlying26 rfl HI1.out) hHeld ?_
      simp only [Act.put, List.setIfInBounds_toArray, List.set_cons_succ, List.set_cons_zero]
      refine wpAnyH_ready (rs := [24]) (by kernel_rfl) (by simp) ?_
      refine AllReadyH.cons rfl (fun K hK => ?_) AllReadyH.nil
      go_simp
      refine (HR1.out _ hk2).mono ?_
      rintro e w13 ⟨rfl, b13⟩
      have hk3 := hk2.trans (b13.mono hk2.size)
      clear b13
      refine hK.out _ _ (HKS.out _ hk3) (fun hHeld2 => ?_)
      clear hK K hHeld
      have hHeld := hHeld2
      clear hHeld2
      try simp only [Act.put, List.setIfInBounds_toArray, List.set_cons_succ, List.set_cons_zero]
      refine wpAnyH_ready (rs := [26]) (by kernel_rfl) (by simp) ?_
      refine AllReadyH.cons rfl (fun K hK => ?_) AllReadyH.nil
      go_simp
      refine (HR2.out _ hk3).mono ?_
      rintro e w14 ⟨rfl, b14⟩
      have hk4 := hk3.trans (b14.mono hk3.size)
      clear b14
      refine hK.out _ _ (HKS.out _ hk4) (fun hHeld2 => ?_)
      clear hK K hHeld
      have hHeld := hHeld2
      clear hHeld2
      try simp only [Act.put, List.setIfInBounds_toArray, List.set_cons_succ, List.set_cons_zero]
      refine wpAnyH_takeAt (i := 27) (v := .bool true) 143 rfl rfl (by kernel_rfl) (by kernel_rfl) (by kernel_rfl) (fun _ _ _ h => h) (Or.inl ⟨by rfl, ?_⟩) hHeld ?_
      · intro W hW
        try dsimp only at hW
        go_simp
      simp only [Act.put, List.setIfInBounds_toArray, List.set_cons_succ, List.set_cons_zero]
      refine wpAnyH_takeAt (i := 28) (v := .bool true) 144 rfl rfl (by kernel_rfl) (by kernel_rfl) (by kernel_rfl) (fun _ _ _ h => h) (Or.inl ⟨by rfl, ?_⟩) hHeld ?_
      · intro W hW
        try dsimp only at hW
        go_simp
      simp only [Act.put, List.setIfInBounds_toArray, List.set_cons_succ, List.set_cons_zero]
      refine wpAnyH_takeAt (i := 29) (v := .bool true) 8 rfl rfl (by kernel_rfl) (by kernel_rfl) (by kernel_rfl) (fun _ _ _ h => h) (Or.inl ⟨by rfl, ?_⟩) hHeld ?_
      · intro W hW
        try dsimp only at hW
        go_simp
      simp only [Act.put, List.setIfInBounds_toArray, List.set_cons_succ, List.set_cons_zero]
      refine wpAnyH_done (by kernel_rfl) ?_ _
      refine NoPanic.normal ?_
      -- DNAH
      have HFB := Lib.hid (T10.out.step hk4).below
      clear hHeld k0 b00 hk1 hk2 hk3 hk4 s2 E
      go_wp2_with (fail)
      exact bodyPost_ret (results_tmp rfl _ _ _) rfl ⟨rfl, HFB.out⟩
end Go.Proofs.YtgdckpldbofgfaaDoor.manifestChunks
