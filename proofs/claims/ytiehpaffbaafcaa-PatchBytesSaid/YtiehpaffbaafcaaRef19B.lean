/-
  The reference of layer 19: Bytes. Condition: the deeds stand where it looks.
-/
import Derived.Test.YtiehpaffbaafcaaRef19G
import Derived.Test.YtiehpaffbaafcaaPenRefW
import Derived.Test.YtiehpaffbaafcaaPtForms19
namespace Go.Proofs.Ytiehpaffbaafcaa
open Go.ChangeShapes Go.WideShapes Go.ChangeAt Go.RowKit Pn Pt

namespace Pt
def kB (k : Int) : UInt8 := UInt8.ofNat (k % 256).toNat
theorem kB_int (k : Int) : ((kB k).toNat : Int) = k % 256 := by
  unfold kB
  rw [UInt8.toNat_ofNat']
  omega
theorem cat3 (x : List UInt8) (k : UInt8) (y z : List UInt8) : (((⟨x.toArray⟩ : ByteArray) ++ ⟨#[k]⟩) ++ ⟨y.toArray⟩) ++ ⟨z.toArray⟩ = ⟨(x ++ (k :: (y ++ z))).toArray⟩ := by
  apply ByteArray.ext
  simp [ByteArray.data_append]
theorem cat2 (x : List UInt8) (k : UInt8) (y : List UInt8) : ((⟨x.toArray⟩ : ByteArray) ++ ⟨#[k]⟩) ++ ⟨y.toArray⟩ = ⟨(x ++ (k :: y)).toArray⟩ := by
  apply ByteArray.ext
  simp [ByteArray.data_append]
theorem conv_one {W : World} {g : Nat} {k : UInt8} {v : Value} (hv : v = .int .u8 (k.toNat : Int)) (h : W.heap[g]? = some (.cells #[v] 5 (0, 0))) : (convert 53 9 (.slice (some ⟨g, 0, none⟩) 1 1)).run Try.prog W = .ok (.string ⟨#[k]⟩) W :=
  run_text W _ 1 1 [k] rfl fun j u hj => by
    subst hv
    rw [Addr.add_lit, Nat.zero_add, cell_of_row _ _ _ _ _ _ h, ← hj]
    exact List.getElem?_toArray
theorem two_sz (x : List UInt8) : (⟨x.toArray⟩ : ByteArray).size = x.length := List.size_toArray
end Pt
set_option maxRecDepth 100000 in
set_option maxHeartbeats 6400000 in
theorem ref19_bytes (w : World) (A : Option Addr) (n c : Nat) (L : List Deed) (hL : L.length = n) (hA : DIn w A L) :
    Calls Try.prog 8 #[.slice A n c] w fun e w' => e = .returned (if canD L = true then .tuple #[.string ⟨(allL L).toArray⟩, .bool true] else .tuple #[.string ⟨#[]⟩, .bool false]) ∧ Below w.heap.size w w' := by
  have HL := Lib.hid hL
  have HA := Lib.hid hA
  generalize hV : (if canD L = true then Value.tuple #[.string ⟨(allL L).toArray⟩, .bool true] else .tuple #[.string ⟨#[]⟩, .bool false]) = V
  have HVY := Lib.hid (show canD L = true → V = Value.tuple #[.string ⟨(allL L).toArray⟩, .bool true] from fun h => by rw [← hV, if_pos h])
  have HVN := Lib.hid (show canD L = false → V = Value.tuple #[.string ⟨#[]⟩, .bool false] from fun h => by rw [← hV, if_neg (by rw [h]; exact Bool.false_ne_true)])
  clear hL hA hV
  by_cases hn : 256 < n
  · have x0 : 256 < (n : Int) := by omega
    have x1 : decide (256 < (n : Int)) = true := decide_eq_true x0
    have HC := Lib.hid (show canD L = false by unfold canD; rw [decide_eq_false (by have := HL.out; omega), Bool.false_and])
    go_enter Try.func8, Try.ntmps8
    go_wp2_with (fail)
    refine bodyPost_ret (results_tmp2 rfl _ _ _) rfl ?_
    rw [HVN.out HC.out]
    exact ⟨rfl, Below.refl _ _⟩
  have x0 : ¬ 256 < (n : Int) := by omega
  have x1 : decide (256 < (n : Int)) = false := decide_eq_false x0
  have HN := Lib.hid (show n ≤ 256 by omega)
  have HCN := Lib.hid (show canD L = L.all (okD mxB) by unfold canD; rw [decide_eq_true (by have := HL.out; omega), Bool.true_and])
  have HG := Lib.hid (fun o W => ref19_good o W)
  have HNW := Lib.hid (fun W x h0 h1 => refw_num W x h0 h1)
  have HTW := Lib.hid (fun W d h => refw_text W d h)
  have HN0 := Lib.hid (refw_num w (n : Int) (by omega) (by omega))
  clear hn
  go_enter Try.func8, Try.ntmps8
  go_wp2_with (fail)
  refine HN0.out.mono ?_
  rintro e w1 ⟨rfl, b1⟩
  have HB1 := Lib.hid b1
  clear b1 HN0
  go_wp2_with (fail)
  go_loopw [4, 6] (fun s i wr => ∃ j : Nat, i = .int .i64 (j : Int) ∧ j ≤ n ∧ s = .string ⟨(numL (n : Int) ++ bodL (L.take j)).toArray⟩ ∧ (L.take j).all (okD mxB) = true ∧ Below w.heap.size w wr) (fun _ i _ => match i with | .int _ k => n - k.toNat | _ => 0)
  case atStart => exact ⟨0, rfl, Nat.zero_le _, by rw [show bodL (L.take 0) = [] from rfl, List.append_nil], rfl, HB1.out⟩
  case round =>
    clear HB1
    obtain ⟨j, rfl, hj, rfl, hall, hb⟩ := hrel
    have HALL := Lib.hid hall
    have HB := Lib.hid hb
    clear hall hb
    have x2 : 0 ≤ (j : Int) := by omega
    by_cases hlt : j < n
    · have y0 : (j : Int) < (n : Int) := by omega
      have y1 : decide ((j : Int) < (n : Int)) = true := decide_eq_true y0
      have hjl : j < L.length := by rw [HL.out]; exact hlt
      obtain ⟨pb, po, rfl, hc⟩ := (HA.out.below HB.out (Nat.le_refl _)) (by omega)
      obtain ⟨c0, c1, c2, c3⟩ := hc j _ (deed_at hjl)
      have htk := take_deeds hjl
      have HMM := Lib.hid (show L.getD j dz ∈ L from by rw [List.getD_eq_getElem?_getD, List.getElem?_eq_getElem hjl]; exact List.getElem_mem hjl)
      have HJ := Lib.hid (show j + 1 ≤ n by omega)
      generalize L.getD j dz = o at c0 c1 c2 c3 htk HMM
      have HTK := Lib.hid htk
      have HGO := Lib.hid (HG.out o)
      have HW1 := Lib.hid (IntWalk.wrap64_in ((j : Int) + 1) (by have := HN.out; omega))
      have HLE := Lib.hid (show (numL (n : Int) ++ bodL (L.take j)).length ≤ 50000000 from by
        have h1 := bodL_le _ HALL.out
        rw [List.length_append, numL_length]
        rw [List.length_take, HL.out, Nat.min_eq_left (by omega)] at h1
        have := HN.out
        omega)
      unfold dv at HGO
      clear hc hjl hlt htk
      cases hgd : okD mxB o with
      | false =>
        have HE := Lib.hid (HVN.out (HCN.out.trans (by
          rw [Bool.eq_false_iff]
          intro h
          have := List.all_eq_true.1 h o HMM.out
          rw [hgd] at this
          cases this)))
        rw [hgd] at HGO
        clear hgd
        go_wp2_with (go_at_call 19; refine (HGO.out _).mono ?_; rintro e w2 ⟨rfl, b2⟩; have HB2 := Lib.hid b2; clear b2)
        refine bodyPost_ret (results_tmp2 rfl _ _ _) rfl ?_
        rw [HE.out]
        exact ⟨rfl, (HB.out.alloc HB.out.size _).trans (HB2.out.mono (by have := HB.out.size; simp; omega))⟩
      | true =>
        have HGD := Lib.hid hgd
        have HAL2 := Lib.hid (show (L.take (j + 1)).all (okD mxB) = true from by
          rw [HTK.out, List.all_append, HALL.out]
          simp [HGD.out])
        have HBO := Lib.hid (show bodL (L.take (j + 1)) = bodL (L.take j) ++ bytL o from by rw [HTK.out, bodL_next])
        rw [hgd] at HGO
        have HF := Lib.hid (show 0 ≤ o.f ∧ o.f ≤ 2147483647 ∧ 0 ≤ o.s ∧ o.s ≤ 2147483647 ∧ o.d.size ≤ 8192 from by
          rcases way hgd with ⟨_, hd, hi⟩ | ⟨_, hf, hs, ht⟩ | ⟨_, hs, ht, hi⟩
          · have := ins_iff.1 hi; unfold mxB at this; omega
          · have := tel_iff.1 ht; omega
          · have := tel_iff.1 ht; have := ins_iff.1 hi; unfold mxB at this; omega)
        have q0 := two_sz (numL (n : Int) ++ bodL (L.take j))
        have HQ0 := Lib.hid (show (⟨(numL (n : Int) ++ bodL (L.take j)).toArray⟩ : ByteArray).size ≤ 50000000 from by rw [q0]; exact HLE.out)
        have HS0 := Lib.hid (show (⟨(numL (n : Int) ++ bodL (L.take j)).toArray⟩ : ByteArray) = ⟨(numL (n : Int) ++ bodL (L.take j)).toArray⟩ from rfl)
        clear hgd HG q0
        generalize hq : (⟨(numL (n : Int) ++ bodL (L.take j)).toArray⟩ : ByteArray) = S0 at HQ0 ⊢
        have HQS := Lib.hid hq
        clear hq HS0
        have z1 : ¬ 9223372036854775807 < S0.size + 1 := by have := HQ0.out; omega
        have z1' : ¬ 9223372036854775807 < S0.size + (⟨#[kB o.k]⟩ : ByteArray).size := z1
        go_wp2_with (first | (go_at_call 19; refine (HGO.out _).mono ?_; rintro e w2 ⟨rfl, b2⟩; have HB2 := Lib.hid (show Below w.heap.size w w2 from (HB.out.alloc HB.out.size _).trans (b2.mono (by have := HB.out.size; simp; omega))); have HX2 := Lib.hid (show w2.heap[wr.heap.size]? = some (boxD 38 o) from (b2.block wr.heap.size (by simp)).trans (by unfold boxD; exact heap_alloc_new wr _)); obtain ⟨d0, d1, d2, d3⟩ := box_at HX2.out; have HX3 := Lib.hid (show (w2.alloc (.cells #[.int .u8 (o.k % 256)] 5)).heap[wr.heap.size]? = some (boxD 38 o) from (heap_alloc_old _ _ (Array.getElem?_eq_some_iff.1 HX2.out).1).trans HX2.out); obtain ⟨e0, e1, e2, e3⟩ := box_at HX3.out; have hcv := conv_one (k := kB o.k) (v := .int .u8 (o.k % 256)) (by rw [kB_int]) (heap_alloc_new w2 (.cells #[.int .u8 (o.k % 256)] 5)); clear b2))
        clear hcv d0 d1 d2 d3
        refine (HNW.out _ o.f (by have := HF.out; omega) (by have := HF.out; omega)).mono ?_
        rintro e w4 ⟨rfl, b4⟩
        have HB4 := Lib.hid (show Below w.heap.size w w4 from (HB2.out.alloc HB2.out.size _).trans (b4.mono (by have := HB2.out.size; simp; omega)))
        have HX4 := Lib.hid (show w4.heap[wr.heap.size]? = some (boxD 38 o) from (b4.block _ (Array.getElem?_eq_some_iff.1 HX3.out).1).trans HX3.out)
        clear b4 e0 e1 e2 e3
        obtain ⟨d0, d1, d2, d3⟩ := box_at HX4.out
        go_wp2_with (fail)
        refine (HNW.out _ o.s (by have := HF.out; omega) (by have := HF.out; omega)).mono ?_
        rintro e w5 ⟨rfl, b5⟩
        have HB5 := Lib.hid (HB4.out.trans (b5.mono HB4.out.size))
        have HX5 := Lib.hid (show w5.heap[wr.heap.size]? = some (boxD 38 o) from (b5.block _ (Array.getElem?_eq_some_iff.1 HX4.out).1).trans HX4.out)
        clear b5 d0 d1 d2 d3
        obtain ⟨d0, d1, d2, d3⟩ := box_at HX5.out
        have HFN := Lib.hid (show (⟨(numL o.f).toArray⟩ : ByteArray).size = 4 ∧ (⟨(numL o.s).toArray⟩ : ByteArray).size = 4 ∧ (⟨(textL o.d).toArray⟩ : ByteArray).size ≤ 8196 from ⟨by rw [two_sz, numL_length], by rw [two_sz, numL_length], by rw [two_sz, textL_length]; have := HF.out; omega⟩)
        have HT5 := Lib.hid (show Calls Try.prog 20 #[.string o.d] w5 fun e w' => e = .returned (.string ⟨(textL o.d).toArray⟩) ∧ Below w5.heap.size w5 w' from HTW.out w5 o.d (by have := HF.out; omega))
        have HSK := Lib.hid (show (S0 ++ ⟨#[kB o.k]⟩ : ByteArray).size ≤ 50000001 from by rw [ByteArray.size_append]; have := HQ0.out; exact Nat.succ_le_succ this)
        have HC3 := Lib.hid (fun (y z : List UInt8) => show (((S0 ++ ⟨#[kB o.k]⟩) ++ ⟨y.toArray⟩) ++ ⟨z.toArray⟩ : ByteArray) = ⟨((numL (n : Int) ++ bodL (L.take j)) ++ (kB o.k :: (y ++ z))).toArray⟩ from by rw [← HQS.out]; exact cat3 _ _ _ _)
        have HC2 := Lib.hid (fun (y : List UInt8) => show ((S0 ++ ⟨#[kB o.k]⟩) ++ ⟨y.toArray⟩ : ByteArray) = ⟨((numL (n : Int) ++ bodL (L.take j)) ++ (kB o.k :: y)).toArray⟩ from by rw [← HQS.out]; exact cat2 _ _ _)
        have HBY := Lib.hid (show bytL o = kB o.k :: (if o.k = 1 then numL o.f ++ numL o.s else if o.k = 2 then textL o.d else numL o.f ++ textL o.d) from rfl)
        clear HNW HTW HQS HX2 HX3 HX4 z1
        generalize S0 ++ (⟨#[kB o.k]⟩ : ByteArray) = S1 at HSK HC3 HC2 ⊢
        by_cases hk1 : o.k = 1
        · have k1 : (o.k == 1) = true := beq_iff_eq.2 hk1
          have hfin := HC3.out (numL o.f) (numL o.s)
          rw [if_pos hk1] at HBY
          rw [← HBY.out, List.append_assoc, ← HBO.out] at hfin
          obtain ⟨s1, s2, s3⟩ := HFN.out
          have g0 := HSK.out
          generalize (⟨(numL o.f).toArray⟩ : ByteArray) = F at s1 hfin ⊢
          generalize (⟨(numL o.s).toArray⟩ : ByteArray) = E at s2 hfin ⊢
          have g1 : ¬ 9223372036854775807 < S1.size + 4 := by omega
          have g2 : ¬ 9223372036854775807 < S1.size + 4 + 4 := by omega
          have HFI := Lib.hid hfin
          clear hfin s3 g0
          go_wp2_with (fail)
          try rw [HW1.out]
          rw [HFI.out]
          exact ⟨⟨j + 1, rfl, HJ.out, rfl, HAL2.out, HB5.out⟩, pt_less j n HJ.out⟩
        have k1 : (o.k == 1) = false := beq_eq_false_iff_ne.2 hk1
        rw [if_neg hk1] at HBY
        by_cases hk2 : o.k = 2
        · have k2 : (o.k == 2) = true := beq_iff_eq.2 hk2
          have hfin := HC2.out (textL o.d)
          rw [if_pos hk2] at HBY
          rw [← HBY.out, List.append_assoc, ← HBO.out] at hfin
          obtain ⟨s1, s2, s3⟩ := HFN.out
          have g0 := HSK.out
          generalize (⟨(textL o.d).toArray⟩ : ByteArray) = F at s3 hfin HT5
          have g1 : ¬ 9223372036854775807 < S1.size + F.size := by omega
          have HFI := Lib.hid hfin
          clear hfin g0 s3
          go_wp2_with (fail)
          refine HT5.out.mono ?_
          rintro e w6 ⟨rfl, b6⟩
          have HB6 := Lib.hid (HB5.out.trans (b6.mono HB5.out.size))
          clear b6
          go_wp2_with (fail)
          try rw [HW1.out]
          rw [HFI.out]
          exact ⟨⟨j + 1, rfl, HJ.out, rfl, HAL2.out, HB6.out⟩, pt_less j n HJ.out⟩
        · have k2 : (o.k == 2) = false := beq_eq_false_iff_ne.2 hk2
          have hfin := HC3.out (numL o.f) (textL o.d)
          rw [if_neg hk2] at HBY
          rw [← HBY.out, List.append_assoc, ← HBO.out] at hfin
          obtain ⟨s1, s2, s3⟩ := HFN.out
          have g0 := HSK.out
          generalize (⟨(numL o.f).toArray⟩ : ByteArray) = F at s1 hfin ⊢
          generalize (⟨(textL o.d).toArray⟩ : ByteArray) = E at s3 hfin HT5
          have g1 : ¬ 9223372036854775807 < S1.size + 4 := by omega
          have g2 : ¬ 9223372036854775807 < S1.size + 4 + E.size := by omega
          have HFI := Lib.hid hfin
          clear hfin s3 g0
          go_wp2_with (fail)
          refine HT5.out.mono ?_
          rintro e w6 ⟨rfl, b6⟩
          have HB6 := Lib.hid (HB5.out.trans (b6.mono HB5.out.size))
          clear b6
          go_wp2_with (fail)
          try rw [HW1.out]
          rw [HFI.out]
          exact ⟨⟨j + 1, rfl, HJ.out, rfl, HAL2.out, HB6.out⟩, pt_less j n HJ.out⟩
    · have hje : j = n := by omega
      subst hje
      have y0 : ¬ (j : Int) < (j : Int) := by omega
      have y1 : decide ((j : Int) < (j : Int)) = false := decide_eq_false y0
      have htl : L.take j = L := List.take_of_length_le (by rw [HL.out]; exact Nat.le_refl _)
      have hall := HALL.out
      rw [htl] at hall
      have HE := Lib.hid (HVY.out (HCN.out.trans hall))
      have HTL := Lib.hid htl
      clear htl hall
      go_wp2_with (fail)
      refine bodyPost_ret (results_tmp2 rfl _ _ _) rfl ?_
      rw [HE.out]
      unfold allL
      rw [HTL.out, HL.out]
      exact ⟨rfl, HB.out⟩
end Go.Proofs.Ytiehpaffbaafcaa
