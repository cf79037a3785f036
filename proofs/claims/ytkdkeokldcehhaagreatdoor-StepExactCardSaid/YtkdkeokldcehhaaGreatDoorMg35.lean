/-
  The reference of layer 17: look. Conditions: a shape that can be; the row, the keys and the values are there, as long as the shape's rows.
  Keys and values that a function gathers, each in a row of its own: what an append onto the one, or a store elsewhere, leaves of the other. No program's function here. No conditions but those of each lemma.
  The reference of layer 17: Step, where it answers an error. Conditions: the model's weights are as many as its shape asks; the entries are there.
-/
import Derived.Test.YtkdkeokldcehhaaGreatDoorMg24
import Derived.Test.YtkdkeokldcehhaaGreatDoorMg19
import Derived.Test.YtkdkeokldcehhaaGreatDoorMg16
import Derived.Test.YtkdkeokldcehhaaGreatDoorMg34
import Derived.Test.YtkdkeokldcehhaaGreatDoorMg22
import Derived.Test.YtkdkeokldcehhaaGreatDoorMg21
import Derived.Test.YtkdkeokldcehhaaGreatDoorMg18
set_option maxRecDepth 100000
namespace Go.Proofs.YtkdkeokldcehhaaGreatDoor
open Go.ChangeShapes Go.WideShapes Go.ChangeAt Go.RowKit Cf Vc Br Sf Sp Rf
open Go.Proofs.YtkdkeokldcehhaaGreatDoor.Nm (sat shift dot sum Fits)

namespace Rf
theorem lookL_zero (n : Nat) (q : List Int) (K V : List (List Int)) : lookL 0 n q K V = [] := rfl
theorem lookL_next (i n : Nat) (q : List Int) (K V : List (List Int)) : lookL (i + 1) n q K V = lookL i n q K V ++ mixH n i q K V := by
  unfold lookL
  rw [List.range_succ, List.flatMap_append]
  simp
theorem cut_at (n i : Nat) (v : List Int) (F : Nat) (h : i * n = F) : cutH n i v = (v.drop F).take n := by unfold cutH; rw [h]
theorem lon_below {p : Nat → Prop} {w w' : World} {A : Option Addr} {B : Nat → Option Addr} {C : Nat → Nat} {L : List (List Int)} (h : LOn p w A B C L) (hb : Below w.heap.size w w') : LOn p w' A B C L := ⟨h.is.below hb (Nat.le_refl _), h.here, h.there, h.cap⟩
theorem take_moreL (L : List (List Int)) (j : Nat) (h : j < L.length) : L.take (j + 1) = L.take j ++ [L.getD j []] := by
  rw [List.take_succ_eq_append_getElem h, List.getD_eq_getElem?_getD, List.getElem?_eq_getElem h]
  rfl
theorem getD_mapL {α : Type} (f : List Int → α) (L : List (List Int)) (z : α) (j : Nat) (h : j < L.length) : (L.map f).getD j z = f (L.getD j []) := by
  rw [List.getD_eq_getElem?_getD, List.getElem?_map, List.getElem?_eq_getElem h, List.getD_eq_getElem?_getD, List.getElem?_eq_getElem h]
  rfl
/-- What the document's mix makes, where it can. -/
theorem mix_is {K V : List (List Int)} {n i m : Nat} {q : List Int} (hK : K.length = m) (hV : V.length = m) (hm : 0 < m) (hc : ∀ j, j < m → (cutH n i (V.getD j [])).length = n) : mixR (weightsL (K.map (scoreH n i q))) (V.map (cutH n i)) = mixH n i q K V := by
  have hl : ∀ j, j < m → ((V.map (cutH n i)).getD j []).length = n := fun j hj => by
    rw [List.getD_eq_getElem?_getD, List.getElem?_map, List.getElem?_eq_getElem (by omega)]
    have := hc j hj
    rw [List.getD_eq_getElem?_getD, List.getElem?_eq_getElem (by omega)] at this
    exact this
  have hp : mixP (weightsL (K.map (scoreH n i q))) (V.map (cutH n i)) := by
    refine ⟨weights_in _, weights_some (by rw [List.length_map]; omega), by rw [weightsL_length, List.length_map, List.length_map, hK, hV], fun j hj => ?_⟩
    rw [List.length_map, hV] at hj
    rw [hl j hj, hl 0 hm]
  rw [mixR_ok hp, hl 0 hm]
  rfl
end Rf
set_option maxRecDepth 100000 in
set_option maxHeartbeats 12800000 in
theorem ref17_look (w : World) (x : Cfg) (s : ByteArray) (hk : Ok x s) (QA : Option Addr) (qc : Nat) (q : List Int) (hq : q.length = dN x) (hQ : KIn .i64 w QA q) (hqc : dN x ≤ qc) (KA : Option Addr) (kc : Nat) (KB : Nat → Option Addr) (KC : Nat → Nat) (K : List (List Int)) (hK : LOn (fun _ => True) w KA KB KC K) (VA : Option Addr) (vc : Nat) (VB : Nat → Option Addr) (VC : Nat → Nat) (V : List (List Int)) (hV : LOn (fun _ => True) w VA VB VC V) (m : Nat) (hKm : K.length = m) (hVm : V.length = m) (hm : 0 < m) (hm2 : m ≤ 40) (hKr : ∀ j, j < m → (K.getD j []).length = dN x) (hVr : ∀ j, j < m → (V.getD j []).length = dN x) :
    Calls Tryz.prog 38 #[mdV x s, .slice QA (dN x) qc, .slice KA m kc, .slice VA m vc] w (RowSays w (fun v => v) (lookL (hN x) (nH x) q K V)) := by
  have hhd := heads hk.good
  have hdm := dims hk.good.is
  have hd1 := hk.good.is.d1
  have hd16 := hk.good.is.d16
  have hh1 := hk.good.is.h1
  have hh4 := hk.good.is.h4
  obtain ⟨d, hd⟩ : ∃ d, dN x = d := ⟨_, rfl⟩
  obtain ⟨H, hH⟩ : ∃ H, hN x = H := ⟨_, rfl⟩
  have hnn : (nH x : Int) = x.d.tdiv x.h := by
    have : 0 ≤ x.d.tdiv x.h := Int.tdiv_nonneg (by omega) (by omega)
    unfold nH
    omega
  obtain ⟨n, hn⟩ : ∃ n, nH x = n := ⟨_, rfl⟩
  rw [hd] at hq hqc hKr hVr hdm ⊢
  rw [hH, hn, hd] at hhd
  rw [hH] at hdm ⊢
  rw [hn] at hnn ⊢
  have hxd : x.d = (d : Int) := hdm.1.symm
  have hxh : x.h = (H : Int) := hdm.2.1.symm
  have hn1 : 1 ≤ n := by
    rcases Nat.eq_zero_or_pos n with h0 | h0
    · rw [h0, Nat.mul_zero] at hhd; omega
    · exact h0
  have HD := Lib.hid (show 1 ≤ d ∧ d ≤ 16 ∧ 1 ≤ H ∧ H ≤ 4 ∧ 1 ≤ n ∧ H * n = d by omega)
  have HQO := Lib.hid (show (wrap64 ((x.d).tdiv x.h) = (n : Int) ∧ (x.d).tdiv x.h = (n : Int)) ∧ (x.h == 0) = false ∧ ¬ x.h = 0 ∧ ¬ x.h = -1 ∧ (x.h == -1) = false from
    ⟨⟨(congrArg wrap64 hnn.symm).trans (IntWalk.wrap64_in _ (by have : n ≤ d := by rw [← hhd]; exact Nat.le_mul_of_pos_left n (by omega)
                                                                omega)), hnn.symm⟩, beq_eq_false_iff_ne.2 (by omega), by omega, by omega, beq_eq_false_iff_ne.2 (by omega)⟩)
  have HKM := Lib.hid (And.intro hm hm2)
  have HKL := Lib.hid hKm
  have HVL := Lib.hid hVm
  have HQL := Lib.hid hq
  have HQC := Lib.hid hqc
  have HQI := Lib.hid hQ
  have HKO := Lib.hid hK
  have HVO := Lib.hid hV
  have HKR := Lib.hid hKr
  have HVR := Lib.hid hVr
  have HXH := Lib.hid hxh
  have HB0 := Lib.hid ((Below.refl w.heap.size w).alloc (Nat.le_refl _) (mdO x s))
  have HN0 := Lib.hid (heap_alloc_new w (mdO x s))
  obtain ⟨i0, hi, hz0, hz1, hz2⟩ := info_parts info_int
  obtain ⟨j0, hj, hy0, hy1, hy2⟩ := info_parts info_intsR
  have HI := Lib.hid hi
  have HZ0 := Lib.hid hz0
  have HZ1 := Lib.hid hz1
  have HZ2 := Lib.hid hz2
  have HJ := Lib.hid hj
  have HY0 := Lib.hid hy0
  have HY1 := Lib.hid hy1
  have HY2 := Lib.hid hy2
  have x0 := Rf.seven HN0.out
  unfold mdV brA
  unfold mdO brA at HB0 HN0 x0
  obtain ⟨e0, e1, e2, e3, e4, e5, e6⟩ := x0
  obtain ⟨⟨u1, u2⟩, u3, u4, u5, u6⟩ := HQO.out
  have u7 : wrap64 (n : Int) = (n : Int) := u2 ▸ u1
  clear hk hhd hdm hd1 hd16 hh1 hh4 hd hH hnn hn hq hqc hKr hVr hxd hxh hn1 hKm hVm hm hm2 hQ hK hV hi hz0 hz1 hz2 hj hy0 hy1 hy2
  go_enter Tryz.func38, Tryz.ntmps38
  go_wp2_with (refine wpList_buildNone rfl 45 3 rfl i0 Tryz.underlying45 HI.out ?_)
  rw [u7]
  clear u1 u2 u3 u4 u5 u6 u7 e0 e1 e2 e3 e4 e5 e6
  generalize hw1 : w.alloc (.cells #[.int .i64 x.v, .int .i64 x.d, .int .i64 x.h, .int .i64 x.b, .int .i64 x.n, .int .i64 x.c, .string s] 35) = w1 at HB0 HN0 ⊢
  have HBM := Lib.hid (show w.heap.size < w1.heap.size from (Array.getElem?_eq_some_iff.1 HN0.out).1)
  have HSZ := Lib.hid (show w.heap.size + 1 = w1.heap.size by rw [← hw1]; simp)
  clear hw1
  have HO0 := Lib.hid (Own.new w1 w1.heap.size (Nat.le_refl _))
  have HC0 := Lib.hid ((Below.refl w1.heap.size w1).alloc (Nat.le_refl _) (.cells #[] 3))
  try rw [HSZ.out]
  go_loopw [9, 11] (fun ov hv wr => ∃ (i G cg : Nat), hv = .int .i64 (i : Int) ∧ i ≤ H ∧ ov = .slice (some ⟨G, 0, none⟩) (lookL i n q K V).length cg ∧ Own wr w1.heap.size ov (lookL i n q K V) ∧ Below w1.heap.size w1 wr) (fun _ hv _ => match hv with | .int _ k => H - k.toNat | _ => 0)
  case atStart => exact ⟨0, w1.heap.size, 0, rfl, Nat.zero_le _, rfl, HO0.out, HC0.out⟩
  case round =>
    clear HO0 HC0
    obtain ⟨i, G, cg, rfl, hi, rfl, ho, hb⟩ := hrel
    have HO := Lib.hid ho
    have HB := Lib.hid hb
    have HBW := Lib.hid (HB0.out.trans (hb.mono HB0.out.size))
    have HN := Lib.hid (Rf.stays HN0.out hb)
    clear ho hb
    have x2 : 0 ≤ (i : Int) := by omega
    by_cases hlt : i < H
    · have x0 : (i : Int) < x.h := by rw [HXH.out]; omega
      have x1 : decide ((i : Int) < x.h) = true := decide_eq_true x0
      have HLT := Lib.hid hlt
      have HNX := Lib.hid (lookL_next i n q K V)
      have HLEN := Lib.hid (lookL_length i n q K V)
      generalize lookL i n q K V = L0 at HO HNX HLEN ⊢
      obtain ⟨u, hu⟩ : ∃ u, L0.length = u := ⟨_, rfl⟩
      rw [hu] at HO HLEN ⊢
      have HU := Lib.hid hu
      obtain ⟨F, hF⟩ : ∃ F, i * n = F := ⟨_, rfl⟩
      obtain ⟨E, hE⟩ : ∃ E, F + n = E := ⟨_, rfl⟩
      have HFE := Lib.hid (show E ≤ d ∧ F < d ∧ d ≤ 16 ∧ n = E - F ∧ F ≤ E from by
        have h1 := HD.out
        have h2 : (i + 1) * n ≤ H * n := Nat.mul_le_mul_right n (show i + 1 ≤ H by omega)
        rw [Nat.add_mul, Nat.one_mul] at h2
        omega)
      have HIF := Lib.hid (And.intro hF hE)
      have hFI : (i : Int) * (n : Int) = (F : Int) := by rw [← hF, Int.natCast_mul]
      have HFI := Lib.hid hFI
      obtain ⟨e0, e1, e2, e3, e4, e5, e6⟩ := Rf.seven HN.out
      have HMX := Lib.hid (fun hc => mix_is (K := K) (V := V) (n := n) (i := i) (m := m) (q := q) HKL.out HVL.out HKM.out.1 hc)
      have HSL := Lib.hid (show (K.map (scoreH n i q)).length = m by rw [List.length_map]; exact HKL.out)
      have HML := Lib.hid (show (V.map (cutH n i)).length = m by rw [List.length_map]; exact HVL.out)
      have HSA := Lib.hid (fun j (h : j < m) => show (K.map (scoreH n i q)).getD j 0 = shift (dot ((q.drop F).take n) (((K.getD j []).drop F).take n)) 9 from by
        rw [getD_mapL _ _ _ _ (by rw [HKL.out]; exact h)]
        unfold scoreH
        rw [cut_at n i q F HIF.out.1, cut_at n i (K.getD j []) F HIF.out.1])
      have HMA := Lib.hid (fun j (h : j < m) => show (V.map (cutH n i)).getD j [] = ((V.getD j []).drop F).take n from by
        rw [getD_mapL _ _ _ _ (by rw [HVL.out]; exact h), cut_at n i (V.getD j []) F HIF.out.1])
      have HRH := Lib.hid (mixH_length n i q K V)
      have HVN := Lib.hid (fun j (h : j < m) => show (cutH n i (V.getD j [])).length = n from cutH_length (H := H) (by rw [HVR.out j h, HD.out.2.2.2.2.2]) HLT.out)
      have HMR := Lib.hid (HMX.out HVN.out)
      generalize K.map (scoreH n i q) = S at HMR HSL HSA
      generalize V.map (cutH n i) = M at HMR HML HMA
      generalize mixH n i q K V = R at HMR HNX HRH
      clear hlt hi hu hF hE hFI HMX HVN
      generalize wr = wo at HO HB HBW HN e0 e1 e2 e3 e4 e5 e6 ⊢
      go_wp2_with (first
        | (refine wpList_buildNone rfl 45 3 rfl i0 Tryz.underlying45 HI.out ?_)
        | (refine wpList_buildNone rfl 27 45 rfl j0 Tryz.underlying27 HJ.out ?_))
      have HS0 := Lib.hid (show Own ((wo.alloc (.cells #[] 3)).alloc (.cells #[] 45)) wo.heap.size (.slice (some ⟨wo.heap.size, 0, none⟩) 0 0) [] from World.ownsRow.alloc (Own.new wo wo.heap.size (Nat.le_refl _)) _)
      have HM0 := Lib.hid (show GL wo.heap.size (· < wo.heap.size) ((wo.alloc (.cells #[] 3)).alloc (.cells #[] 45)) (.slice (some ⟨wo.heap.size + 1, 0, none⟩) 0 0) (fun _ => none) (fun _ => 0) [] from by
        have := GL.new (N := wo.heap.size) (· < wo.heap.size) (fun _ => none) (fun _ => 0) (wo.alloc (.cells #[] 3)) (by simp)
        rwa [World.size_alloc] at this)
      have HC0 := Lib.hid (((Below.refl wo.heap.size wo).alloc (Nat.le_refl _) (.cells #[] 3)).alloc (by simp) (.cells #[] 45))
      clear e0 e1 e2 e3 e4 e5 e6
      go_loopw [12, 13, 14] (fun sv mv jv wr => ∃ (j : Nat) (A1 : Option Addr) (c1 : Nat) (A2 : Option Addr) (c2 : Nat) (B : Nat → Option Addr) (C : Nat → Nat), jv = .int .i64 (j : Int) ∧ j ≤ m ∧ sv = .slice A1 j c1 ∧ mv = .slice A2 j c2 ∧ Own wr wo.heap.size sv (S.take j) ∧ GL wo.heap.size (· < wo.heap.size) wr mv B C (M.take j) ∧ Below wo.heap.size wo wr) (fun _ _ jv _ => match jv with | .int _ k => m - k.toNat | _ => 0)
      case atStart => exact ⟨0, _, 0, _, 0, _, _, rfl, Nat.zero_le _, rfl, rfl, HS0.out, HM0.out, HC0.out⟩
      case round =>
        clear HS0 HM0 HC0
        obtain ⟨j, A1, c1, A2, c2, B, C, rfl, hj, rfl, rfl, hso, hgl, hb⟩ := hrel
        have HSO := Lib.hid hso
        have HGL := Lib.hid hgl
        have HC := Lib.hid hb
        have HWZ := Lib.hid (HBW.out.trans (hb.mono HBW.out.size))
        clear hso hgl hb
        have y2 : 0 ≤ (j : Int) := by omega
        by_cases hlt : j < m
        · have y0 : (j : Int) < (m : Int) := by omega
          have y1 : decide ((j : Int) < (m : Int)) = true := decide_eq_true y0
          have HJM := Lib.hid hlt
          have HWOL := Lib.hid (show w.heap.size ≤ wo.heap.size from HBW.out.size)
          obtain ⟨pk, ok, rb, ro, hKA, hKB, hdk, hcell, hkrow⟩ := Sp.row_at (lon_below HKO.out HWZ.out) (k := j) (d := d) (by rw [HKL.out]; exact hlt) (HKR.out j hlt) (by have := HD.out; omega)
          obtain ⟨pv, ov, sb, so, hVA, hVB, hdv, hcellv, hvrow⟩ := Sp.row_at (lon_below HVO.out HWZ.out) (k := j) (d := d) (by rw [HVL.out]; exact hlt) (HVR.out j hlt) (by have := HD.out; omega)
          subst hKA hVA
          obtain ⟨qb, qo, hQe, _⟩ := HQI.out (by rw [HQL.out]; have := HD.out; omega)
          subst hQe
          have HBLK := Lib.hid (show pk < wo.heap.size ∧ rb < wo.heap.size ∧ pv < wo.heap.size ∧ sb < wo.heap.size from by
            obtain ⟨pk', ok', rb', ro', a1, a2, _, a3, a4⟩ := Sp.row_at HKO.out (k := j) (d := d) (by rw [HKL.out]; exact hlt) (HKR.out j hlt) (by have := HD.out; omega)
            obtain ⟨pv', ov', sb', so', b1, b2, _, b3, b4⟩ := Sp.row_at HVO.out (k := j) (d := d) (by rw [HVL.out]; exact hlt) (HVR.out j hlt) (by have := HD.out; omega)
            injection a1 with a1
            injection a1 with a1 _ _
            injection b1 with b1
            injection b1 with b1 _ _
            rw [hKB] at a2
            rw [hVB] at b2
            injection a2 with a2
            injection a2 with a2 _ _
            injection b2 with b2
            injection b2 with b2 _ _
            subst a1 b1 a2 b2
            have c1 := block_lt_of_cell a3
            have c2 := block_lt_of_cell b3
            have c3 := KIn.low a4 (by rw [HKR.out j hlt]; have := HD.out; omega) _ rfl
            have c4 := KIn.low b4 (by rw [HVR.out j hlt]; have := HD.out; omega) _ rfl
            have := HWOL.out
            have c1' : pk < w.heap.size := c1
            have c2' : pv < w.heap.size := c2
            have c3' : rb < w.heap.size := c3
            have c4' : sb < w.heap.size := c4
            omega)
          obtain ⟨kcj, hkc⟩ : ∃ kcj, KC j = kcj := ⟨_, rfl⟩
          obtain ⟨vcj, hvc⟩ : ∃ vcj, VC j = vcj := ⟨_, rfl⟩
          rw [hkc] at hdk hcell
          rw [hvc] at hdv hcellv
          have HCE := Lib.hid (fun W (hW : Below wo.heap.size wo W) => show W.cell? ⟨pk, ok + j, none⟩ = some (.slice (some ⟨rb, ro, none⟩) d kcj) from
            (hW.cell (p := ⟨pk, ok + j, none⟩) HBLK.out.1).trans ((HC.out.cell (p := ⟨pk, ok + j, none⟩) HBLK.out.1).symm.trans hcell))
          have HCV := Lib.hid (fun W (hW : Below wo.heap.size wo W) => show W.cell? ⟨pv, ov + j, none⟩ = some (.slice (some ⟨sb, so, none⟩) d vcj) from
            (hW.cell (p := ⟨pv, ov + j, none⟩) HBLK.out.2.2.1).trans ((HC.out.cell (p := ⟨pv, ov + j, none⟩) HBLK.out.2.2.1).symm.trans hcellv))
          have HB0D := Lib.hid (show Below wo.heap.size wo wr.drew from below_drewN HC.out 1)
          have HKROW := Lib.hid (show KIn .i64 wr (some ⟨rb, ro + F, none⟩) (((K.getD j []).drop F).take n) from kin_cut hkrow (by rw [HKR.out j hlt]; have := HFE.out; have := HIF.out; omega))
          have HVROW := Lib.hid (show KIn .i64 wr (some ⟨sb, so + F, none⟩) (((V.getD j []).drop F).take n) from kin_cut hvrow (by rw [HVR.out j hlt]; have := HFE.out; have := HIF.out; omega))
          have HQROW := Lib.hid (show KIn .i64 wr (some ⟨qb, qo + F, none⟩) ((q.drop F).take n) from kin_cut (HQI.out.below HWZ.out (Nat.le_refl _)) (by rw [HQL.out]; have := HFE.out; have := HIF.out; omega))
          have HLQ := Lib.hid (show ((q.drop F).take n).length = n by rw [List.length_take, List.length_drop, HQL.out]; have := HFE.out; have := HIF.out; omega)
          have HLKJ := Lib.hid (show (((K.getD j []).drop F).take n).length = n by rw [List.length_take, List.length_drop, HKR.out j hlt]; have := HFE.out; have := HIF.out; omega)
          have HLVJ := Lib.hid (show (((V.getD j []).drop F).take n).length = n by rw [List.length_take, List.length_drop, HVR.out j hlt]; have := HFE.out; have := HIF.out; omega)
          have HSJ := Lib.hid (HSA.out j hlt)
          have HMJV := Lib.hid (HMA.out j hlt)
          generalize ((K.getD j []).drop F).take n = kl at HKROW HLKJ HSJ
          generalize ((V.getD j []).drop F).take n = vl at HVROW HLVJ HMJV
          generalize (q.drop F).take n = ql at HQROW HLQ HSJ
          have HDOT := Lib.hid (rdot_any wr.drew (some ⟨qb, qo + F, none⟩) n (qc - F) (some ⟨rb, ro + F, none⟩) n (kcj - F) ql kl HLQ.out HLKJ.out (by have := HFE.out; omega) (by have := HFE.out; omega) HQROW.out HKROW.out)
          have HFT := Lib.hid (show Fits (dot ql kl) from ⟨by have := dot_in ql kl; omega, by have := dot_in ql kl; omega⟩)
          generalize dot ql kl = dt at HDOT HFT HSJ
          have HTS := Lib.hid (take_more S j (by rw [HSL.out]; exact hlt))
          have HTM := Lib.hid (take_moreL M j (by rw [HML.out]; exact hlt))
          have HOLS := Lib.hid (show (S.take j).length = j by rw [List.length_take, HSL.out]; omega)
          have HOLM := Lib.hid (show (M.take j).length = j by rw [List.length_take, HML.out]; omega)
          have HMX := Lib.hid (show j + 1 ≤ maxLen ∧ (j + 1) * 8 ≤ 140737488355328 ∧ (j + 1) * 24 ≤ 140737488355328 from by have := HKM.out; unfold maxLen; omega)
          have HBD := Lib.hid (show (-9223372036854775808 ≤ (F : Int) ∧ (F : Int) ≤ 9223372036854775807) ∧ (-9223372036854775808 ≤ (F : Int) + (n : Int) ∧ (F : Int) + (n : Int) ≤ 9223372036854775807) ∧ (F : Int) + (n : Int) = (E : Int) ∧ (-9223372036854775808 ≤ (j : Int) + 1 ∧ (j : Int) + 1 ≤ 9223372036854775807) from by
            have := HFE.out
            have := HIF.out
            have := HKM.out
            omega)
          have HCT := Lib.hid (show F ≤ E ∧ E ≤ qc ∧ F < qc ∧ E ≤ kcj ∧ F < kcj ∧ E ≤ vcj ∧ F < vcj from by
            have := HFE.out
            have := HQC.out
            omega)
          have a1 : wrap64 ((i : Int) * (n : Int)) = (F : Int) := (congrArg wrap64 HFI.out).trans (IntWalk.wrap64_in _ HBD.out.1)
          have a1' : IntKind.i64.wrap ((i : Int) * (n : Int)) = (F : Int) := (congrArg IntKind.i64.wrap HFI.out).trans (IntWalk.i64_in _ HBD.out.1)
          have a2 : wrap64 ((F : Int) + (n : Int)) = (E : Int) := (IntWalk.wrap64_in _ HBD.out.2.1).trans HBD.out.2.2.1
          have a2' : IntKind.i64.wrap ((F : Int) + (n : Int)) = (E : Int) := (IntWalk.i64_in _ HBD.out.2.1).trans HBD.out.2.2.1
          have ct1 := cut_lh qb qo d qc F E (F : Int) (E : Int) rfl rfl HCT.out.1 HCT.out.2.1 HCT.out.2.2.1 n HFE.out.2.2.2.1
          have ct2 := cut_lh rb ro d kcj F E (F : Int) (E : Int) rfl rfl HCT.out.1 HCT.out.2.2.2.1 HCT.out.2.2.2.2.1 n HFE.out.2.2.2.1
          have y4 : 0 ≤ (F : Int) := Int.natCast_nonneg F
          have y5 : (F : Int) ≤ (E : Int) := Int.ofNat_le.2 HCT.out.1
          clear hlt hj hKB hVB hdk hdv hcell hcellv hkrow hvrow hkc hvc HKROW
          have k0 := HCE.out _ HB0D.out
          go_wp2_with (fail)
          go_region_held3 (fun W : World => W.cell? ⟨pk, ok + j, none⟩ = some (.slice (some ⟨rb, ro, none⟩) d kcj)) (first | exact k0 | exact k6a _ | exact k7 _ _ ‹_› | assumption) (first
            | (go_at_call 42; (with_reducible refine HDOT.out.mono ?_); rintro e w6 ⟨rfl, b6⟩; have B6 := Lib.hid (show Below wr.heap.size wr w6 from (below_drewN (Below.refl wr.heap.size wr) 1).trans b6); have C6 := Lib.hid (HC.out.trans (B6.out.mono HC.out.size)); have k6 := HCE.out _ C6.out; have k6a := fun o => HCE.out _ (C6.out.alloc C6.out.size o); have HO6 := Lib.hid (HSO.out.below B6.out (Nat.le_refl _)); have HW6 := Lib.hid (Own.at HO6.out HOLS.out); have k7 : ∀ (o : Obj) (wz : World), (w6.alloc o).grownBy wz (Value.slice A1 j c1).ownBlock → wz.cell? ⟨pk, ok + j, none⟩ = some (.slice (some ⟨rb, ro, none⟩) d kcj) := fun o wz hg => HCE.out _ (below_grew C6.out rfl HO6.out o hg); clear b6)
            | (go_at_call 41; (with_reducible refine (rshift_any dt 9 _ HFT.out).mono ?_); rintro e w7 ⟨rfl, rfl⟩)
            | ((refine step_append_lies _ (by rfl) _ _ _ (by rfl) wo.heap.size 3 i0 _ 1 8 Tryz.underlying45 HI.out HZ0.out HZ1.out HZ2.out rfl Nat.one_pos (.slice A1 j c1) j (icells (S.take j)) (by rfl) (HW6.out.alloc _) ⟨w6.heap.size, 0, none⟩ 1 1 [.int .i64 (shift dt 9)] (by rfl) (by rfl) (one_src w6 _) (one_one _) Nat.one_pos HMX.out.1 HMX.out.2.1 (base_le C6.out rfl _) _ rfl ?_; intro gg cap wz hownz hgrow hat hltz)))
          have HONS := Lib.hid (show Own wz wo.heap.size (.slice (some ⟨gg, 0, none⟩) (j + 1) cap) (S.take (j + 1)) from by
            rw [HTS.out, HSJ.out]
            exact Own.grew HOLS.out hownz)
          have HCZ := Lib.hid (below_grew C6.out rfl HO6.out _ hgrow)
          have HGLZ := Lib.hid (show GL wo.heap.size (· < wo.heap.size) wz (.slice A2 j c2) B C (M.take j) from by
            have h6 := HGL.out.step B6.out
            refine h6.kept (fun k hk => ?_) fun j' hj' _ hjs => ?_
            · have hne := Gn.own_two h6.own HO6.out (by decide) k hk
              have hlt := (h6.own.lt k hk).2
              exact (hgrow.block k (by simp; omega) fun e => hne e.symm).trans (Below.heap_alloc w6 _ k hlt)
            · exact (hgrow.block j' (by simp; omega) fun e => by have := (World.ownsRow.lt HO6.out j' e.symm).1; have hj'' : j' < wo.heap.size := hj'; omega).trans (Below.heap_alloc w6 _ j' hjs))
          have HVZ := Lib.hid (show KIn .i64 wz (some ⟨sb, so + F, none⟩) vl from by
            refine KIn.moved (p := fun j => j < wo.heap.size) HVROW.out (fun _ a ha => by rw [← Option.some.inj ha]; exact HBLK.out.2.2.2) fun j' hj' => ?_
            exact (HCZ.out.block j' hj').trans (HC.out.block j' hj').symm)
          have hcv := HCV.out _ HCZ.out
          have ct3 := cut_lh sb so d vcj F E (F : Int) (E : Int) rfl rfl HCT.out.1 HCT.out.2.2.2.2.2.1 HCT.out.2.2.2.2.2.2 n HFE.out.2.2.2.1
          have HWM := Lib.hid (show wz.ownsRow wo.heap.size 45 1 (.slice A2 j c2) j (lC B C (M.take j)) from by
            have := HGLZ.out.own
            rwa [HOLM.out] at this)
          have HONE := Lib.hid (one_sl wz (.slice (some ⟨sb, so + F, none⟩) n (vcj - F)) rfl)
          clear hownz hgrow hat hltz k0 k6 k6a k7 ct1 ct2
          go_wp2_with (at_builtin; refine wpList_append_lies _ rfl (.tmp 66) (.tmp 80) 27 rfl wo.heap.size 45 j0 _ 1 24 Tryz.underlying27 HJ.out HY0.out HY1.out HY2.out rfl Nat.one_pos (.slice A2 j c2) j (lC B C (M.take j)) rfl (HWM.out.alloc _) ⟨wz.heap.size, 0, none⟩ 1 1 [.slice (some ⟨sb, so + F, none⟩) n (vcj - F)] rfl rfl HONE.out.1 HONE.out.2 Nat.one_pos HMX.out.1 HMX.out.2.2 (base_le HCZ.out rfl _) _ rfl ?_; intro g2 cap2 wy hown2 hgrow2 hat2 hlt2)
          have HGLY := Lib.hid (show GL wo.heap.size (· < wo.heap.size) wy (.slice (some ⟨g2, 0, none⟩) (j + 1) cap2) (updF B j (some ⟨sb, so + F, none⟩)) (updF C j (vcj - F)) (M.take (j + 1)) from by
            rw [HTM.out, HMJV.out]
            refine HGLZ.out.more HOLM.out HVZ.out (fun _ a ha => ?_) (by rw [HLVJ.out]; have := HCT.out; have := HIF.out; omega) _ (by rw [HLVJ.out]; exact hown2) hgrow2 hat2
            rw [← Option.some.inj ha]
            refine ⟨HBLK.out.2.2.2, fun e => ?_⟩
            have h1 := (HGLZ.out.own.lt _ e).1
            have h2 : sb < wo.heap.size := HBLK.out.2.2.2
            have h3 : wo.heap.size ≤ sb := h1
            omega)
          have HOSY := Lib.hid (show Own wy wo.heap.size (.slice (some ⟨gg, 0, none⟩) (j + 1) cap) (S.take (j + 1)) from own_moved HONS.out fun k hk => by
            have hne := Gn.own_two HONS.out HGLZ.out.own (by decide) k hk
            have hlt := (World.ownsRow.lt HONS.out k hk).2
            exact (hgrow2.block k (by simp; omega) fun e => hne e.symm).trans (Below.heap_alloc wz _ k hlt))
          have HCY := Lib.hid ((HCZ.out.alloc HCZ.out.size (.cells #[.slice (some ⟨sb, so + F, none⟩) n (vcj - F)] 45)).grown hgrow2 (by have := HCZ.out.size; simp; omega) (fun k hk => (HGLZ.out.own.lt k hk).1))
          clear hown2 hgrow2 hat2 hlt2 hcv ct3 a1 a1' a2 a2' y4 y5
          rw [IntWalk.wrap64_in ((j : Int) + 1) HBD.out.2.2.2]
          exact ⟨⟨j + 1, _, cap, _, cap2, _, _, rfl, HJM.out, rfl, rfl, HOSY.out, HGLY.out, HCY.out⟩, vc_less j m HJM.out⟩
        · have hke : j = m := by omega
          have y0 : ¬ (j : Int) < (m : Int) := by omega
          have y1 : decide ((j : Int) < (m : Int)) = false := decide_eq_false y0
          rw [hke, List.take_of_length_le (by rw [HSL.out]; exact Nat.le_refl _)] at HSO
          rw [hke, List.take_of_length_le (by rw [HML.out]; exact Nat.le_refl _)] at HGL
          rw [hke]
          have HOB := Lib.hid (HO.out.below HC.out (Nat.le_refl _))
          have HWT := Lib.hid (ref12_weights wr A1 m c1 S HSL.out (by have := HKM.out; omega) HSO.out.kin)
          have HB1C := Lib.hid (HB.out.trans (HC.out.mono HB.out.size))
          unfold RowSays at HWT
          clear hke hlt hj
          go_wp2_with (fail)
          refine HWT.out.mono ?_
          rintro e wa ⟨Wa, wc, rfl, hka, ba⟩
          have HBA := Lib.hid (HB1C.out.trans (ba.mono HB1C.out.size))
          have HOA := Lib.hid (HOB.out.below ba (Nat.le_refl _))
          have HMI := Lib.hid (show Calls Tryz.prog 71 #[.slice Wa (weightsL S).length wc, .slice A2 m c2] wa (RowSays wa (fun v => v) R) from by
            have h1 := ref12_mix wa Wa wc (weightsL S) A2 c2 B C M (weightsL S).length m rfl (by rw [weightsL_length, HSL.out]; have := HKM.out; omega) HML.out hka (HGL.out.step ba).lin (fun j hj => by
              rw [HMA.out j hj, List.length_take]
              have := HD.out
              have := HFE.out
              omega)
            rwa [HMR.out] at h1)
          unfold RowSays at HMI
          clear hka ba HWT HOB HB1C
          go_wp2_with (fail)
          refine HMI.out.mono ?_
          rintro e wb ⟨X, xc, rfl, hkx, bb⟩
          have HBB := Lib.hid (HBA.out.trans (bb.mono HBA.out.size))
          have HOZ := Lib.hid (HOA.out.below bb (Nat.le_refl _))
          have HKX := Lib.hid hkx
          have HLS := Lib.hid (show L0.length + R.length = u + n by rw [HU.out, HRH.out])
          have HSM := Lib.hid (show u + n ≤ 4096 from by
            have h1 := HD.out
            have h2 := HFE.out
            have h3 := HIF.out
            rw [HLEN.out, h3.1]
            omega)
          have HRH2 := Lib.hid HRH.out
          clear hkx bb HMI HOA HBA
          go_wp2_with (at_builtin; refine wpList_ints_every rfl (.tmp 82) (.tmp 86) rfl w1.heap.size (.slice (some ⟨G, 0, none⟩) u cg) L0 R rfl HOZ.out (by intro e; cases e) X R.length xc rfl rfl HKX.out (u + n) HLS.out HSM.out HBB.out.size ?_; intro gg cap wy hownz hgrow)
          have HON := Lib.hid hownz
          have HBN := Lib.hid (HBB.out.grown hgrow HBB.out.size (fun k hk => (World.ownsRow.lt HOZ.out k hk).1))
          clear hownz hgrow
          rw [IntWalk.wrap64_in ((i : Int) + 1) (by have := HLT.out; have := HD.out; omega)]
          exact ⟨⟨i + 1, gg, cap, rfl, HLT.out, by rw [HNX.out, List.length_append, HU.out, HRH.out], by rw [HNX.out]; exact HON.out, HBN.out⟩, vc_less i H HLT.out⟩
    · have hke : i = H := by omega
      have x0 : ¬ (i : Int) < x.h := by rw [HXH.out]; omega
      have x1 : decide ((i : Int) < x.h) = false := decide_eq_false x0
      obtain ⟨e0, e1, e2, e3, e4, e5, e6⟩ := Rf.seven HN.out
      have HE := Lib.hid hke
      clear hlt hi hke
      go_wp2_with (fail)
      refine bodyPost_ret (results_tmp rfl _ _ _) rfl ?_
      exact ⟨some ⟨G, 0, none⟩, cg, by rw [HE.out]; rfl, by have := HO.out.kin; rwa [HE.out] at this, HBW.out⟩
end Go.Proofs.YtkdkeokldcehhaaGreatDoor
namespace Go.Proofs.YtkdkeokldcehhaaGreatDoor
open Go.ChangeShapes Go.WideShapes Go.ChangeAt Go.RowKit Cf Vc Br Sp

namespace Rf
/-- Neither where the keys' row lies nor the values'. -/
def offKV (kv vv : Value) (j : Nat) : Prop := kv.ownBlock ≠ some j ∧ vv.ownBlock ≠ some j
section
variable {N n : Nat} {p r : Nat → Prop} {W W' wz : World} {v kv vv : Value} {B KB VB : Nat → Option Addr} {C KC VC : Nat → Nat} {L Ks Vs : List (List Int)}
theorem GL.mono {p' : Nat → Prop} (h : GL N p W v B C L) (hp : ∀ j, p j → v.ownBlock ≠ some j → j < W.heap.size → p' j) : GL N p' W v B C L :=
  ⟨h.own, h.rows, fun i hi => ((h.there i hi).both (KIn.low' (h.rows i hi))).mono fun j hj => ⟨hp j hj.1.1 hj.1.2 hj.2, hj.1.2⟩, h.cap⟩
/-- As rows that all lie at least so far up. -/
theorem GL.lonN {A : Option Addr} {m c M : Nat} (h : GL N p W (.slice A m c) B C L) (hN : M ≤ N) (hp : ∀ j, p j → M ≤ j) : LOn (M ≤ ·) W A B C L := ⟨h.lin, fun h0 a ha => by
  rcases h.own.2 with ⟨_, h1⟩ | ⟨g, cap, cur, e, h2, _⟩
  · omega
  · injection e with e1 e2 e3
    rw [e1] at ha
    injection ha with ha
    rw [← ha]
    exact Nat.le_trans hN h2, fun i hi => (h.there i hi).mono fun j hj => hp j hj.1, h.cap⟩
theorem GL.nil (N : Nat) (p : Nat → Prop) (W : World) (B : Nat → Option Addr) (C : Nat → Nat) : GL N p W (.slice none 0 0) B C [] :=
  ⟨⟨rfl, .inl ⟨rfl, rfl⟩⟩, fun i hi => absurd hi (Nat.not_lt_zero i), fun i hi => absurd hi (Nat.not_lt_zero i), fun i hi => absurd hi (Nat.not_lt_zero i)⟩
theorem GL.off {b : Nat} (h : GL N p W v B C L) (hno : ∀ i kd z, W.cell? ⟨b, i, none⟩ ≠ some (.int kd z)) : GL N (fun j => p j ∧ j ≠ b) W v B C L :=
  ⟨h.own, h.rows, fun i hi => ((h.there i hi).both (Sp.off hno (h.rows i hi))).mono fun _ hj => ⟨⟨hj.1.1, hj.2⟩, hj.1.2⟩, h.cap⟩
theorem GL.set {b i : Nat} {u : Value} {cs : Array Value} {t : TypeId} {fr : Nat × Nat} (h : GL N p W v B C L) (hb : W.heap[b]? = some (.cells cs t fr)) (ht : t ≠ 45) (hno : ∀ i kd z, W.cell? ⟨b, i, none⟩ ≠ some (.int kd z)) : GL N p (W.setCell ⟨b, i, none⟩ u) v B C L := by
  have h1 := h.off hno
  refine (h1.kept (W' := W.setCell ⟨b, i, none⟩ u) (fun k hk => heap_setCell_other _ ⟨b, i, none⟩ k _ (own_off h.own hb ht k hk)) fun j hj _ _ => heap_setCell_other _ ⟨b, i, none⟩ j _ hj.2).mono fun _ hj _ _ => hj.1
structure Mk (N : Nat) (r : Nat → Prop) (W : World) (kv vv : Value) (KB : Nat → Option Addr) (KC : Nat → Nat) (VB : Nat → Option Addr) (VC : Nat → Nat) (Ks Vs : List (List Int)) : Prop where
  k : GL N (fun j => r j ∧ vv.ownBlock ≠ some j) W kv KB KC Ks
  v : GL N (fun j => r j ∧ kv.ownBlock ≠ some j) W vv VB VC Vs
  ne : ∀ j, kv.ownBlock = some j → vv.ownBlock ≠ some j
theorem Mk.swap (h : Mk N r W kv vv KB KC VB VC Ks Vs) : Mk N r W vv kv VB VC KB KC Vs Ks := ⟨h.v, h.k, fun j hj e => h.ne j e hj⟩
theorem Mk.step (h : Mk N r W kv vv KB KC VB VC Ks Vs) (hb : Below W.heap.size W W') : Mk N r W' kv vv KB KC VB VC Ks Vs := ⟨h.k.step hb, h.v.step hb, h.ne⟩
theorem Mk.start (N : Nat) (r : Nat → Prop) (W : World) (KB : Nat → Option Addr) (KC : Nat → Nat) (VB : Nat → Option Addr) (VC : Nat → Nat) : Mk N r W (.slice none 0 0) (.slice none 0 0) KB KC VB VC [] [] := ⟨GL.nil _ _ _ _ _, GL.nil _ _ _ _ _, fun j hj => by cases hj⟩
theorem Mk.set {b i : Nat} {u : Value} {cs : Array Value} {t : TypeId} {fr : Nat × Nat} (h : Mk N r W kv vv KB KC VB VC Ks Vs) (hb : W.heap[b]? = some (.cells cs t fr)) (ht : t ≠ 45) (hno : ∀ i kd z, W.cell? ⟨b, i, none⟩ ≠ some (.int kd z)) : Mk N r (W.setCell ⟨b, i, none⟩ u) kv vv KB KC VB VC Ks Vs := ⟨h.k.set hb ht hno, h.v.set hb ht hno, h.ne⟩
/-- A row that doesn't lie where another one grows. -/
theorem row_grown {A : Option Addr} {l : List Int} {o : Obj} (hK : KIn .i64 W A l) (hf : Ft (fun j => v.ownBlock ≠ some j) A l.length) (hgrow : (W.alloc o).grownBy wz v.ownBlock) : KIn .i64 wz A l :=
  KIn.moved hK (hf.both (KIn.low' hK)) fun j hj => (hgrow.block j (by simp; omega) fun e => hj.1 e.symm).trans (Below.heap_alloc W o j hj.2)
theorem off_grown {g cap m : Nat} {o : Obj} (hat : v.ownBlock = some g ∨ g = (W.alloc o).heap.size) {j : Nat} (hj : j < W.heap.size) (hn : v.ownBlock ≠ some j) : (Value.slice (some ⟨g, 0, none⟩) m cap).ownBlock ≠ some j := fun e => by
  have e' : g = j := Option.some.inj e
  rcases hat with hat | hat
  · exact hn (by rw [hat, e'])
  · have : (W.alloc o).heap.size = W.heap.size + 1 := by simp
    omega
theorem Mk.addK {A : Option Addr} {l : List Int} {c g cap : Nat} {o : Obj} (h : Mk N r W kv vv KB KC VB VC Ks Vs) (hn : Ks.length = n) (hK : KIn .i64 W A l) (hf : Ft (fun j => r j ∧ offKV kv vv j) A l.length) (hc : l.length ≤ c)
    (hown : wz.ownsRow N 45 1 (.slice (some ⟨g, 0, none⟩) (n + 1) cap) (n + 1) (lC KB KC Ks ++ [.slice A l.length c])) (hgrow : (W.alloc o).grownBy wz kv.ownBlock) (hat : kv.ownBlock = some g ∨ g = (W.alloc o).heap.size) :
    Mk N r wz (.slice (some ⟨g, 0, none⟩) (n + 1) cap) vv (updF KB n A) (updF KC n c) VB VC (Ks ++ [l]) Vs := by
  refine ⟨h.k.more hn hK (hf.mono fun j hj => ⟨⟨hj.1, hj.2.2⟩, hj.2.1⟩) hc o hown hgrow hat, ?_, fun j hj e => ?_⟩
  · have h1 := h.v.mono (p' := fun j => r j ∧ kv.ownBlock ≠ some j ∧ (Value.slice (some ⟨g, 0, none⟩) (n + 1) cap).ownBlock ≠ some j) fun j hj _ hlt => ⟨hj.1, hj.2, off_grown (o := o) hat hlt hj.2⟩
    have h2 := h1.kept (W' := wz) (fun k hk => (hgrow.block k (by have := (h.v.own.lt k hk).2; simp; omega) fun e => h.ne k e.symm hk).trans (Below.heap_alloc W o k (h.v.own.lt k hk).2)) fun j hj _ hlt => (hgrow.block j (by simp; omega) fun e => hj.2.1 e.symm).trans (Below.heap_alloc W o j hlt)
    exact h2.mono fun j hj _ _ => ⟨hj.1, hj.2.2⟩
  · have e' : g = j := Option.some.inj hj
    subst e'
    rcases hat with hat | hat
    · exact h.ne g hat e
    · have := (h.v.own.lt g e).2
      have : (W.alloc o).heap.size = W.heap.size + 1 := by simp
      omega
theorem Mk.addV {A : Option Addr} {l : List Int} {c g cap : Nat} {o : Obj} (h : Mk N r W kv vv KB KC VB VC Ks Vs) (hn : Vs.length = n) (hK : KIn .i64 W A l) (hf : Ft (fun j => r j ∧ offKV kv vv j) A l.length) (hc : l.length ≤ c)
    (hown : wz.ownsRow N 45 1 (.slice (some ⟨g, 0, none⟩) (n + 1) cap) (n + 1) (lC VB VC Vs ++ [.slice A l.length c])) (hgrow : (W.alloc o).grownBy wz vv.ownBlock) (hat : vv.ownBlock = some g ∨ g = (W.alloc o).heap.size) :
    Mk N r wz kv (.slice (some ⟨g, 0, none⟩) (n + 1) cap) KB KC (updF VB n A) (updF VC n c) Ks (Vs ++ [l]) :=
  (h.swap.addK hn hK (hf.mono fun _ hj => ⟨hj.1, hj.2.2, hj.2.1⟩) hc hown hgrow hat).swap
theorem two_sl {b : Nat} {p1 p2 : Option Addr} {n1 n2 c1 c2 : Nat} {t : TypeId} {fr : Nat × Nat} (hb : W.heap[b]? = some (.cells #[.slice p1 n1 c1, .slice p2 n2 c2] t fr)) : ∀ i kd z, W.cell? ⟨b, i, none⟩ ≠ some (.int kd z) := fun i kd z e => by
  rw [cell_of_row W b i _ _ _ hb] at e
  match i with
  | 0 => simp at e
  | 1 => simp at e
  | n + 2 => simp at e
/-- One key more, its row's slice stored where the entry stands. -/
theorem Mk.keyed {b g cap c kc vc : Nat} {KA VA A : Option Addr} {l : List Int} {t : TypeId} {o : Obj} (h : Mk N r W (.slice KA n kc) (.slice VA n vc) KB KC VB VC Ks Vs) (hE : W.heap[b]? = some (.cells #[.slice KA n kc, .slice VA n vc] t (0, 0))) (ht : t ≠ 45) (hn : Ks.length = n) (hK : KIn .i64 W A l) (hf : Ft (fun j => r j ∧ offKV (.slice KA n kc) (.slice VA n vc) j) A l.length) (hc : l.length ≤ c)
    (hown : wz.ownsRow N 45 1 (.slice (some ⟨g, 0, none⟩) (n + 1) cap) (n + 1) (lC KB KC Ks ++ [.slice A l.length c])) (hgrow : (W.alloc o).grownBy wz (Value.slice KA n kc).ownBlock) (hat : (Value.slice KA n kc).ownBlock = some g ∨ g = (W.alloc o).heap.size) :
    wz.heap[b]? = some (.cells #[.slice KA n kc, .slice VA n vc] t (0, 0)) ∧
    (wz.setCell ⟨b, 0, none⟩ (.slice (some ⟨g, 0, none⟩) (n + 1) cap)).heap[b]? = some (.cells #[.slice (some ⟨g, 0, none⟩) (n + 1) cap, .slice VA n vc] t (0, 0)) ∧
    Mk N r (wz.setCell ⟨b, 0, none⟩ (.slice (some ⟨g, 0, none⟩) (n + 1) cap)) (.slice (some ⟨g, 0, none⟩) (n + 1) cap) (.slice VA n vc) (updF KB n A) (updF KC n c) VB VC (Ks ++ [l]) Vs ∧
    ∀ A' l', KIn .i64 W A' l' → Ft (offKV (.slice KA n kc) (.slice VA n vc)) A' l'.length → KIn .i64 (wz.setCell ⟨b, 0, none⟩ (.slice (some ⟨g, 0, none⟩) (n + 1) cap)) A' l' ∧ Ft (offKV (.slice (some ⟨g, 0, none⟩) (n + 1) cap) (.slice VA n vc)) A' l'.length := by
  have hb : b < W.heap.size := (Array.getElem?_eq_some_iff.1 hE).1
  have hEz : wz.heap[b]? = some (.cells #[.slice KA n kc, .slice VA n vc] t (0, 0)) := by
    rw [hgrow.block b (by simp; omega) fun e => own_off h.k.own hE ht b e.symm rfl, Below.heap_alloc W o b hb]
    exact hE
  refine ⟨hEz, heap_setCell_same wz b 0 _ _ _ hEz, (h.addK hn hK hf hc hown hgrow hat).set hEz ht (two_sl hEz), fun A' l' hK' hf' => ⟨?_, fun h0 a ha => ⟨?_, (hf' h0 a ha).2⟩⟩⟩
  · have h1 := row_grown (v := .slice KA n kc) hK' (hf'.mono fun j hj => hj.1) hgrow
    exact KIn.moved h1 (Sp.off (two_sl hEz) h1) fun j hj => heap_setCell_other wz ⟨b, 0, none⟩ j _ hj
  · exact off_grown (o := o) hat (KIn.low' hK' h0 a ha) (hf' h0 a ha).1
theorem Mk.valued {b g cap c kc vc m : Nat} {KA VA A : Option Addr} {l : List Int} {t : TypeId} {o : Obj} (h : Mk N r W (.slice KA m kc) (.slice VA n vc) KB KC VB VC Ks Vs) (hE : W.heap[b]? = some (.cells #[.slice KA m kc, .slice VA n vc] t (0, 0))) (ht : t ≠ 45) (hn : Vs.length = n) (hK : KIn .i64 W A l) (hf : Ft (fun j => r j ∧ offKV (.slice KA m kc) (.slice VA n vc) j) A l.length) (hc : l.length ≤ c)
    (hown : wz.ownsRow N 45 1 (.slice (some ⟨g, 0, none⟩) (n + 1) cap) (n + 1) (lC VB VC Vs ++ [.slice A l.length c])) (hgrow : (W.alloc o).grownBy wz (Value.slice VA n vc).ownBlock) (hat : (Value.slice VA n vc).ownBlock = some g ∨ g = (W.alloc o).heap.size) :
    wz.heap[b]? = some (.cells #[.slice KA m kc, .slice VA n vc] t (0, 0)) ∧
    (wz.setCell ⟨b, 1, none⟩ (.slice (some ⟨g, 0, none⟩) (n + 1) cap)).heap[b]? = some (.cells #[.slice KA m kc, .slice (some ⟨g, 0, none⟩) (n + 1) cap] t (0, 0)) ∧
    Mk N r (wz.setCell ⟨b, 1, none⟩ (.slice (some ⟨g, 0, none⟩) (n + 1) cap)) (.slice KA m kc) (.slice (some ⟨g, 0, none⟩) (n + 1) cap) KB KC (updF VB n A) (updF VC n c) Ks (Vs ++ [l]) ∧
    ∀ A' l', KIn .i64 W A' l' → Ft (offKV (.slice KA m kc) (.slice VA n vc)) A' l'.length → KIn .i64 (wz.setCell ⟨b, 1, none⟩ (.slice (some ⟨g, 0, none⟩) (n + 1) cap)) A' l' ∧ Ft (offKV (.slice KA m kc) (.slice (some ⟨g, 0, none⟩) (n + 1) cap)) A' l'.length := by
  have hb : b < W.heap.size := (Array.getElem?_eq_some_iff.1 hE).1
  have hEz : wz.heap[b]? = some (.cells #[.slice KA m kc, .slice VA n vc] t (0, 0)) := by
    rw [hgrow.block b (by simp; omega) fun e => own_off h.v.own hE ht b e.symm rfl, Below.heap_alloc W o b hb]
    exact hE
  refine ⟨hEz, heap_setCell_same wz b 1 _ _ _ hEz, (h.addV hn hK hf hc hown hgrow hat).set hEz ht (two_sl hEz), fun A' l' hK' hf' => ⟨?_, fun h0 a ha => ⟨(hf' h0 a ha).1, ?_⟩⟩⟩
  · have h1 := row_grown (v := .slice VA n vc) hK' (hf'.mono fun j hj => hj.2) hgrow
    exact KIn.moved h1 (Sp.off (two_sl hEz) h1) fun j hj => heap_setCell_other wz ⟨b, 1, none⟩ j _ hj
  · exact off_grown (o := o) hat (KIn.low' hK' h0 a ha) (hf' h0 a ha).2
/-- The same, of a world that is at hand. -/
theorem GL.more0 {A : Option Addr} {l : List Int} {c g cap : Nat} (h : GL N p W v B C L) (hn : L.length = n) (hK : KIn .i64 W A l) (hf : Ft (fun j => p j ∧ v.ownBlock ≠ some j) A l.length) (hc : l.length ≤ c)
    (hown : wz.ownsRow N 45 1 (.slice (some ⟨g, 0, none⟩) (n + 1) cap) (n + 1) (lC B C L ++ [.slice A l.length c])) (hgrow : W.grownBy wz v.ownBlock) (hat : v.ownBlock = some g ∨ g = W.heap.size) :
    GL N p wz (.slice (some ⟨g, 0, none⟩) (n + 1) cap) (updF B n A) (updF C n c) (L ++ [l]) := by
  have hs : ∀ j, j < W.heap.size → v.ownBlock ≠ some j → wz.heap[j]? = W.heap[j]? := fun j hj hne => hgrow.block j hj fun e => hne e.symm
  have hg : ∀ j, j < W.heap.size ∧ v.ownBlock ≠ some j → (Value.slice (some ⟨g, 0, none⟩) (n + 1) cap).ownBlock ≠ some j := fun j hj e => by
    have e' : g = j := Option.some.inj e
    rcases hat with hat | hat
    · exact hj.2 (by rw [hat, e'])
    · omega
  have hl : ∀ i, i < n → (L ++ [l]).getD i [] = L.getD i [] := fun i hi => by rw [List.getD_eq_getElem?_getD, List.getElem?_append_left (by omega), List.getD_eq_getElem?_getD]
  have hl2 : (L ++ [l]).getD n [] = l := by
    rw [List.getD_eq_getElem?_getD, List.getElem?_append_right (by omega), hn, Nat.sub_self]
    rfl
  have hlen : (L ++ [l]).length = n + 1 := by rw [List.length_append, hn]; rfl
  refine ⟨by rw [hlen, lC_add hn]; exact hown, fun i hi => ?_, fun i hi => ?_, fun i hi => ?_⟩
  · by_cases e : i = n
    · subst e
      rw [updF_same, hl2]
      exact KIn.moved hK (hf.both (KIn.low' hK)) fun j hj => hs j hj.2 hj.1.2
    · rw [updF_other _ _ _ e, hl i (by omega)]
      have hi' : i < L.length := by omega
      exact KIn.moved (h.rows i hi') ((h.there i hi').both (KIn.low' (h.rows i hi'))) fun j hj => hs j hj.2 hj.1.2
  · by_cases e : i = n
    · subst e
      rw [updF_same, hl2]
      exact (hf.both (KIn.low' hK)).mono fun j hj => ⟨hj.1.1, hg j ⟨hj.2, hj.1.2⟩⟩
    · rw [updF_other _ _ _ e, hl i (by omega)]
      have hi' : i < L.length := by omega
      exact ((h.there i hi').both (KIn.low' (h.rows i hi'))).mono fun j hj => ⟨hj.1.1, hg j ⟨hj.2, hj.1.2⟩⟩
  · by_cases e : i = n
    · subst e
      rw [updF_same, hl2]
      exact hc
    · rw [updF_other _ _ _ e, hl i (by omega)]
      exact h.cap i (by omega)
theorem row_grown0 {A : Option Addr} {l : List Int} (hK : KIn .i64 W A l) (hf : Ft (fun j => v.ownBlock ≠ some j) A l.length) (hgrow : W.grownBy wz v.ownBlock) : KIn .i64 wz A l :=
  KIn.moved hK (hf.both (KIn.low' hK)) fun j hj => hgrow.block j hj.2 fun e => hj.1 e.symm
theorem off_grown0 {g cap m : Nat} (hat : v.ownBlock = some g ∨ g = W.heap.size) {j : Nat} (hj : j < W.heap.size) (hn : v.ownBlock ≠ some j) : (Value.slice (some ⟨g, 0, none⟩) m cap).ownBlock ≠ some j := fun e => by
  have e' : g = j := Option.some.inj e
  rcases hat with hat | hat
  · exact hn (by rw [hat, e'])
  · omega
theorem Mk.addK0 {A : Option Addr} {l : List Int} {c g cap : Nat} (h : Mk N r W kv vv KB KC VB VC Ks Vs) (hn : Ks.length = n) (hK : KIn .i64 W A l) (hf : Ft (fun j => r j ∧ offKV kv vv j) A l.length) (hc : l.length ≤ c)
    (hown : wz.ownsRow N 45 1 (.slice (some ⟨g, 0, none⟩) (n + 1) cap) (n + 1) (lC KB KC Ks ++ [.slice A l.length c])) (hgrow : W.grownBy wz kv.ownBlock) (hat : kv.ownBlock = some g ∨ g = W.heap.size) :
    Mk N r wz (.slice (some ⟨g, 0, none⟩) (n + 1) cap) vv (updF KB n A) (updF KC n c) VB VC (Ks ++ [l]) Vs := by
  refine ⟨h.k.more0 hn hK (hf.mono fun j hj => ⟨⟨hj.1, hj.2.2⟩, hj.2.1⟩) hc hown hgrow hat, ?_, fun j hj e => ?_⟩
  · have h1 := h.v.mono (p' := fun j => r j ∧ kv.ownBlock ≠ some j ∧ (Value.slice (some ⟨g, 0, none⟩) (n + 1) cap).ownBlock ≠ some j) fun j hj _ hlt => ⟨hj.1, hj.2, off_grown0 hat hlt hj.2⟩
    have h2 := h1.kept (W' := wz) (fun k hk => hgrow.block k (h.v.own.lt k hk).2 fun e => h.ne k e.symm hk) fun j hj _ hlt => hgrow.block j hlt fun e => hj.2.1 e.symm
    exact h2.mono fun j hj _ _ => ⟨hj.1, hj.2.2⟩
  · have e' : g = j := Option.some.inj hj
    subst e'
    rcases hat with hat | hat
    · exact h.ne g hat e
    · have := (h.v.own.lt g e).2
      omega
theorem Mk.addV0 {A : Option Addr} {l : List Int} {c g cap : Nat} (h : Mk N r W kv vv KB KC VB VC Ks Vs) (hn : Vs.length = n) (hK : KIn .i64 W A l) (hf : Ft (fun j => r j ∧ offKV kv vv j) A l.length) (hc : l.length ≤ c)
    (hown : wz.ownsRow N 45 1 (.slice (some ⟨g, 0, none⟩) (n + 1) cap) (n + 1) (lC VB VC Vs ++ [.slice A l.length c])) (hgrow : W.grownBy wz vv.ownBlock) (hat : vv.ownBlock = some g ∨ g = W.heap.size) :
    Mk N r wz kv (.slice (some ⟨g, 0, none⟩) (n + 1) cap) KB KC (updF VB n A) (updF VC n c) Ks (Vs ++ [l]) :=
  (h.swap.addK0 hn hK (hf.mono fun _ hj => ⟨hj.1, hj.2.2, hj.2.1⟩) hc hown hgrow hat).swap
/-- What was made for a call, where it stands. -/
theorem news_of {b : Nat} {u : Value} {t : TypeId} {fr : Nat × Nat} (h : W.heap[b]? = some (.cells #[u] t fr)) : ∀ j z, ([u] : List Value)[j]? = some z → W.cell? ((⟨b, 0, none⟩ : Addr).add j) = some z := fun j z hj => by
  match j with
  | 0 =>
    have : u = z := by simpa using hj
    subst this
    rw [show (⟨b, 0, none⟩ : Addr).add 0 = ⟨b, 0, none⟩ by simp [Addr.add], cell_of_row _ _ _ _ _ _ h]
    rfl
  | n + 1 => simp at hj
end
/-- What is newer than a row that grew stands as it was. -/
theorem grown_stays {W wz : World} {v : Value} {N : Nat} (hg : W.grownBy wz v.ownBlock) (hlt : ∀ i, v.ownBlock = some i → i < N) : ∀ j o, N ≤ j → W.heap[j]? = some o → wz.heap[j]? = some o := fun j o hj e =>
  (hg.block j (Array.getElem?_eq_some_iff.1 e).1 fun e2 => by have := hlt j e2.symm; omega).trans e
theorem below_drew {B : Nat} {a w : World} (h : Below B a w) : Below B a w.drew := below_drewN h 1
theorem one_new (u : Value) (hu : u.oneCell' = true) : ∀ y ∈ [u], y.oneCell' = true := fun y hy => by rw [List.mem_singleton.1 hy]; exact hu
theorem al1 (w : World) (o : Obj) : (w.alloc o).heap[w.heap.size]? = some o := heap_alloc_new w o
theorem al2 (w : World) (o o' : Obj) : ((w.alloc o).alloc o').heap[w.heap.size]? = some o := (Below.heap_alloc (w.alloc o) o' w.heap.size (by simp)).trans (al1 w o)
theorem al3 (w : World) (o o' : Obj) : ((w.alloc o').alloc o).heap[w.heap.size + 1]? = some o := by
  have := al1 (w.alloc o') o
  rwa [World.size_alloc] at this
theorem al4 {w : World} {j : Nat} {o o' : Obj} (h : w.heap[j]? = some o) : (w.alloc o').heap[j]? = some o := (Below.heap_alloc w o' j (Array.getElem?_eq_some_iff.1 h).1).trans h
theorem al1d (w : World) (o : Obj) : (w.alloc o).drew.heap[w.heap.size]? = some o := al1 w o
theorem al2d (w : World) (o o' : Obj) : ((w.alloc o).alloc o').drew.heap[w.heap.size]? = some o := al2 w o o'
theorem al3d (w : World) (o o' : Obj) : ((w.alloc o').alloc o).drew.heap[w.heap.size + 1]? = some o := al3 w o o'
theorem entry_ints : 42 ≠ 45 := by decide
theorem int_ints : 3 ≠ 45 := by decide
end Rf
end Go.Proofs.YtkdkeokldcehhaaGreatDoor
namespace Go.Proofs.YtkdkeokldcehhaaGreatDoor
open Go.ChangeShapes Go.WideShapes Go.ChangeAt Go.RowKit Cf Vc Br Sf Sp Rf
open Go.Proofs.YtkdkeokldcehhaaGreatDoor.Nm (sat shift dot sum Fits)

namespace Rf
/-- A made entry, empty. -/
def noO : Obj := .cells #[.slice none 0 0, .slice none 0 0] 42 (0, 0)
theorem noI : (Tryz.prog.info? 42).map (·.size) = some (#[.slice none 0 0, .slice none 0 0] : Array Value).size := by
  show _ = some 2
  kernel_rfl
theorem enRI (a b : Value) : (Tryz.prog.info? 42).map (·.size) = some (#[a, b] : Array Value).size := by
  show _ = some 2
  kernel_rfl
section
variable {W : World} {b : Nat} {a0 b0 : Value} {t : TypeId} (h : W.heap[b]? = some (.cells #[a0, b0] t (0, 0))) (p q : Value)
include h
theorem rf0 : W.cell? ⟨b, 0, none⟩ = some a0 := by rw [cell_of_row _ _ _ _ _ _ h]; rfl
theorem rf1 : W.cell? ⟨b, 1, none⟩ = some b0 := by rw [cell_of_row _ _ _ _ _ _ h]; rfl
theorem rfFz (i : Nat) : W.frozen? ⟨b, i, none⟩ = false := frozen_of_row W b i _ _ h
theorem rfSet2 : ((W.setCell ⟨b, 0, none⟩ p).setCell ⟨b, 1, none⟩ q).heap[b]? = some (.cells #[p, q] t (0, 0)) := heap_setCell_same _ b 1 _ _ _ (heap_setCell_same W b 0 _ _ _ h)
end
theorem bad_at {x : Cfg} {Q : List (Er × Ent)} {j : Nat} {tok : Int} (hj : j < Q.length) (h : goodE x (Q.getD j noQ).2 = false) : errZ x (past Q) tok = 1 := by
  unfold errZ
  rw [if_neg]
  intro hall
  have := List.all_eq_true.1 hall (Q.getD j noQ).2 (by
    unfold past
    refine List.mem_map.2 ⟨Q.getD j noQ, ?_, rfl⟩
    rw [List.getD_eq_getElem?_getD, List.getElem?_eq_getElem hj]
    exact List.getElem_mem _)
  rw [h] at this
  cases this
theorem all_at {x : Cfg} {Q : List (Er × Ent)} (h : ∀ i, i < Q.length → goodE x (Q.getD i noQ).2 = true) : (past Q).all (goodE x) = true := by
  refine List.all_eq_true.2 fun e he => ?_
  unfold past at he
  obtain ⟨q, hq, rfl⟩ := List.mem_map.1 he
  obtain ⟨i, hi, rfl⟩ := List.mem_iff_getElem.1 hq
  have := h i hi
  rwa [List.getD_eq_getElem?_getD, List.getElem?_eq_getElem hi] at this
theorem err_all {x : Cfg} {P : List Ent} {tok : Int} (h : P.all (goodE x) = true) : errZ x P tok = (if 0 ≤ tok ∧ tok < x.v then (if (P.length : Int) < x.c then 0 else 12) else 3) := by
  unfold errZ
  rw [if_pos h]
end Rf
set_option maxRecDepth 100000 in
set_option maxHeartbeats 12800000 in
theorem ref17_step_not (w : World) (x : Cfg) (s : ByteArray) (hk : Ok x s) (A : Option Addr) (n c : Nat) (Q : List (Er × Ent)) (tok : Int) (hQ : Q.length = n) (hn : n ≤ 1000000) (hA : EsIn w A Q) (he : errZ x (past Q) tok ≠ 0) :
    Calls Tryz.prog 15 #[mdV x s, .slice A n c, .int .i64 tok] w fun e w' => e = .returned (.tuple #[.agg #[.slice none 0 0, .slice none 0 0], .slice none 0 0, .int .i64 (errZ x (past Q) tok)]) ∧ Below w.heap.size w w' := by
  have HBAD := Lib.hid (fun j (hj : j < n) (h : goodE x (Q.getD j noQ).2 = false) => bad_at (x := x) (tok := tok) (by rw [hQ]; exact hj) h)
  have HALL := Lib.hid (fun (h : ∀ i, i < n → goodE x (Q.getD i noQ).2 = true) => show errZ x (past Q) tok = (if 0 ≤ tok ∧ tok < x.v then (if (n : Int) < x.c then 0 else 12) else 3) from by
    have := err_all (tok := tok) (all_at (x := x) (Q := Q) (fun i hi => h i (by rw [← hQ]; exact hi)))
    rwa [past_length, hQ] at this)
  have HNE := Lib.hid he
  have HGD := Lib.hid (fun W (hW : Below w.heap.size w W) (q : Er × Ent) (hq : q ∈ Q) => ref17_good W x s hk q.1 q.2 ((hA.all q hq).below hW))
  have HA := Lib.hid hA
  have HQ := Lib.hid hQ
  have HN := Lib.hid hn
  have HB0 := Lib.hid ((Below.refl w.heap.size w).alloc (Nat.le_refl _) (mdO x s))
  have HB1 := Lib.hid (HB0.out.alloc HB0.out.size noO)
  have HM1 := Lib.hid (heap_alloc_old _ noO (Array.getElem?_eq_some_iff.1 (heap_alloc_new w (mdO x s))).1 |>.trans (heap_alloc_new w (mdO x s)))
  have HR1 := Lib.hid (show ((w.alloc (mdO x s)).alloc noO).heap[w.heap.size + 1]? = some noO from by
    have := heap_alloc_new (w.alloc (mdO x s)) noO
    rwa [World.size_alloc] at this)
  generalize errZ x (past Q) tok = r at HBAD HALL HNE ⊢
  unfold mdO brA noO at HB1 HM1 HR1
  unfold mdV brA at HGD ⊢
  clear hk hQ hn hA he HB0
  go_enter Tryz.func15, Tryz.ntmps15
  go_wp2_with (fail)
  generalize (w.alloc (.cells #[.int .i64 x.v, .int .i64 x.d, .int .i64 x.h, .int .i64 x.b, .int .i64 x.n, .int .i64 x.c, .string s] 35)).alloc (.cells #[.slice none 0 0, .slice none 0 0] 42) = w2 at HB1 HM1 HR1 ⊢
  go_loopw [9] (fun i wr => ∃ j : Nat, i = .int .i64 (j : Int) ∧ j ≤ n ∧ Below w2.heap.size w2 wr ∧ ∀ i, i < j → goodE x (Q.getD i noQ).2 = true) (fun i _ => match i with | .int _ k => n - k.toNat | _ => 0)
  case atStart => exact ⟨0, rfl, Nat.zero_le _, Below.refl _ _, fun i hi => absurd hi (Nat.not_lt_zero i)⟩
  case round =>
    obtain ⟨j, rfl, hj, hb, hall⟩ := hrel
    have HB := Lib.hid hb
    have HBW := Lib.hid (HB1.out.trans (hb.mono HB1.out.size))
    have HA2 := Lib.hid hall
    clear hb hall
    have x2 : 0 ≤ (j : Int) := by omega
    by_cases hlt : j < n
    · have x0 : (j : Int) < (n : Int) := by omega
      have x1 : decide ((j : Int) < (n : Int)) = true := decide_eq_true x0
      have HLT := Lib.hid hlt
      have hgq := getD_some (Q := Q) (j := j) (by rw [HQ.out]; exact hlt)
      obtain ⟨pb, po, hAe, c0, c1⟩ := (HA.out.below HBW.out).row.cell hgq
      subst hAe
      have HGJ := Lib.hid (fun W (hW : Below wr.heap.size wr W) => HGD.out W (HBW.out.trans (hW.mono HBW.out.size)) (Q.getD j noQ) (List.mem_of_getElem? hgq))
      have HBJ := Lib.hid (HBAD.out j hlt)
      obtain ⟨gj, hgj⟩ : ∃ g, goodE x (Q.getD j noQ).2 = g := ⟨_, rfl⟩
      rw [hgj] at HGJ HBJ
      have HGE := Lib.hid hgj
      unfold eV at HGJ
      generalize (Q.getD j noQ).2.ks.length = n1 at c0 HGJ
      generalize (Q.getD j noQ).2.vs.length = n2 at c1 HGJ
      generalize (Q.getD j noQ).1.kA = A1 at c0 HGJ
      generalize (Q.getD j noQ).1.kc = q1 at c0 HGJ
      generalize (Q.getD j noQ).1.vA = A2 at c1 HGJ
      generalize (Q.getD j noQ).1.vc = q2 at c1 HGJ
      have HCL := Lib.hid (fun W (hW : Below wr.heap.size wr W) => show ((W.cell? ⟨w.heap.size, 0, none⟩ = some (.int .i64 x.v) ∧ W.cell? ⟨w.heap.size, 1, none⟩ = some (.int .i64 x.d) ∧ W.cell? ⟨w.heap.size, 2, none⟩ = some (.int .i64 x.h) ∧ W.cell? ⟨w.heap.size, 3, none⟩ = some (.int .i64 x.b) ∧ W.cell? ⟨w.heap.size, 4, none⟩ = some (.int .i64 x.n) ∧ W.cell? ⟨w.heap.size, 5, none⟩ = some (.int .i64 x.c) ∧ W.cell? ⟨w.heap.size, 6, none⟩ = some (.string s)) ∧ W.cell? ⟨pb, po + j * 2, none⟩ = some (.slice A1 n1 q1) ∧ W.cell? ⟨pb, po + j * 2 + 1, none⟩ = some (.slice A2 n2 q2)) from
        ⟨Rf.seven (show W.heap[w.heap.size]? = some (mdO x s) from Rf.stays (Rf.stays HM1.out HB.out) hW), hb0c4 hW c0, hb0c4 hW c1⟩)
      have HWB := Lib.hid (show -9223372036854775808 ≤ (j : Int) + 1 ∧ (j : Int) + 1 ≤ 9223372036854775807 by have := HN.out; omega)
      have HD0 := Lib.hid (show Below wr.heap.size wr wr.drew from below_drewN (Below.refl _ _) 1)
      clear c0 c1 hgj hgq hlt hj
      have k0 := HCL.out _ HD0.out
      go_wp2_with (fail)
      go_region_held3 (fun W : World => ((W.cell? ⟨w.heap.size, 0, none⟩ = some (.int .i64 x.v) ∧ W.cell? ⟨w.heap.size, 1, none⟩ = some (.int .i64 x.d) ∧ W.cell? ⟨w.heap.size, 2, none⟩ = some (.int .i64 x.h) ∧ W.cell? ⟨w.heap.size, 3, none⟩ = some (.int .i64 x.b) ∧ W.cell? ⟨w.heap.size, 4, none⟩ = some (.int .i64 x.n) ∧ W.cell? ⟨w.heap.size, 5, none⟩ = some (.int .i64 x.c) ∧ W.cell? ⟨w.heap.size, 6, none⟩ = some (.string s)) ∧ W.cell? ⟨pb, po + j * 2, none⟩ = some (.slice A1 n1 q1) ∧ W.cell? ⟨pb, po + j * 2 + 1, none⟩ = some (.slice A2 n2 q2))) (first | exact k0 | assumption) (first
        | (go_at_call 11; (with_reducible refine (HGJ.out _ HD0.out).mono ?_); rintro e w3 ⟨rfl, b3⟩; have HB3 := Lib.hid (HB.out.trans ((HD0.out.trans (b3.mono HD0.out.size)).mono HB.out.size)); have k3 := HCL.out _ (HD0.out.trans (b3.mono HD0.out.size)); clear b3))
      clear k0 k3
      have HBW3 := Lib.hid (HB1.out.trans (HB3.out.mono HB1.out.size))
      cases gj with
      | false =>
        have HR := Lib.hid (HBJ.out rfl)
        have HR3 := Lib.hid (Rf.stays HR1.out HB3.out)
        have f0 := rf0 HR3.out
        have f1 := rf1 HR3.out
        have f2 := rfFz HR3.out
        go_wp2_with (fail)
        refine bodyPost_ret (results_cell_tmp2 rfl _ _ _ 42 _ _ _ rfl (rfSet2 HR3.out (.slice none 0 0) (.slice none 0 0)) Tryz.underlying42 rfl (enRI _ _)) rfl ?_
        exact ⟨by rw [HR.out]; rfl, below_set2 HBW3.out (by omega) _ _⟩
      | true =>
        have HGE2 := Lib.hid HGE.out
        go_wp2_with (fail)
        rw [IntWalk.wrap64_in ((j : Int) + 1) HWB.out]
        exact ⟨⟨j + 1, rfl, HLT.out, HB3.out, fun i hi => by
          by_cases e : i = j
          · rw [e]; exact HGE2.out
          · exact HA2.out i (by omega)⟩, vc_less j n HLT.out⟩
    · have hke : j = n := by omega
      have x0 : ¬ (j : Int) < (n : Int) := by omega
      have x1 : decide ((j : Int) < (n : Int)) = false := decide_eq_false x0
      have HV := Lib.hid (HALL.out fun i hi => HA2.out i (by omega))
      clear hlt hke
      by_cases h1 : tok < 0
      · have s1 : decide (tok < 0) = true := decide_eq_true h1
        have HR := Lib.hid (show r = 3 from by rw [HV.out, if_neg (by omega)])
        clear h1
        have HR3 := Lib.hid (Rf.stays HR1.out HB.out)
        have f0 := rf0 HR3.out
        have f1 := rf1 HR3.out
        have f2 := rfFz HR3.out
        obtain ⟨e0, e1, e2, e3, e4, e5, e6⟩ := Rf.seven (show wr.heap[w.heap.size]? = some (mdO x s) from Rf.stays HM1.out HB.out)
        go_wp2_with (fail)
        refine bodyPost_ret (results_cell_tmp2 rfl _ _ _ 42 _ _ _ rfl (rfSet2 HR3.out (.slice none 0 0) (.slice none 0 0)) Tryz.underlying42 rfl (enRI _ _)) rfl ?_
        exact ⟨by rw [HR.out]; rfl, below_set2 HBW.out (by omega) _ _⟩
      have s1 : decide (tok < 0) = false := decide_eq_false h1
      by_cases h2 : x.v ≤ tok
      · have s2 : decide (x.v ≤ tok) = true := decide_eq_true h2
        have HR := Lib.hid (show r = 3 from by rw [HV.out, if_neg (by omega)])
        clear h1
        have HR3 := Lib.hid (Rf.stays HR1.out HB.out)
        have f0 := rf0 HR3.out
        have f1 := rf1 HR3.out
        have f2 := rfFz HR3.out
        obtain ⟨e0, e1, e2, e3, e4, e5, e6⟩ := Rf.seven (show wr.heap[w.heap.size]? = some (mdO x s) from Rf.stays HM1.out HB.out)
        go_wp2_with (fail)
        refine bodyPost_ret (results_cell_tmp2 rfl _ _ _ 42 _ _ _ rfl (rfSet2 HR3.out (.slice none 0 0) (.slice none 0 0)) Tryz.underlying42 rfl (enRI _ _)) rfl ?_
        exact ⟨by rw [HR.out]; rfl, below_set2 HBW.out (by omega) _ _⟩
      have s2 : decide (x.v ≤ tok) = false := decide_eq_false h2
      by_cases h3 : x.c ≤ (n : Int)
      · have s3 : decide (x.c ≤ (n : Int)) = true := decide_eq_true h3
        have HR := Lib.hid (show r = 12 from by rw [HV.out, if_pos (by omega), if_neg (by omega)])
        clear h1 h2
        have HR3 := Lib.hid (Rf.stays HR1.out HB.out)
        have f0 := rf0 HR3.out
        have f1 := rf1 HR3.out
        have f2 := rfFz HR3.out
        obtain ⟨e0, e1, e2, e3, e4, e5, e6⟩ := Rf.seven (show wr.heap[w.heap.size]? = some (mdO x s) from Rf.stays HM1.out HB.out)
        go_wp2_with (fail)
        refine bodyPost_ret (results_cell_tmp2 rfl _ _ _ 42 _ _ _ rfl (rfSet2 HR3.out (.slice none 0 0) (.slice none 0 0)) Tryz.underlying42 rfl (enRI _ _)) rfl ?_
        exact ⟨by rw [HR.out]; rfl, below_set2 HBW.out (by omega) _ _⟩
      exact absurd (by rw [HV.out, if_pos (by omega), if_pos (by omega)]) HNE.out
/-- What the reference's Step answers: the scores lie in a row that is new. -/
def Rf.RefSays (w : World) (x : Cfg) (s : ByteArray) (P : List Ent) (tok : Int) (e : Ending) (w' : World) : Prop :=
  ∃ r SA sc, e = .returned (.tuple #[eV r (entZ x s P tok), .slice SA (vN x) sc, .int .i64 0]) ∧ EOn (fun _ => True) w' r (entZ x s P tok) ∧ KIn .i64 w' SA (scoZ x s P tok) ∧ (scoZ x s P tok).length = vN x ∧ Fr w.heap.size r (entZ x s P tok) ∧ (∀ a, SA = some a → w.heap.size ≤ a.block) ∧ Below w.heap.size w w'
end Go.Proofs.YtkdkeokldcehhaaGreatDoor
