/-
  StepOrder: the order of the entries behind a token plays no part. The walk where there is a model. Condition: the tables lie where they are looked up.
  StepOrder: the order of the entries behind a token plays no part. The walk: leaves that end early. Condition: the tables lie where they are looked up.
  StepOrder: the order of the entries behind a token plays no part. The walk, whole. Condition: the tables lie where they are looked up.
-/
import Derived.Test.YtijmjlognekcjaaDoorMg25
import Derived.Test.YtijmjlognekcjaaDoorMg26
import Derived.Test.YtijmjlognekcjaaDoorMg11
import Derived.Test.YtijmjlognekcjaaDoorMg15
import Derived.Test.YtijmjlognekcjaaDoorMg12
import Derived.Test.YtijmjlognekcjaaDoorMg17
import Derived.Test.YtijmjlognekcjaaDoorMg27
set_option maxRecDepth 100000
namespace Go.Proofs.YtijmjlognekcjaaDoor
open Go.ChangeShapes Go.WideShapes Go.ChangeAt Go.RowKit Cf Vc Br Nr Sf Ac Sp

namespace Sp
theorem ints_self17 (w : World) (A : Option Addr) (n c : Nat) (B : Option Addr) (m c' : Nat) (zs : List Int) (hz : zs.length = n) (hu : zs.length = m) (hm : n ≤ 1000000) (hA : KIn .i64 w A zs) (hB : KIn .i64 w B zs) :
    Calls Tryd.prog 11 #[.slice A n c, .slice B m c'] w fun e w' => e = .returned (.bool true) ∧ ∃ k, w' = w.drewN k := by
  have := ints_any w A n c B m c' zs zs hz hu hm hA hB
  rwa [show decide (zs = zs) = true from decide_eq_true rfl] at this
end Sp
namespace stepOrder
section
variable (w : World) (x : Cfg) (s : ByteArray) (T : Option Addr) (n c : Nat) (ts : List Int) (turn : Int) (hp : POn w) (hg : GOn w) (hts : ts.length = n) (hK : KIn .i64 w T ts) (hcap : n ≤ c)

set_option maxRecDepth 100000 in
set_option maxHeartbeats 12800000 in
include hp hg hts hK hcap in
theorem leaf_ok (h : n ≤ 6) (h2 : 2 ≤ n) (hs : smallZ x = true) (hb : x.b = 1) (hl : s.size ≤ 2048) (hk : Ok x s) : Calls Tryd.prog 4 #[cfV x, .string s, .slice T n c, .int .i64 turn] w fun e w' => e = .returned (.bool true) ∧ Below w.heap.size w w' := by
  obtain ⟨P, E, hP, hE, hPE, hEs⟩ := places17 hk
  have HAW := Lib.hid (fun W (hW : Below w.heap.size w W) => awake17 W (hp.below hW (Nat.le_refl _)) (hg.below hW (Nat.le_refl _)))
  have HB0 := Lib.hid ((Below.refl w.heap.size w).alloc (Nat.le_refl _) (cfO 23 x))
  have HH0 := Lib.hid (heap_alloc_new w (cfO 23 x))
  have HSM := Lib.hid (fun W => small_any x W)
  rw [hs] at HSM
  have t0 : ¬ 6 < (n : Int) := by omega
  have t1 : decide (6 < (n : Int)) = false := decide_eq_false t0
  obtain ⟨n1, hn1⟩ : ∃ n1, n = n1 + 1 := ⟨n - 1, by omega⟩
  have a1 : wrap64 ((n : Int) - 1) = (n1 : Int) := (IntWalk.wrap64_in _ (by omega)).trans (by omega)
  have a2 : IntKind.i64.wrap ((n : Int) - 1) = (n1 : Int) := (IntWalk.i64_in _ (by omega)).trans (by omega)
  have t2 : ¬ (n1 : Int) < 1 := by omega
  have t3 : decide ((n1 : Int) < 1) = false := decide_eq_false t2
  have t4 : (x.b != 1) = false := by rw [hb]; rfl
  have t5 : ¬ 2048 < (s.size : Int) := by omega
  have t6 : decide (2048 < (s.size : Int)) = false := decide_eq_false t5
  have hvc : -9223372036854775808 ≤ x.v + x.c ∧ x.v + x.c ≤ 9223372036854775807 := by have := hk.good.is.v2; have := hk.good.is.v32; have := hk.good.is.c1; have := hk.good.is.c32; omega
  have p1 : wrap64 (x.v * x.d) = (P : Int) := (IntWalk.wrap64_in _ (by omega)).trans hP
  have p2 : IntKind.i64.wrap (x.v * x.d) = (P : Int) := (IntWalk.i64_in _ (by omega)).trans hP
  have p3 : wrap64 (x.v + x.c) = x.v + x.c := IntWalk.wrap64_in _ hvc
  have p4 : IntKind.i64.wrap (x.v + x.c) = x.v + x.c := IntWalk.i64_in _ hvc
  have p5 : wrap64 ((x.v + x.c) * x.d) = (E : Int) := (IntWalk.wrap64_in _ (by rw [hE]; omega)).trans hE
  have p6 : IntKind.i64.wrap ((x.v + x.c) * x.d) = (E : Int) := (IntWalk.i64_in _ (by rw [hE]; omega)).trans hE
  have HN8 := Lib.hid (show n = n1 + 1 ∧ 1 ≤ n1 ∧ n1 ≤ 5 ∧ n ≤ c from ⟨hn1, by omega, by omega, hcap⟩)
  have HKT := Lib.hid (fun W (hW : Below w.heap.size w W) => hK.below hW (Nat.le_refl _))
  have HPG := Lib.hid (And.intro hp hg)
  have HKO := Lib.hid hk
  have HTL := Lib.hid hts
  obtain ⟨l0, hl0⟩ : ∃ l : List UInt8, s.data.toList = l := ⟨_, rfl⟩
  obtain ⟨N, hN⟩ : ∃ N, l0.length = N := ⟨_, rfl⟩
  have HL0 := Lib.hid hl0
  have HN := Lib.hid (show l0.length = N ∧ N = s.size ∧ N ≤ 2048 ∧ P ≤ E ∧ E ≤ N from by
    have e : l0.length = s.size := by rw [← hl0]; rfl
    exact ⟨hN, by omega, by omega, hPE, by omega⟩)
  clear hp hg h h2 hs hb hl hk hl0 hP hE hPE hEs hn1 hvc hN hts hK hcap
  unfold cfV cfA at *
  go_enter Tryd.func4, Tryd.ntmps4
  go_wp2_with (fail)
  refine (HAW.out _ HB0.out).mono ?_
  rintro e w1 ⟨rfl, b1⟩
  have HB1 := Lib.hid (HB0.out.trans (b1.mono HB0.out.size))
  have HH1 := Lib.hid (Cf.stays HH0.out b1)
  clear b1 HAW HB0 HH0
  obtain ⟨e0, e1, e2, e3, e4, e5⟩ := six HH1.out
  go_wp2_with (fail)
  refine (HSM.out _).mono ?_
  rintro e w2 ⟨rfl, b2⟩
  have HB2 := Lib.hid (HB1.out.trans (b2.mono HB1.out.size))
  have HH2 := Lib.hid (Cf.stays HH1.out b2)
  clear b2 e0 e1 e2 e3 e4 e5 HB1 HH1
  obtain ⟨e0, e1, e2, e3, e4, e5⟩ := six HH2.out
  go_wp2_with (refine Tx.wpList_bytes rfl (.tmp 52) rfl s rfl l0 HL0.out ?_; intro cap w3 hrow hgr; have HRW := Lib.hid hrow; have HB3 := Lib.hid (HB2.out.grown hgr HB2.out.size fun k hk => by cases hk); have HH3 := Lib.hid (Cf.stays HH2.out ((Below.refl w2.heap.size w2).grown hgr (Nat.le_refl _) fun k hk => by cases hk)); have hsx := six HH3.out; clear hrow hgr e0 e1 e2 e3 e4 e5; obtain ⟨e0, e1, e2, e3, e4, e5⟩ := hsx)
  have HBL := Lib.hid (show w.heap.size < w2.heap.size from (Array.getElem?_eq_some_iff.1 HH2.out).1)
  have HBN := Lib.hid (Nat.ne_of_lt HBL.out)
  rw [HN.out.1]
  clear e0 e1 e2 e3 e4 e5 HH2 HB2 a1 a2 t1 t3 t4 t6 t0 t2 t5 HSM
  go_loopw [11] (fun i wr => ∃ (k : Nat) (l : List UInt8), i = .int .i64 (k : Int) ∧ k ≤ E ∧ l.length = N ∧ Tx.TRow wr w2.heap.size l ∧ wr.heap[w.heap.size]? = some (cfO 23 x) ∧ Below w.heap.size w wr) (fun i _ => match i with | .int _ k => N - k.toNat | _ => 0)
  case atStart => exact ⟨P, l0, by first | rfl | rw [p1] | rw [p2], HN.out.2.2.2.1, HN.out.1, HRW.out, HH3.out, HB3.out⟩
  case round =>
    obtain ⟨k, l, rfl, hkE, hl, hrow, hcf, hbw⟩ := hrel
    have HKE := Lib.hid hkE
    have HL := Lib.hid (show (⟨l.toArray⟩ : ByteArray).size = s.size from (show l.toArray.size = s.size from by rw [List.size_toArray, hl]; exact HN.out.2.1))
    have HLN := Lib.hid hl
    have HRX := Lib.hid hrow
    have HCF := Lib.hid hcf
    have HBW := Lib.hid hbw
    have HCV := Lib.hid (show (convert 43 9 (.slice (some ⟨w2.heap.size, 0, none⟩) N cap)).run Tryd.prog wr = .ok (.string ⟨l.toArray⟩) wr from by
      have := hrow.text cap
      rwa [hl] at this)
    clear hl hrow hbw HRW HH3 HB3 hkE
    obtain ⟨e0, e1, e2, e3, e4, e5⟩ := six hcf
    clear hcf
    by_cases hkF : k < E
    · have hkN : k < N := Nat.lt_of_lt_of_le hkF HN.out.2.2.2.2
      have u1 : decide ((k : Int) < (E : Int)) = true := decide_eq_true (Int.ofNat_lt.2 hkF)
      have u2 : decide ((k : Int) < (N : Int)) = true := decide_eq_true (Int.ofNat_lt.2 hkN)
      have u4 : (k : Int) < (N : Int) := Int.ofNat_lt.2 hkN
      have u5 : 0 ≤ (k : Int) := Int.natCast_nonneg k
      have u3 : decide (0 ≤ (k : Int)) = true := decide_eq_true u5
      have hkl : k < l.length := by rw [HLN.out]; exact hkN
      have c1 := HRX.out.cell hkl
      have f1 := HRX.out.frozen hkl
      have HKB := Lib.hid (show -9223372036854775808 ≤ (k : Int) + 1 ∧ (k : Int) + 1 ≤ 9223372036854775807 from by clear p1 p2 p3 p4 p5 p6; have := HN.out.2.2.1; omega)
      have a3 := IntWalk.wrap64_in ((k : Int) + 1) HKB.out
      have HKN := Lib.hid (And.intro hkN hkl)
      have HKF := Lib.hid hkF
      generalize ((l.getD k 0).toNat : Int) = bv at c1
      clear hkN hkl hkF
      go_wp2_with (fail)
      try rw [a3]
      exact ⟨⟨k + 1, l.set k 0, rfl, HKF.out, by rw [List.length_set]; exact HLN.out, HRX.out.set HKN.out.2 0, (heap_setCell_other _ ⟨w2.heap.size, k, none⟩ _ _ HBN.out).trans HCF.out, HBW.out.setCell (p := ⟨w2.heap.size, k, none⟩) (Nat.le_of_lt HBL.out) _⟩, vcLess k N HKN.out.1⟩
    · have u0 : ¬ (k : Int) < (E : Int) := fun h => hkF (Int.ofNat_lt.1 h)
      have u1 : decide ((k : Int) < (E : Int)) = false := decide_eq_false u0
      have hcv := HCV.out
      have HKX := Lib.hid (show Ok x ⟨l.toArray⟩ from ⟨HKO.out.good, by rw [HL.out]; exact HKO.out.size⟩)
      obtain ⟨s2, hs2⟩ : ∃ s2 : ByteArray, (⟨l.toArray⟩ : ByteArray) = s2 := ⟨_, rfl⟩
      rw [hs2] at hcv HKX
      clear hkF hs2 HCV HL HRX HLN HKE HKO
      go_wp2_with (fail)
      refine (brain_of wr x s2 HKX.out).mono ?_
      rintro e w4 ⟨b, rfl, hb, hh, b4⟩
      have HB4 := Lib.hid (HBW.out.trans (b4.mono HBW.out.size))
      have HR4 := Lib.hid hh
      have hc1 := cut_to n c n1 (n1 : Int) T rfl (by clear p1 p2 p3 p4 p5 p6; have := HN8.out; omega)
      have HTK := Lib.hid (show (ts.take n1).length = n1 from by rw [List.length_take, HTL.out]; clear p1 p2 p3 p4 p5 p6; have := HN8.out; omega)
      clear b4 hb hh hcv e0 e1 e2 e3 e4 e5 HBW HCF u0 u1 p1 p2 p3 p4 p5 p6
      by_cases he : errR x [] (ts.take n1) = 0
      · have HER := Lib.hid he
        clear he
        go_wp2_with (fail)
        refine (step_run w4 none 0 0 [] T n1 c (ts.take n1) b x s2 HR4.out HKX.out rfl (by omega) (noEs w4) HTK.out (by have := HN8.out; omega) ((HKT.out _ HB4.out).take n1) HER.out (HPG.out.1.below HB4.out (Nat.le_refl _)) (HPG.out.2.below HB4.out (Nat.le_refl _))).mono ?_
        rintro e w5 ⟨EA, ec, SA, sc, R, h1, hpR, hEI, _, _, ⟨_, hec⟩, b5⟩
        rw [HTK.out] at h1 hec
        subst h1
        have HB5 := Lib.hid (HB4.out.trans (b5.mono HB4.out.size))
        have HR5 := Lib.hid (Br.stays HR4.out b5)
        have HPR := Lib.hid (show past R = runE x s2 [] (ts.take n1) from hpR)
        have hrn : R.length = n1 := by
          have := congrArg List.length hpR
          rw [past_length, runE_length, HTK.out] at this
          exact this
        have HRN := Lib.hid hrn
        have HEA := Lib.hid hEI
        obtain ⟨pa, oa, hEe, hcs⟩ := hEI.row (by rw [hrn]; have := HN8.out; omega)
        subst hEe
        have HCS := Lib.hid hcs
        have z1 : ¬ (n1 : Int) = 0 := by have := HN8.out; omega
        have z2 : ((n1 : Int) == 0) = false := beq_eq_false_iff_ne.2 z1
        have hwk : ∀ k : Nat, k < n1 → -9223372036854775808 ≤ (k : Int) ∧ (k : Int) ≤ 9223372036854775807 := fun k hk => by have := HN8.out; omega
        have hsm : ∀ k : Nat, k < n1 → ∃ m, k + m = n1 ∧ m = n1 - k ∧ k < ec ∧ 0 + m ≤ maxLen ∧ (0 + m) * 48 ≤ 140737488355328 ∧ 0 + m + k ≤ maxLen ∧ (0 + m + k) * 48 ≤ 140737488355328 := fun k hk => ⟨n1 - k, by omega, rfl, by omega, by unfold maxLen; have := HN8.out; omega, by have := HN8.out; omega, by unfold maxLen; have := HN8.out; omega, by have := HN8.out; omega⟩
        have u1 := u64_in n1 (by have := HN8.out; omega)
        obtain ⟨k2, hk2, hkk⟩ := cut64 turn n1 HN8.out.2.1
        have u2 := IntWalk.wrap64_in (k2 : Int) (hwk k2 hk2)
        obtain ⟨m2, hm2, hm2', hkc, hx1, hx2, hx3, hx4⟩ := hsm k2 hk2
        have HMX := Lib.hid (And.intro hx1 (And.intro hx2 (And.intro hx3 hx4)))
        have HKM := Lib.hid (And.intro hm2 hk2)
        have HKC := Lib.hid (show (k2 : Int) ≤ (ec : Int) ∧ ¬ ec = k2 from ⟨Int.ofNat_le.2 (Nat.le_of_lt hkc), fun e => by rw [e] at hkc; exact Nat.lt_irrefl _ hkc⟩)
        have HKC2 := Lib.hid hm2'.symm
        obtain ⟨i0, hi0, hy0, hy1, hy2⟩ := info_parts info_entry
        have HI := Lib.hid hi0
        have HY0 := Lib.hid hy0
        have HY1 := Lib.hid hy1
        have HY2 := Lib.hid hy2
        have hcF := cut_entF pa oa n1 ec k2 m2 (k2 : Int) rfl (Nat.le_of_lt hk2) hkc hm2'
        have hcT := cut_entT (some ⟨pa, oa, none⟩) n1 ec k2 (k2 : Int) rfl (Nat.le_of_lt hkc)
        have HSD := Lib.hid (fun W (hW : Below w5.heap.size w5 W) => show ∀ j u, (eCs (R.drop k2))[j]? = some u → W.cell? ((⟨pa, oa + k2 * 2, none⟩ : Addr).add j) = some u from fun j u hj => by
          rw [Addr.add_lit, Nat.add_assoc]
          have := HCS.out (k2 * 2 + j) u (eCs_drop (by rw [HRN.out]; exact Nat.le_of_lt HKM.out.2) hj)
          exact (hW.cell (p := ⟨pa, oa + (k2 * 2 + j), none⟩) (block_lt_of_cell this)).trans this)
        have HST := Lib.hid (fun W (hW : Below w5.heap.size w5 W) => show ∀ j u, (eCs (R.take k2))[j]? = some u → W.cell? ((⟨pa, oa, none⟩ : Addr).add j) = some u from fun j u hj => by
          rw [Addr.add_lit]
          have := HCS.out j u (eCs_take hj)
          exact (hW.cell (p := ⟨pa, oa + j, none⟩) (block_lt_of_cell this)).trans this)
        have HLD := Lib.hid (show (eCs (R.drop k2)).length = m2 * 2 by rw [eCs_length, List.length_drop, HRN.out, hm2'])
        have HLT := Lib.hid (show (eCs (R.take k2)).length = k2 * 2 by rw [eCs_length, List.length_take, HRN.out, Nat.min_eq_left (Nat.le_of_lt HKM.out.2)])
        have HB6 := Lib.hid ((Below.refl w5.heap.size w5).alloc (Nat.le_refl _) (.cells #[] 36))
        have HB6D := Lib.hid (show Below w5.heap.size w5 (w5.alloc (.cells #[] 36)).drew from below_drewN HB6.out 1)
        have HO6 := Lib.hid (show (w5.alloc (.cells #[] 36)).ownsRow w5.heap.size 36 2 (.slice (some ⟨w5.heap.size, 0, none⟩) 0 0) 0 [] from World.ownsRow_made w5 #[] 0 (Nat.le_refl _) (Nat.zero_le _) rfl)
        clear b5 hpR hEI hrn hcs hwk hsm hm2 hm2' hx1 hx2 hx3 hx4 hi0 hy0 hy1 hy2 hec hc1 hkc hk2
        go_wp2_with (fail)
        try rw [u2]
        clear hkk u1 u2 z1 z2
        have k0 : 0 ≤ (k2 : Int) := Int.natCast_nonneg k2
        have k1 : (k2 : Int) ≤ (n1 : Int) := Int.ofNat_le.2 (Nat.le_of_lt HKM.out.2)
        have k3 : (k2 : Int) ≤ (ec : Int) := HKC.out.1
        have k4 : ¬ ec = k2 := HKC.out.2
        have k5 : n1 - k2 = m2 := HKC2.out
        go_region_held3 (fun _ : World => True) (first | exact trivial) (first
          | ((refine step_append_any (by rfl) _ _ _ (by rfl) w5.heap.size 36 i0 _ 2 48 Tryd.underlying31 HI.out HY0.out HY1.out HY2.out rfl (by omega) w5.heap.size 0 0 [] (by rfl) HO6.out ⟨pa, oa + k2 * 2, none⟩ m2 _ (eCs (R.drop k2)) (by rfl) HLD.out (HSD.out _ HB6D.out) (eCs_one _) HMX.out.1 HMX.out.2.1 HB6.out.size ?_; intro g1 cap1 wz1 hown1 hgrow1; rw [List.nil_append] at hown1; have B9 := Lib.hid ((below_drewN HB6.out 1).grown hgrow1 HB6.out.size fun i hi => (HO6.out.lt i hi).1); have O9 := Lib.hid hown1; clear hown1 hgrow1))
          | ((refine step_append_any (by rfl) _ _ _ (by rfl) w5.heap.size 36 i0 _ 2 48 Tryd.underlying31 HI.out HY0.out HY1.out HY2.out rfl (by omega) g1 (0 + m2) cap1 (eCs (R.drop k2)) (by rfl) O9.out ⟨pa, oa, none⟩ k2 _ (eCs (R.take k2)) (by rfl) HLT.out (HST.out _ B9.out) (eCs_one _) HMX.out.2.2.1 HMX.out.2.2.2 B9.out.size ?_; intro g2 cap2 wz2 hown2 hgrow2; have B10 := Lib.hid (B9.out.grown hgrow2 B9.out.size fun i hi => (O9.out.lt i hi).1); have O10 := Lib.hid hown2; clear hown2 hgrow2)))
        have HBZ := Lib.hid (HB5.out.trans (B10.out.mono HB5.out.size))
        have HRZ := Lib.hid (Br.stays HR5.out B10.out)
        have HQL := Lib.hid (show (R.drop k2 ++ R.take k2).length = m2 + k2 from by rw [List.length_append, List.length_drop, List.length_take, HRN.out, Nat.min_eq_left (Nat.le_of_lt HKM.out.2), HKC2.out])
        have HEZ := Lib.hid (HEA.out.below B10.out)
        have HEO := Lib.hid (show EsIn wz2 (some ⟨g2, 0, none⟩) (R.drop k2 ++ R.take k2) from turned_in (cap := cap2) (Nat.le_refl _) HEA.out.all B10.out (fun q hq => (List.mem_append.1 hq).elim List.mem_of_mem_drop List.mem_of_mem_take) (by have := O10.out; rw [Nat.zero_add] at this; rw [HQL.out, eCs_append]; exact this))
        obtain ⟨pt, ot, hTe, hct⟩ := (HKT.out _ HBZ.out).at (show n1 < ts.length by rw [HTL.out, HN8.out.1]; exact Nat.lt_succ_self n1)
        subst hTe
        have x0 : (n1 : Int) < (n : Int) := by have := HN8.out.1; omega
        have x2 : 0 ≤ (n1 : Int) := Int.natCast_nonneg n1
        have HCT := Lib.hid (fun W (hW : Below wz2.heap.size wz2 W) => show W.cell? ⟨pt, ot + n1, none⟩ = some (.int .i64 (ts.getD n1 0)) from hb0c4 hW hct)
        generalize ts.getD n1 0 = tok at hct HCT
        obtain ⟨hte, hts, htr⟩ := entZ_turned x s2 R k2 tok
        by_cases he2 : errZ x (past R) tok = 0
        · have HS1 := Lib.hid (step_step wz2 (some ⟨pa, oa, none⟩) n1 ec R tok b x s2 HRZ.out HKX.out HRN.out (by have := HN8.out; omega) HEZ.out he2 (HPG.out.1.below HBZ.out (Nat.le_refl _)) (HPG.out.2.below HBZ.out (Nat.le_refl _)))
          have HS2 := Lib.hid (fun W (hW : Below wz2.heap.size wz2 W) => show Calls Tryd.prog 9 #[.pointer (some ⟨b, 0, none⟩), .slice (some ⟨g2, 0, none⟩) (m2 + k2) cap2, .int .i64 tok] W (StepSays W x s2 (past R) tok) from by
            have := step_step W (some ⟨g2, 0, none⟩) (m2 + k2) cap2 (R.drop k2 ++ R.take k2) tok b x s2 (Br.stays HRZ.out hW) HKX.out HQL.out (by have := HN8.out; have := HKM.out; omega) (HEO.out.below hW) (by rw [htr]; exact he2) (HPG.out.1.below (HBZ.out.trans (hW.mono HBZ.out.size)) (Nat.le_refl _)) (HPG.out.2.below (HBZ.out.trans (hW.mono HBZ.out.size)) (Nat.le_refl _))
            unfold StepSays at this ⊢
            rw [hte, hts] at this
            exact this)
          unfold StepSays at HS1 HS2
          have HEF := Lib.hid (ent_fit HKX.out.good.is (entZ_good x s2 (past R) tok))
          generalize entZ x s2 (past R) tok = E1 at HS1 HS2 HEF
          generalize scoZ x s2 (past R) tok = SC at HS1 HS2
          clear hte hts htr he2
          go_wp2_with (fail)
          refine HS1.out.mono ?_
          rintro e v1 ⟨r1, SA1, sc1, rfl, hE1, hK1, hl1, _, b1⟩
          unfold eV
          have c1 := (Below.refl v1.heap.size v1).alloc (Nat.le_refl _) (.cells #[.slice r1.kA E1.ks.length r1.kc, .slice r1.vA E1.vs.length r1.vc] 36)
          have HN1 := Lib.hid (heap_alloc_new v1 (.cells #[.slice r1.kA E1.ks.length r1.kc, .slice r1.vA E1.vs.length r1.vc] 36))
          have HE1 := Lib.hid (hE1.below c1)
          have HK1 := Lib.hid (hK1.below c1 (Nat.le_refl _))
          have HC1 := Lib.hid (b1.trans (c1.mono b1.size))
          have HL1 := Lib.hid hl1
          have HS3 := Lib.hid (HS2.out _ HC1.out)
          have hct1 := HCT.out _ HC1.out
          clear b1 c1 hE1 hK1 hl1 hct
          go_wp2_with (fail)
          refine HS3.out.mono ?_
          rintro e v2 ⟨r2, SA2, sc2, rfl, hE2, hK2, hl2, _, b2⟩
          unfold eV
          have c2 := (Below.refl v2.heap.size v2).alloc (Nat.le_refl _) (.cells #[.slice r2.kA E1.ks.length r2.kc, .slice r2.vA E1.vs.length r2.vc] 36)
          have HN2 := Lib.hid (heap_alloc_new v2 (.cells #[.slice r2.kA E1.ks.length r2.kc, .slice r2.vA E1.vs.length r2.vc] 36))
          have HE2 := Lib.hid (hE2.below c2)
          have HK2 := Lib.hid (hK2.below c2 (Nat.le_refl _))
          have HC2 := Lib.hid (b2.trans (c2.mono b2.size))
          have HL2 := Lib.hid hl2
          have hx1 := (HC2.out.block _ (Array.getElem?_eq_some_iff.1 HN1.out).1).trans HN1.out
          have hx2 := HN2.out
          have l1 : (v2.alloc (.cells #[.slice r2.kA E1.ks.length r2.kc, .slice r2.vA E1.vs.length r2.vc] 36)).cell? ⟨v1.heap.size, 0, none⟩ = some (.slice r1.kA E1.ks.length r1.kc) := by rw [cell_of_row _ _ _ _ _ _ hx1]; rfl
          have l2 : (v2.alloc (.cells #[.slice r2.kA E1.ks.length r2.kc, .slice r2.vA E1.vs.length r2.vc] 36)).cell? ⟨v1.heap.size, 1, none⟩ = some (.slice r1.vA E1.vs.length r1.vc) := by rw [cell_of_row _ _ _ _ _ _ hx1]; rfl
          have l3 : (v2.alloc (.cells #[.slice r2.kA E1.ks.length r2.kc, .slice r2.vA E1.vs.length r2.vc] 36)).cell? ⟨v2.heap.size, 0, none⟩ = some (.slice r2.kA E1.ks.length r2.kc) := by rw [cell_of_row _ _ _ _ _ _ hx2]; rfl
          have l4 : (v2.alloc (.cells #[.slice r2.kA E1.ks.length r2.kc, .slice r2.vA E1.vs.length r2.vc] 36)).cell? ⟨v2.heap.size, 1, none⟩ = some (.slice r2.vA E1.vs.length r2.vc) := by rw [cell_of_row _ _ _ _ _ _ hx2]; rfl
          have HSM := Lib.hid (show Calls Tryd.prog 10 #[.agg #[.slice r1.kA E1.ks.length r1.kc, .slice r1.vA E1.vs.length r1.vc], .agg #[.slice r2.kA E1.ks.length r2.kc, .slice r2.vA E1.vs.length r2.vc]] (v2.alloc (.cells #[.slice r2.kA E1.ks.length r2.kc, .slice r2.vA E1.vs.length r2.vc] 36)) fun e w' => e = .returned (.bool true) ∧ Below (v2.alloc (.cells #[.slice r2.kA E1.ks.length r2.kc, .slice r2.vA E1.vs.length r2.vc] 36)).heap.size (v2.alloc (.cells #[.slice r2.kA E1.ks.length r2.kc, .slice r2.vA E1.vs.length r2.vc] 36)) w' from by
            have := step_same (v2.alloc (.cells #[.slice r2.kA E1.ks.length r2.kc, .slice r2.vA E1.vs.length r2.vc] 36)) r1 E1 r2 E1 (HE1.out.below HC2.out) HE2.out HEF.out
            rw [sameE_self] at this
            exact this)
          clear b2 c2 hE2 hK2 hl2 hct1 hx1 hx2
          go_wp2_with (fail)
          refine HSM.out.mono ?_
          rintro e v3 ⟨rfl, b3⟩
          have HC3 := Lib.hid (HC2.out.trans (b3.mono HC2.out.size))
          have HIN := Lib.hid (ints_self17 v3 SA1 (vN x) sc1 SA2 (vN x) sc2 SC HL1.out HL2.out (by have := vN_small HKX.out; omega) (HK1.out.below HC3.out (Nat.le_refl _)) (HK2.out.below b3 (Nat.le_refl _)))
          clear b3 l1 l2 l3 l4
          go_wp2_with (fail)
          refine HIN.out.mono ?_
          rintro e v4 ⟨rfl, q4, rfl⟩
          have HD := Lib.hid (HC1.out.trans (HC3.out.mono HC1.out.size))
          go_wp2_with (fail)
          exact bodyPost_ret (results_tmp rfl _ _ _) rfl ⟨rfl, below_drewN (HBZ.out.trans (HD.out.mono HBZ.out.size)) q4⟩
        · have HS1 := Lib.hid (step_step_not wz2 (some ⟨pa, oa, none⟩) n1 ec R tok b x s2 HRZ.out HKX.out HRN.out (by have := HN8.out; omega) HEZ.out he2)
          have HS2 := Lib.hid (fun W (hW : Below wz2.heap.size wz2 W) => show Calls Tryd.prog 9 #[.pointer (some ⟨b, 0, none⟩), .slice (some ⟨g2, 0, none⟩) (m2 + k2) cap2, .int .i64 tok] W fun e w' => e = .returned (.tuple #[.agg #[.slice none 0 0, .slice none 0 0], .slice none 0 0, .int .i64 (errZ x (past R) tok)]) ∧ Below W.heap.size W w' from by
            have := step_step_not W (some ⟨g2, 0, none⟩) (m2 + k2) cap2 (R.drop k2 ++ R.take k2) tok b x s2 (Br.stays HRZ.out hW) HKX.out HQL.out (by have := HN8.out; have := HKM.out; omega) (HEO.out.below hW) (by rw [htr]; exact he2)
            rw [htr] at this
            exact this)
          generalize errZ x (past R) tok = er at HS1 HS2
          have t8 : (er == er) = true := beq_self_eq_true _
          clear hte hts htr he2
          go_wp2_with (fail)
          refine HS1.out.mono ?_
          rintro e v1 ⟨rfl, b1⟩
          have c1 := (Below.refl v1.heap.size v1).alloc (Nat.le_refl _) (.cells #[.slice none 0 0, .slice none 0 0] 36)
          have HN1 := Lib.hid (heap_alloc_new v1 (.cells #[.slice none 0 0, .slice none 0 0] 36))
          have HC1 := Lib.hid (b1.trans (c1.mono b1.size))
          have HS3 := Lib.hid (HS2.out _ HC1.out)
          have hct1 := HCT.out _ HC1.out
          clear b1 c1 hct
          go_wp2_with (fail)
          refine HS3.out.mono ?_
          rintro e v2 ⟨rfl, b2⟩
          have c2 := (Below.refl v2.heap.size v2).alloc (Nat.le_refl _) (.cells #[.slice none 0 0, .slice none 0 0] 36)
          have HN2 := Lib.hid (heap_alloc_new v2 (.cells #[.slice none 0 0, .slice none 0 0] 36))
          have HC2 := Lib.hid (b2.trans (c2.mono b2.size))
          have hx1 := (HC2.out.block _ (Array.getElem?_eq_some_iff.1 HN1.out).1).trans HN1.out
          have hx2 := HN2.out
          have l1 : (v2.alloc (.cells #[.slice none 0 0, .slice none 0 0] 36)).cell? ⟨v1.heap.size, 0, none⟩ = some (.slice none 0 0) := by rw [cell_of_row _ _ _ _ _ _ hx1]; rfl
          have l2 : (v2.alloc (.cells #[.slice none 0 0, .slice none 0 0] 36)).cell? ⟨v1.heap.size, 1, none⟩ = some (.slice none 0 0) := by rw [cell_of_row _ _ _ _ _ _ hx1]; rfl
          have l3 : (v2.alloc (.cells #[.slice none 0 0, .slice none 0 0] 36)).cell? ⟨v2.heap.size, 0, none⟩ = some (.slice none 0 0) := by rw [cell_of_row _ _ _ _ _ _ hx2]; rfl
          have l4 : (v2.alloc (.cells #[.slice none 0 0, .slice none 0 0] 36)).cell? ⟨v2.heap.size, 1, none⟩ = some (.slice none 0 0) := by rw [cell_of_row _ _ _ _ _ _ hx2]; rfl
          have HSM := Lib.hid (show Calls Tryd.prog 10 #[.agg #[.slice none 0 0, .slice none 0 0], .agg #[.slice none 0 0, .slice none 0 0]] (v2.alloc (.cells #[.slice none 0 0, .slice none 0 0] 36)) fun e w' => e = .returned (.bool true) ∧ Below (v2.alloc (.cells #[.slice none 0 0, .slice none 0 0] 36)).heap.size (v2.alloc (.cells #[.slice none 0 0, .slice none 0 0] 36)) w' from by
            have := step_same (v2.alloc (.cells #[.slice none 0 0, .slice none 0 0] 36)) er0 ⟨[], []⟩ er0 ⟨[], []⟩ (eon_none _) (eon_none _) ⟨Nat.zero_le _, Nat.zero_le _, fun i hi => absurd hi (Nat.not_lt_zero i), fun i hi => absurd hi (Nat.not_lt_zero i)⟩
            rw [sameE_self] at this
            exact this)
          clear b2 c2 hct1 hx1 hx2
          go_wp2_with (fail)
          refine HSM.out.mono ?_
          rintro e v3 ⟨rfl, b3⟩
          have HC3 := Lib.hid (HC2.out.trans (b3.mono HC2.out.size))
          have HIN := Lib.hid (ints_self17 v3 none 0 0 none 0 0 [] rfl rfl (Nat.zero_le _) (KIn.nil _ _ _) (KIn.nil _ _ _))
          clear b3 l1 l2 l3 l4
          go_wp2_with (fail)
          refine HIN.out.mono ?_
          rintro e v4 ⟨rfl, q4, rfl⟩
          have HD := Lib.hid (HC1.out.trans (HC3.out.mono HC1.out.size))
          go_wp2_with (fail)
          exact bodyPost_ret (results_tmp rfl _ _ _) rfl ⟨rfl, below_drewN (HBZ.out.trans (HD.out.mono HBZ.out.size)) q4⟩
      · have HER := Lib.hid he
        have t7 : (errR x (past []) (ts.take n1) != 0) = true := bne_iff_ne.2 he
        clear he
        go_wp2_with (fail)
        refine (step_run_not w4 none 0 0 [] T n1 c (ts.take n1) b x s2 HR4.out HKX.out rfl (by omega) (noEs w4) HTK.out (by have := HN8.out; omega) ((HKT.out _ HB4.out).take n1) HER.out).mono ?_
        rintro e w5 ⟨rfl, b5⟩
        have HB5 := Lib.hid (HB4.out.trans (b5.mono HB4.out.size))
        clear b5
        go_wp2_with (fail)
        exact bodyPost_ret (results_tmp rfl _ _ _) rfl ⟨rfl, HB5.out⟩

end
end stepOrder
end Go.Proofs.YtijmjlognekcjaaDoor
namespace Go.Proofs.YtijmjlognekcjaaDoor
open Go.ChangeShapes Go.WideShapes Go.ChangeAt Go.RowKit Cf Vc Br Nr Sf Ac Sp

namespace stepOrder
section
variable (w : World) (x : Cfg) (s : ByteArray) (T : Option Addr) (n c : Nat) (turn : Int) (hp : POn w) (hg : GOn w)

set_option maxRecDepth 100000 in
set_option maxHeartbeats 3200000 in
include hp hg in
theorem leaf_many (h : 6 < n) : Calls Tryd.prog 4 #[cfV x, .string s, .slice T n c, .int .i64 turn] w fun e w' => e = .returned (.bool true) ∧ Below w.heap.size w w' := by
  have HAW := Lib.hid (fun W (hW : Below w.heap.size w W) => awake17 W (hp.below hW (Nat.le_refl _)) (hg.below hW (Nat.le_refl _)))
  have HB0 := Lib.hid ((Below.refl w.heap.size w).alloc (Nat.le_refl _) (cfO 23 x))
  have HH0 := Lib.hid (heap_alloc_new w (cfO 23 x))
  have t0 : 6 < (n : Int) := by omega
  have t1 : decide (6 < (n : Int)) = true := decide_eq_true t0
  clear hp hg h
  unfold cfV cfA at *
  go_enter Tryd.func4, Tryd.ntmps4
  go_wp2_with (fail)
  refine (HAW.out _ HB0.out).mono ?_
  rintro e w1 ⟨rfl, b1⟩
  have HB1 := Lib.hid (HB0.out.trans (b1.mono HB0.out.size))
  have HH1 := Lib.hid (Cf.stays HH0.out b1)
  clear b1 HAW HB0 HH0
  go_wp2_with (fail)
  exact bodyPost_ret (results_tmp rfl _ _ _) rfl ⟨rfl, HB1.out⟩

set_option maxRecDepth 100000 in
set_option maxHeartbeats 3200000 in
include hp hg in
theorem leaf_few (h : n ≤ 1) : Calls Tryd.prog 4 #[cfV x, .string s, .slice T n c, .int .i64 turn] w fun e w' => e = .returned (.bool true) ∧ Below w.heap.size w w' := by
  have HAW := Lib.hid (fun W (hW : Below w.heap.size w W) => awake17 W (hp.below hW (Nat.le_refl _)) (hg.below hW (Nat.le_refl _)))
  have HB0 := Lib.hid ((Below.refl w.heap.size w).alloc (Nat.le_refl _) (cfO 23 x))
  have HH0 := Lib.hid (heap_alloc_new w (cfO 23 x))
  have t0 : ¬ 6 < (n : Int) := by omega
  have t1 : decide (6 < (n : Int)) = false := decide_eq_false t0
  obtain ⟨z, hz⟩ : ∃ z : Int, (n : Int) - 1 = z := ⟨_, rfl⟩
  have a1 : wrap64 ((n : Int) - 1) = z := (IntWalk.wrap64_in _ (by omega)).trans hz
  have a2 : IntKind.i64.wrap ((n : Int) - 1) = z := (IntWalk.i64_in _ (by omega)).trans hz
  have t2 : z < 1 := by omega
  have t3 : decide (z < 1) = true := decide_eq_true t2
  clear hp hg h hz
  unfold cfV cfA at *
  go_enter Tryd.func4, Tryd.ntmps4
  go_wp2_with (fail)
  refine (HAW.out _ HB0.out).mono ?_
  rintro e w1 ⟨rfl, b1⟩
  have HB1 := Lib.hid (HB0.out.trans (b1.mono HB0.out.size))
  have HH1 := Lib.hid (Cf.stays HH0.out b1)
  clear b1 HAW HB0 HH0
  go_wp2_with (fail)
  exact bodyPost_ret (results_tmp rfl _ _ _) rfl ⟨rfl, HB1.out⟩

set_option maxRecDepth 100000 in
set_option maxHeartbeats 3200000 in
include hp hg in
theorem leaf_great (h : n ≤ 6) (h2 : 2 ≤ n) (hs : smallZ x = false) : Calls Tryd.prog 4 #[cfV x, .string s, .slice T n c, .int .i64 turn] w fun e w' => e = .returned (.bool true) ∧ Below w.heap.size w w' := by
  have HAW := Lib.hid (fun W (hW : Below w.heap.size w W) => awake17 W (hp.below hW (Nat.le_refl _)) (hg.below hW (Nat.le_refl _)))
  have HB0 := Lib.hid ((Below.refl w.heap.size w).alloc (Nat.le_refl _) (cfO 23 x))
  have HH0 := Lib.hid (heap_alloc_new w (cfO 23 x))
  have HSM := Lib.hid (fun W => small_any x W)
  rw [hs] at HSM
  have t0 : ¬ 6 < (n : Int) := by omega
  have t1 : decide (6 < (n : Int)) = false := decide_eq_false t0
  obtain ⟨z, hz⟩ : ∃ z : Int, (n : Int) - 1 = z := ⟨_, rfl⟩
  have a1 : wrap64 ((n : Int) - 1) = z := (IntWalk.wrap64_in _ (by omega)).trans hz
  have a2 : IntKind.i64.wrap ((n : Int) - 1) = z := (IntWalk.i64_in _ (by omega)).trans hz
  have t2 : ¬ z < 1 := by omega
  have t3 : decide (z < 1) = false := decide_eq_false t2
  clear hp hg h h2 hz hs
  unfold cfV cfA at *
  go_enter Tryd.func4, Tryd.ntmps4
  go_wp2_with (fail)
  refine (HAW.out _ HB0.out).mono ?_
  rintro e w1 ⟨rfl, b1⟩
  have HB1 := Lib.hid (HB0.out.trans (b1.mono HB0.out.size))
  have HH1 := Lib.hid (Cf.stays HH0.out b1)
  clear b1 HAW HB0 HH0
  obtain ⟨e0, e1, e2, e3, e4, e5⟩ := six HH1.out
  go_wp2_with (fail)
  refine (HSM.out _).mono ?_
  rintro e w2 ⟨rfl, b2⟩
  have HB2 := Lib.hid (HB1.out.trans (b2.mono HB1.out.size))
  have HH2 := Lib.hid (Cf.stays HH1.out b2)
  clear b2 e0 e1 e2 e3 e4 e5 HB1 HH1
  obtain ⟨e0, e1, e2, e3, e4, e5⟩ := six HH2.out
  go_wp2_with (fail)
  exact bodyPost_ret (results_tmp rfl _ _ _) rfl ⟨rfl, HB2.out⟩

set_option maxRecDepth 100000 in
set_option maxHeartbeats 3200000 in
include hp hg in
theorem leaf_two (h : n ≤ 6) (h2 : 2 ≤ n) (hs : smallZ x = true) (hb : x.b ≠ 1) : Calls Tryd.prog 4 #[cfV x, .string s, .slice T n c, .int .i64 turn] w fun e w' => e = .returned (.bool true) ∧ Below w.heap.size w w' := by
  have HAW := Lib.hid (fun W (hW : Below w.heap.size w W) => awake17 W (hp.below hW (Nat.le_refl _)) (hg.below hW (Nat.le_refl _)))
  have HB0 := Lib.hid ((Below.refl w.heap.size w).alloc (Nat.le_refl _) (cfO 23 x))
  have HH0 := Lib.hid (heap_alloc_new w (cfO 23 x))
  have HSM := Lib.hid (fun W => small_any x W)
  rw [hs] at HSM
  have t0 : ¬ 6 < (n : Int) := by omega
  have t1 : decide (6 < (n : Int)) = false := decide_eq_false t0
  obtain ⟨z, hz⟩ : ∃ z : Int, (n : Int) - 1 = z := ⟨_, rfl⟩
  have a1 : wrap64 ((n : Int) - 1) = z := (IntWalk.wrap64_in _ (by omega)).trans hz
  have a2 : IntKind.i64.wrap ((n : Int) - 1) = z := (IntWalk.i64_in _ (by omega)).trans hz
  have t2 : ¬ z < 1 := by omega
  have t3 : decide (z < 1) = false := decide_eq_false t2
  have t4 : (x.b != 1) = true := bne_iff_ne.2 hb
  clear hp hg h h2 hz hs hb
  unfold cfV cfA at *
  go_enter Tryd.func4, Tryd.ntmps4
  go_wp2_with (fail)
  refine (HAW.out _ HB0.out).mono ?_
  rintro e w1 ⟨rfl, b1⟩
  have HB1 := Lib.hid (HB0.out.trans (b1.mono HB0.out.size))
  have HH1 := Lib.hid (Cf.stays HH0.out b1)
  clear b1 HAW HB0 HH0
  obtain ⟨e0, e1, e2, e3, e4, e5⟩ := six HH1.out
  go_wp2_with (fail)
  refine (HSM.out _).mono ?_
  rintro e w2 ⟨rfl, b2⟩
  have HB2 := Lib.hid (HB1.out.trans (b2.mono HB1.out.size))
  have HH2 := Lib.hid (Cf.stays HH1.out b2)
  clear b2 e0 e1 e2 e3 e4 e5 HB1 HH1
  obtain ⟨e0, e1, e2, e3, e4, e5⟩ := six HH2.out
  go_wp2_with (fail)
  exact bodyPost_ret (results_tmp rfl _ _ _) rfl ⟨rfl, HB2.out⟩

set_option maxRecDepth 100000 in
set_option maxHeartbeats 3200000 in
include hp hg in
theorem leaf_long (h : n ≤ 6) (h2 : 2 ≤ n) (hs : smallZ x = true) (hb : x.b = 1) (hl : 2048 < s.size) : Calls Tryd.prog 4 #[cfV x, .string s, .slice T n c, .int .i64 turn] w fun e w' => e = .returned (.bool true) ∧ Below w.heap.size w w' := by
  have HAW := Lib.hid (fun W (hW : Below w.heap.size w W) => awake17 W (hp.below hW (Nat.le_refl _)) (hg.below hW (Nat.le_refl _)))
  have HB0 := Lib.hid ((Below.refl w.heap.size w).alloc (Nat.le_refl _) (cfO 23 x))
  have HH0 := Lib.hid (heap_alloc_new w (cfO 23 x))
  have HSM := Lib.hid (fun W => small_any x W)
  rw [hs] at HSM
  have t0 : ¬ 6 < (n : Int) := by omega
  have t1 : decide (6 < (n : Int)) = false := decide_eq_false t0
  obtain ⟨z, hz⟩ : ∃ z : Int, (n : Int) - 1 = z := ⟨_, rfl⟩
  have a1 : wrap64 ((n : Int) - 1) = z := (IntWalk.wrap64_in _ (by omega)).trans hz
  have a2 : IntKind.i64.wrap ((n : Int) - 1) = z := (IntWalk.i64_in _ (by omega)).trans hz
  have t2 : ¬ z < 1 := by omega
  have t3 : decide (z < 1) = false := decide_eq_false t2
  have t4 : (x.b != 1) = false := by rw [hb]; rfl
  have t5 : 2048 < (s.size : Int) := by omega
  have t6 : decide (2048 < (s.size : Int)) = true := decide_eq_true t5
  clear hp hg h h2 hz hs hb hl
  unfold cfV cfA at *
  go_enter Tryd.func4, Tryd.ntmps4
  go_wp2_with (fail)
  refine (HAW.out _ HB0.out).mono ?_
  rintro e w1 ⟨rfl, b1⟩
  have HB1 := Lib.hid (HB0.out.trans (b1.mono HB0.out.size))
  have HH1 := Lib.hid (Cf.stays HH0.out b1)
  clear b1 HAW HB0 HH0
  obtain ⟨e0, e1, e2, e3, e4, e5⟩ := six HH1.out
  go_wp2_with (fail)
  refine (HSM.out _).mono ?_
  rintro e w2 ⟨rfl, b2⟩
  have HB2 := Lib.hid (HB1.out.trans (b2.mono HB1.out.size))
  have HH2 := Lib.hid (Cf.stays HH1.out b2)
  clear b2 e0 e1 e2 e3 e4 e5 HB1 HH1
  obtain ⟨e0, e1, e2, e3, e4, e5⟩ := six HH2.out
  go_wp2_with (fail)
  exact bodyPost_ret (results_tmp rfl _ _ _) rfl ⟨rfl, HB2.out⟩

set_option maxRecDepth 100000 in
set_option maxHeartbeats 3200000 in
include hp hg in
theorem leaf_no (h : n ≤ 6) (h2 : 2 ≤ n) (hs : smallZ x = true) (hb : x.b = 1) (hl : s.size ≤ 2048) (hk : ¬ Ok x s) : Calls Tryd.prog 4 #[cfV x, .string s, .slice T n c, .int .i64 turn] w fun e w' => e = .returned (.bool true) ∧ Below w.heap.size w w' := by
  have HAW := Lib.hid (fun W (hW : Below w.heap.size w W) => awake17 W (hp.below hW (Nat.le_refl _)) (hg.below hW (Nat.le_refl _)))
  have HB0 := Lib.hid ((Below.refl w.heap.size w).alloc (Nat.le_refl _) (cfO 23 x))
  have HH0 := Lib.hid (heap_alloc_new w (cfO 23 x))
  have HNO := Lib.hid (show ∀ s' : ByteArray, s'.size = s.size → ∃ m : Int, m ≠ 0 ∧ ∀ W, Calls Tryd.prog 7 #[cfV x, .string s'] W fun e w' => e = .returned (.tuple #[.pointer none, .int .i64 m]) ∧ Below W.heap.size W w' from fun s' he => by
    cases hgz : goodZ x with
    | false => exact ⟨1, by decide, fun W => brain_of_arg W x s' hgz⟩
    | true => exact ⟨5, by decide, fun W => brain_of_form W x s' hgz fun hs => hk ⟨good_iff.1 hgz, by rw [← he]; exact hs⟩⟩)
  have HSM := Lib.hid (fun W => small_any x W)
  rw [hs] at HSM
  have t0 : ¬ 6 < (n : Int) := by omega
  have t1 : decide (6 < (n : Int)) = false := decide_eq_false t0
  obtain ⟨z, hz⟩ : ∃ z : Int, (n : Int) - 1 = z := ⟨_, rfl⟩
  have a1 : wrap64 ((n : Int) - 1) = z := (IntWalk.wrap64_in _ (by omega)).trans hz
  have a2 : IntKind.i64.wrap ((n : Int) - 1) = z := (IntWalk.i64_in _ (by omega)).trans hz
  have t2 : ¬ z < 1 := by omega
  have t3 : decide (z < 1) = false := decide_eq_false t2
  have t4 : (x.b != 1) = false := by rw [hb]; rfl
  have t5 : ¬ 2048 < (s.size : Int) := by omega
  have t6 : decide (2048 < (s.size : Int)) = false := decide_eq_false t5
  have HSZ := Lib.hid hl
  obtain ⟨l0, hl0⟩ : ∃ l : List UInt8, s.data.toList = l := ⟨_, rfl⟩
  have HL0 := Lib.hid (show s.data.toList = l0 ∧ l0.length = s.size from ⟨hl0, by rw [← hl0]; rfl⟩)
  clear hp hg h h2 hz hs hb hl hk hl0
  unfold cfV cfA at *
  go_enter Tryd.func4, Tryd.ntmps4
  go_wp2_with (fail)
  refine (HAW.out _ HB0.out).mono ?_
  rintro e w1 ⟨rfl, b1⟩
  have HB1 := Lib.hid (HB0.out.trans (b1.mono HB0.out.size))
  have HH1 := Lib.hid (Cf.stays HH0.out b1)
  clear b1 HAW HB0 HH0
  obtain ⟨e0, e1, e2, e3, e4, e5⟩ := six HH1.out
  go_wp2_with (fail)
  refine (HSM.out _).mono ?_
  rintro e w2 ⟨rfl, b2⟩
  have HB2 := Lib.hid (HB1.out.trans (b2.mono HB1.out.size))
  have HH2 := Lib.hid (Cf.stays HH1.out b2)
  clear b2 e0 e1 e2 e3 e4 e5 HB1 HH1
  obtain ⟨e0, e1, e2, e3, e4, e5⟩ := six HH2.out
  go_wp2_with (refine Tx.wpList_bytes rfl (.tmp 52) rfl s rfl l0 HL0.out.1 ?_; intro cap w3 hrow hgr; have HRW := Lib.hid hrow; have HB3 := Lib.hid (HB2.out.grown hgr HB2.out.size fun k hk => by cases hk); have HH3 := Lib.hid (Cf.stays HH2.out ((Below.refl w2.heap.size w2).grown hgr (Nat.le_refl _) fun k hk => by cases hk)); have hsx := six HH3.out; clear hrow hgr e0 e1 e2 e3 e4 e5; obtain ⟨e0, e1, e2, e3, e4, e5⟩ := hsx)
  have HBL := Lib.hid (show w.heap.size < w2.heap.size from (Array.getElem?_eq_some_iff.1 HH2.out).1)
  obtain ⟨N, hN⟩ : ∃ N, l0.length = N := ⟨_, rfl⟩
  rw [hN]
  have HN := Lib.hid (show l0.length = N ∧ N = s.size ∧ N ≤ 2048 from ⟨hN, hN.symm.trans HL0.out.2, by have := HSZ.out; have := HL0.out.2; omega⟩)
  have HKB := Lib.hid (fun (k : Nat) (hk : k < N) => show -9223372036854775808 ≤ (k : Int) + 1 ∧ (k : Int) + 1 ≤ 9223372036854775807 from by have := HN.out.2.2; omega)
  have HBN := Lib.hid (Nat.ne_of_lt HBL.out)
  clear e0 e1 e2 e3 e4 e5 HH2 HB2 hN a1 a2 t1 t3 t4 t6 t0 t2 t5 HSM
  go_loopw [11] (fun i wr => ∃ (y : Int) (l : List UInt8), i = .int .i64 y ∧ l.length = N ∧ Tx.TRow wr w2.heap.size l ∧ wr.heap[w.heap.size]? = some (cfO 23 x) ∧ Below w.heap.size w wr) (fun i _ => match i with | .int _ k => N - k.toNat | _ => 0)
  case atStart => exact ⟨_, l0, rfl, HN.out.1, HRW.out, HH3.out, HB3.out⟩
  case round =>
    obtain ⟨y, l, rfl, hl, hrow, hcf, hbw⟩ := hrel
    have HL := Lib.hid (show (⟨l.toArray⟩ : ByteArray).size = s.size from (show l.toArray.size = s.size from by rw [List.size_toArray, hl]; exact HN.out.2.1))
    have HLN := Lib.hid hl
    have HRX := Lib.hid hrow
    have HCF := Lib.hid hcf
    have HBW := Lib.hid hbw
    have HCV := Lib.hid (show (convert 43 9 (.slice (some ⟨w2.heap.size, 0, none⟩) N cap)).run Tryd.prog wr = .ok (.string ⟨l.toArray⟩) wr from by
      have := hrow.text cap
      rwa [hl] at this)
    clear hl hrow hbw HRW HH3 HB3
    obtain ⟨e0, e1, e2, e3, e4, e5⟩ := six hcf
    clear hcf
    by_cases hyE : y < wrap64 (wrap64 (x.v + x.c) * x.d)
    · have u1 : decide (y < wrap64 (wrap64 (x.v + x.c) * x.d)) = true := decide_eq_true hyE
      by_cases hyN : y < (N : Int)
      · have u2 : decide (y < (N : Int)) = true := decide_eq_true hyN
        by_cases hy0 : 0 ≤ y
        · have u3 : decide (0 ≤ y) = true := decide_eq_true hy0
          obtain ⟨k, rfl⟩ := Int.eq_ofNat_of_zero_le hy0
          have hkN : k < N := Int.ofNat_lt.1 hyN
          have hkl : k < l.length := by rw [HLN.out]; exact hkN
          have c1 := HRX.out.cell hkl
          have f1 := HRX.out.frozen hkl
          have a3 := IntWalk.wrap64_in ((k : Int) + 1) (HKB.out k hkN)
          have HKN := Lib.hid (And.intro hkN hkl)
          generalize ((l.getD k 0).toNat : Int) = bv at c1
          clear hkN hkl
          go_wp2_with (fail)
          try rw [a3]
          exact ⟨⟨(k : Int) + 1, l.set k 0, rfl, by rw [List.length_set]; exact HLN.out, HRX.out.set HKN.out.2 0, (heap_setCell_other _ ⟨w2.heap.size, k, none⟩ _ _ HBN.out).trans HCF.out, HBW.out.setCell (p := ⟨w2.heap.size, k, none⟩) (Nat.le_of_lt HBL.out) _⟩, vcLess k N HKN.out.1⟩
        · have u3 : decide (0 ≤ y) = false := decide_eq_false hy0
          obtain ⟨m, hm, ho⟩ := HNO.out ⟨l.toArray⟩ HL.out
          have t9 : (m != 0) = true := bne_iff_ne.2 hm
          have HO := Lib.hid ho
          have hcv := HCV.out
          clear ho hm
          go_wp2_with (fail)
          refine (HO.out _).mono ?_
          rintro e w4 ⟨rfl, b4⟩
          have HB4 := Lib.hid (HBW.out.trans (b4.mono HBW.out.size))
          clear b4
          go_wp2_with (fail)
          exact bodyPost_ret (results_tmp rfl _ _ _) rfl ⟨rfl, HB4.out⟩
      · have u2 : decide (y < (N : Int)) = false := decide_eq_false hyN
        obtain ⟨m, hm, ho⟩ := HNO.out ⟨l.toArray⟩ HL.out
        have t9 : (m != 0) = true := bne_iff_ne.2 hm
        have HO := Lib.hid ho
        have hcv := HCV.out
        clear ho hm
        go_wp2_with (fail)
        refine (HO.out _).mono ?_
        rintro e w4 ⟨rfl, b4⟩
        have HB4 := Lib.hid (HBW.out.trans (b4.mono HBW.out.size))
        clear b4
        go_wp2_with (fail)
        exact bodyPost_ret (results_tmp rfl _ _ _) rfl ⟨rfl, HB4.out⟩
    · have u1 : decide (y < wrap64 (wrap64 (x.v + x.c) * x.d)) = false := decide_eq_false hyE
      obtain ⟨m, hm, ho⟩ := HNO.out ⟨l.toArray⟩ HL.out
      have t9 : (m != 0) = true := bne_iff_ne.2 hm
      have HO := Lib.hid ho
      have hcv := HCV.out
      clear ho hm
      go_wp2_with (fail)
      refine (HO.out _).mono ?_
      rintro e w4 ⟨rfl, b4⟩
      have HB4 := Lib.hid (HBW.out.trans (b4.mono HBW.out.size))
      clear b4
      go_wp2_with (fail)
      exact bodyPost_ret (results_tmp rfl _ _ _) rfl ⟨rfl, HB4.out⟩

end
end stepOrder
end Go.Proofs.YtijmjlognekcjaaDoor
namespace Go.Proofs.YtijmjlognekcjaaDoor
open Go.ChangeShapes Go.WideShapes Go.ChangeAt Go.RowKit Cf Vc Br Nr Sf Ac Sp

namespace stepOrder
theorem walk (w : World) (x : Cfg) (s : ByteArray) (T : Option Addr) (n c : Nat) (ts : List Int) (turn : Int) (hts : ts.length = n) (hK : KIn .i64 w T ts) (hcap : n ≤ c) (hT : POn w ∧ GOn w) : Calls Tryd.prog 4 #[cfV x, .string s, .slice T n c, .int .i64 turn] w fun e w' => e = .returned (.bool true) ∧ Below w.heap.size w w' := by
  obtain ⟨hp, hg⟩ := hT
  by_cases h : n ≤ 6
  · by_cases h2 : 2 ≤ n
    · cases hs : smallZ x with
      | false => exact leaf_great w x s T n c turn hp hg h h2 hs
      | true =>
        by_cases hb : x.b = 1
        · by_cases hl : s.size ≤ 2048
          · by_cases hk : Ok x s
            · exact leaf_ok w x s T n c ts turn hp hg hts hK hcap h h2 hs hb hl hk
            · exact leaf_no w x s T n c turn hp hg h h2 hs hb hl hk
          · exact leaf_long w x s T n c turn hp hg h h2 hs hb (by omega)
        · exact leaf_two w x s T n c turn hp hg h h2 hs hb
    · exact leaf_few w x s T n c turn hp hg (by omega)
  · exact leaf_many w x s T n c turn hp hg (by omega)
end stepOrder
end Go.Proofs.YtijmjlognekcjaaDoor
