/-
  The document's Sum and Dot of layer 1. Conditions: the rows' numbers are there.
  Package vecs: Scale. Conditions: the row's numbers are there, at most 4096.
  The reference of layer 11: Scale. Conditions: the row's numbers are there, at most 4096.
  The reference of layer 11: Times. Conditions: the table's numbers and the row's are there.
  The reference of layer 11: Plus. Conditions: the list's rows are there, at most 4096 rows of at most 4096 numbers.
-/
import Derived.Test.YtkdkeokldcehhaaGreatDoorMg6
import Derived.Test.YtkdkeokldcehhaaGreatDoorMg14
import Derived.Test.YtkdkeokldcehhaaGreatDoorMg12
import Derived.Test.YtkdkeokldcehhaaGreatDoorMg5
import Derived.Lib.AppendStr
import Derived.OwnWalk
import Derived.Laws.OwnMore
import Derived.Deep.AppendLies
import Derived.Deep.RegionHeld3
set_option maxRecDepth 100000
namespace Go.Proofs.YtkdkeokldcehhaaGreatDoor
open Go.ChangeShapes Go.WideShapes Go.ChangeAt Go.RowKit Nm Vc

namespace Vc
/-- A row of numbers that one owns. -/
def icells (l : List Int) : List Value := l.map fun z => .int .i64 z
theorem icells_length (l : List Int) : (icells l).length = l.length := by simp [icells]
theorem icells_add (l : List Int) (z : Int) : icells (l ++ [z]) = icells l ++ [.int .i64 z] := by simp [icells]
theorem icells_at (l : List Int) (j : Nat) (h : j < l.length) : (icells l)[j]? = some (.int .i64 (l.getD j 0)) := by simp [icells, h]
theorem one_src (w : World) (c : Int) : ∀ j u, ([.int .i64 c] : List Value)[j]? = some u → (w.alloc (.cells #[.int .i64 c] 3)).cell? ((⟨w.heap.size, 0, none⟩ : Addr).add j) = some u := fun j u hj => by
  rw [Addr.add_lit, Nat.zero_add, cell_of_row _ _ _ _ _ _ (heap_alloc_new w _), ← hj]
  exact List.getElem?_toArray
theorem one_one (c : Int) : ∀ u ∈ ([.int .i64 c] : List Value), u.oneCell' = true := fun u hu => by
  obtain rfl := List.mem_singleton.1 hu
  rfl
/-- One's own row of the numbers zs, of the blocks from base on. -/
def Own (w : World) (base : Nat) (v : Value) (zs : List Int) : Prop := w.ownsRow base 3 1 v zs.length (icells zs)
theorem Own.below {w w' : World} {B base : Nat} {v : Value} {zs : List Int} (h : Own w base v zs) (hb : Below B w w') (hB : w.heap.size ≤ B) : Own w' base v zs := by
  refine ⟨h.1, ?_⟩
  rcases h.2 with hn | ⟨g, cap, cur, hv, h1, hg, r⟩
  · exact .inl hn
  · exact .inr ⟨g, cap, cur, hv, h1, (hb.block g (by have := (Array.getElem?_eq_some_iff.1 hg).1; omega)).trans hg, r⟩
theorem Own.slice {w : World} {base : Nat} {v : Value} {zs : List Int} (h : Own w base v zs) : ∃ A cap, v = .slice A zs.length cap := by
  rcases h.2 with ⟨hn, h0⟩ | ⟨g, cap, cur, rfl, hb, _⟩
  · exact ⟨none, 0, by rw [hn, h0]⟩
  · exact ⟨_, cap, rfl⟩
theorem Own.new (w : World) (base : Nat) (hb : base ≤ w.heap.size) : Own (w.alloc (.cells #[] 3)) base (.slice (some ⟨w.heap.size, 0, none⟩) 0 0) [] := World.ownsRow_made w #[] 0 hb (Nat.zero_le _) rfl
theorem Own.kin {w : World} {base : Nat} {A : Option Addr} {n c : Nat} {zs : List Int} (h : Own w base (.slice A n c) zs) : KIn .i64 w A zs := fun h0 => by
  rcases h.2 with ⟨_, he⟩ | ⟨g, cap, cur, hv, _⟩
  · omega
  · injection hv with hv1 hv2 hv3
    subst hv1
    refine ⟨g, 0, rfl, fun i hi => ?_⟩
    have := h.cells (g := g) rfl i (.int .i64 (zs.getD i 0)) (icells_at zs i hi)
    rwa [Addr.add_lit] at this
theorem Own.grew {wz : World} {base j gg cap : Nat} {L : List Int} {z : Int} (hL : L.length = j) (h : wz.ownsRow base 3 1 (.slice (some ⟨gg, 0, none⟩) (j + 1) cap) (j + 1) (icells L ++ [.int .i64 z])) : Own wz base (.slice (some ⟨gg, 0, none⟩) (j + 1) cap) (L ++ [z]) := by
  unfold Own
  rw [icells_add, List.length_append, hL, List.length_singleton]
  exact h
theorem Own.at {w : World} {base j : Nat} {v : Value} {L : List Int} (h : Own w base v L) (hL : L.length = j) : w.ownsRow base 3 1 v j (icells L) := by
  unfold Own at h
  rw [hL] at h
  exact h
theorem own_capR {W : World} {base n c : Nat} {A : Option Addr} {zs : List Int} (h : Own W base (.slice A n c) zs) : n ≤ c := by
  rcases h.2 with ⟨e, h0⟩ | ⟨g, cap, cur, e, _, _, hc, _⟩
  · injection e with _ e2 e3; omega
  · injection e with _ e2 e3; omega
theorem own_newR {W : World} {base n c : Nat} {A : Option Addr} {zs : List Int} (h : Own W base (.slice A n c) zs) : ∀ a, A = some a → base ≤ a.block := fun a ha => by
  subst ha
  exact (World.ownsRow.lt h a.block rfl).1
theorem below_grew {w0 w wz : World} {B : Nat} {v : Value} {L : List Int} (hb : Below B w0 w) (hB : w0.heap.size = B) (ho : Own w B v L) (o : Obj) (hg : (w.alloc o).grownBy wz v.ownBlock) : Below B w0 wz :=
  (hb.alloc (by have := hb.size; omega) o).grown hg (by have := hb.size; simp; omega) (fun i hi => (ho.lt i hi).1)
end Vc
set_option maxRecDepth 100000 in
set_option maxHeartbeats 800000 in
theorem rsum_any (w : World) (A : Option Addr) (n c : Nat) (zs : List Int) (hz : zs.length = n) (hm : n ≤ 1000000) (hA : KIn .i64 w A zs) :
    Calls Tryz.prog 76 #[.slice A n c] w fun e w' => e = .returned (.int .i64 (sum zs)) ∧ w = w' := by
  have HA := Lib.hid hA
  have HZ := Lib.hid hz
  clear hA hz
  go_enter Tryz.func76, Tryz.ntmps76
  go_wp2_with (fail)
  go_loopw [3, 4] (fun s i wr => ∃ j : Nat, i = .int .i64 (j : Int) ∧ j ≤ n ∧ s = .int .i64 (sum (zs.take j)) ∧ w = wr) (fun _ i _ => match i with | .int _ k => n - k.toNat | _ => 0)
  case atStart => exact ⟨0, rfl, Nat.zero_le _, rfl, rfl⟩
  case round =>
    obtain ⟨j, rfl, hj, rfl, rfl⟩ := hrel
    have x2 : 0 ≤ (j : Int) := by omega
    by_cases hlt : j < n
    · have x0 : (j : Int) < (n : Int) := by omega
      have x1 : decide ((j : Int) < (n : Int)) = true := decide_eq_true x0
      have HJ := Lib.hid (show j + 1 ≤ n by omega)
      have hlz : j < zs.length := by rw [HZ.out]; exact hlt
      obtain ⟨pa, oa, rfl, hc1⟩ := HA.out.at hlz
      have HN := Lib.hid (sum_next zs j hlz)
      have hg : zs.getD j 0 = zs[j] := by rw [List.getD_eq_getElem?_getD, List.getElem?_eq_getElem hlz]; rfl
      rw [hg] at hc1
      have hb := sum_in (zs.take j)
      have hb1 := clamp_lo zs[j] (-2305843009213693952) 2305843009213693952 (by omega)
      have hb2 := clamp_hi zs[j] (-2305843009213693952) 2305843009213693952 (by omega)
      have hw : wrap64 (sum (zs.take j) + clamp zs[j] (-2305843009213693952) 2305843009213693952) = sum (zs.take j) + clamp zs[j] (-2305843009213693952) 2305843009213693952 := IntWalk.wrap64_in _ (by omega)
      have HP := Lib.hid (show sum (zs.take (j + 1)) = clamp (sum (zs.take j) + clamp zs[j] (-2305843009213693952) 2305843009213693952) (-4611686018427387904) 4611686018427387904 from HN.out)
      clear hg HN hb hb1 hb2
      generalize zs[j] = z at hc1 hw HP
      generalize hsj : sum (zs.take j) = sj at hw HP
      have x3 := IntWalk.wrap64_in ((j : Int) + 1) (by omega)
      go_wp2_with (go_at_call 69; refine (rclamp_any _ _ _ _).mono ?_; rintro e w' ⟨rfl, rfl⟩)
      exact ⟨⟨j + 1, rfl, HJ.out, by rw [HP.out], by trivial⟩, vc_less j n hlt⟩
    · have hke : j = n := by omega
      have x0 : ¬ (j : Int) < (n : Int) := by omega
      have x1 : decide ((j : Int) < (n : Int)) = false := decide_eq_false x0
      go_wp2_with (fail)
      refine bodyPost_ret (results_tmp rfl _ _ _) rfl ?_
      exact ⟨ret_i (by rw [List.take_of_length_le (by rw [HZ.out]; omega)]), rfl⟩
set_option maxRecDepth 100000 in
set_option maxHeartbeats 1600000 in
theorem rdot_any (w : World) (A : Option Addr) (n c : Nat) (B : Option Addr) (n' c' : Nat) (zs us : List Int) (hz : zs.length = n) (hu : us.length = n') (hm : n ≤ 1000000) (hm' : n' ≤ 1000000) (hA : KIn .i64 w A zs) (hB : KIn .i64 w B us) :
    Calls Tryz.prog 42 #[.slice A n c, .slice B n' c'] w fun e w' => e = .returned (.int .i64 (dot zs us)) ∧ Below w.heap.size w w' := by
  have HA := Lib.hid hA
  have HB := Lib.hid hB
  have HZ := Lib.hid hz
  have HU := Lib.hid hu
  obtain ⟨i0, hi, hz0, hz1, hz2⟩ := info_parts info_int
  have HI := Lib.hid hi
  have HZ0 := Lib.hid hz0
  have HZ1 := Lib.hid hz1
  have HZ2 := Lib.hid hz2
  clear hA hB hz hu hi hz0 hz1 hz2
  go_enter Tryz.func42, Tryz.ntmps42
  go_wp2_with (refine wpList_buildNone rfl 45 3 rfl i0 Tryz.underlying45 HI.out ?_)
  have HB0 := Lib.hid ((Below.refl w.heap.size w).alloc (Nat.le_refl _) (.cells #[] 3))
  have HO0 := Lib.hid (Own.new w w.heap.size (Nat.le_refl _))
  go_loopw [5, 6] (fun l i wr => ∃ (j : Nat) (G : Option Addr) (q : Nat), i = .int .i64 (j : Int) ∧ j ≤ n ∧ j ≤ n' ∧ l = .slice G j q ∧ Own wr w.heap.size l ((prods zs us).take j) ∧ Below w.heap.size w wr) (fun _ i _ => match i with | .int _ k => n - k.toNat | _ => 0)
  case atStart => exact ⟨0, _, 0, rfl, Nat.zero_le _, Nat.zero_le _, rfl, HO0.out, HB0.out⟩
  case round =>
    clear HB0 HO0
    obtain ⟨j, G, q, rfl, hj, hj', rfl, ho, hb⟩ := hrel
    have HO := Lib.hid ho
    have HBL := Lib.hid hb
    clear ho hb
    have x2 : 0 ≤ (j : Int) := by omega
    by_cases hlt : j < n
    · have x0 : (j : Int) < (n : Int) := by omega
      have x1 : decide ((j : Int) < (n : Int)) = true := decide_eq_true x0
      by_cases hlt' : j < n'
      · have y0 : (j : Int) < (n' : Int) := by omega
        have y1 : decide ((j : Int) < (n' : Int)) = true := decide_eq_true y0
        have HJ := Lib.hid (show j + 1 ≤ n ∧ j + 1 ≤ n' by omega)
        have hlz : j < zs.length := by rw [HZ.out]; exact hlt
        have hlu : j < us.length := by rw [HU.out]; exact hlt'
        obtain ⟨pa, oa, rfl, hc1⟩ := (HA.out.below HBL.out (Nat.le_refl _)).at hlz
        obtain ⟨pb, ob, rfl, hc2⟩ := (HB.out.below HBL.out (Nat.le_refl _)).at hlu
        have hp1 := prod_lo (zs.getD j 0) (us.getD j 0)
        have hp2 := prod_hi (zs.getD j 0) (us.getD j 0)
        have hw1 := IntWalk.wrap64_in (prod (zs.getD j 0) (us.getD j 0)) (by omega)
        have hw2 : IntKind.i64.wrap (prod (zs.getD j 0) (us.getD j 0)) = prod (zs.getD j 0) (us.getD j 0) := IntWalk.i64_in _ (by omega)
        clear hp1 hp2
        have HPN0 := Lib.hid (show (prods zs us).take (j + 1) = (prods zs us).take j ++ [prod (zs.getD j 0) (us.getD j 0)] from by
          have hl : j < (prods zs us).length := by rw [prods_length]; omega
          rw [List.take_succ_eq_append_getElem hl, prods_at zs us j hlz hlu, List.getD_eq_getElem?_getD, List.getD_eq_getElem?_getD, List.getElem?_eq_getElem hlz, List.getElem?_eq_getElem hlu]
          rfl)
        unfold prod at hw1 hw2 HPN0
        generalize zs.getD j 0 = z1 at hc1 hw1 hw2 HPN0
        generalize us.getD j 0 = z2 at hc2 hw1 hw2 HPN0
        go_wp2_with (fail)
        have HPN := Lib.hid (show (prods zs us).take (j + 1) = (prods zs us).take j ++ [clamp z1 (-1073741824) 1073741824 * clamp z2 (-1073741824) 1073741824] from HPN0.out)
        have HOL := Lib.hid (show ((prods zs us).take j).length = j by rw [List.length_take, prods_length, HZ.out, HU.out]; omega)
        generalize (prods zs us).take j = L0 at HPN HOL HO
        clear HPN0
        have k0 : wr.drew.cell? ⟨pa, oa + j, none⟩ = some (.int .i64 z1) ∧ wr.drew.cell? ⟨pb, ob + j, none⟩ = some (.int .i64 z2) := ⟨hc1, hc2⟩
        have hpa : pa < w.heap.size := HA.out.low (Nat.lt_of_le_of_lt (Nat.zero_le _) hlz) _ rfl
        have hpb : pb < w.heap.size := HB.out.low (Nat.lt_of_le_of_lt (Nat.zero_le _) hlu) _ rfl
        have k2 : ∀ (o : Obj) (wz : World), (wr.alloc o).drew.grownBy wz (Value.slice G j q).ownBlock → wz.cell? ⟨pa, oa + j, none⟩ = some (.int .i64 z1) ∧ wz.cell? ⟨pb, ob + j, none⟩ = some (.int .i64 z2) := fun o wz hg => by
          have hbz := (((Below.refl w.heap.size wr).alloc HBL.out.size o).grown (show (wr.alloc o).grownBy wz (Value.slice G j q).ownBlock from ⟨hg.os, hg.tape, hg.output, hg.size, hg.block⟩) (by have := HBL.out.size; simp; omega) (fun i hi => (HO.out.lt i hi).1))
          exact ⟨(hbz.cell (p := ⟨pa, oa + j, none⟩) hpa).trans hc1, (hbz.cell (p := ⟨pb, ob + j, none⟩) hpb).trans hc2⟩
        have k1 : ∀ o : Obj, (wr.alloc o).drew.cell? ⟨pa, oa + j, none⟩ = some (.int .i64 z1) ∧ (wr.alloc o).drew.cell? ⟨pb, ob + j, none⟩ = some (.int .i64 z2) := fun o =>
          ⟨(((Below.refl wr.heap.size wr).alloc (Nat.le_refl _) o).cell (p := ⟨pa, oa + j, none⟩) (block_lt_of_cell hc1)).trans hc1, (((Below.refl wr.heap.size wr).alloc (Nat.le_refl _) o).cell (p := ⟨pb, ob + j, none⟩) (block_lt_of_cell hc2)).trans hc2⟩
        have hown0 : wr.drew.ownsRow w.heap.size 3 1 (.slice G j q) j (icells L0) := by
          have := HO.out
          unfold Own at this
          rw [HOL.out] at this
          exact this
        have HSZ := Lib.hid (HBL.out.size)
        have hm2 : j ≤ 1000000 := by omega
        go_region_held3 (fun W : World => W.cell? ⟨pa, oa + j, none⟩ = some (.int .i64 z1) ∧ W.cell? ⟨pb, ob + j, none⟩ = some (.int .i64 z2)) (first | exact k0 | exact k1 _ | exact k2 _ _ ‹_› | assumption) (first
          | (go_at_call 69; refine (rclamp_any _ _ _ _).mono ?_; rintro e w' ⟨rfl, rfl⟩)
          | ((refine step_append_lies _ (by rfl) _ _ _ (by rfl) w.heap.size 3 i0 _ 1 8 Tryz.underlying45 HI.out HZ0.out HZ1.out HZ2.out rfl (by omega) (.slice G j q) j (icells L0) (by rfl) (hown0.alloc _)
                ⟨wr.heap.size, 0, none⟩ 1 1 [.int .i64 (clamp z1 (-1073741824) 1073741824 * clamp z2 (-1073741824) 1073741824)] (by rfl) (by rfl) (one_src wr.drew _) (one_one _)
                (by omega) (by unfold maxLen; omega) (by omega) (by have := HSZ.out; simp at *; omega) (wr.heap.size + 1) (by simp) ?_; intro gg cap wz hownz hgrow hat hltz)))
        have HON := Lib.hid (show Own wz w.heap.size (.slice (some ⟨gg, 0, none⟩) (j + 1) cap) ((prods zs us).take (j + 1)) from by
          unfold Own
          rw [HPN.out, icells_add, List.length_append, HOL.out, List.length_singleton]
          exact hownz)
        have HBN := Lib.hid ((HBL.out.alloc HBL.out.size (.cells #[.int .i64 (clamp z1 (-1073741824) 1073741824 * clamp z2 (-1073741824) 1073741824)] 3)).grown (show (wr.alloc _).grownBy wz (Value.slice G j q).ownBlock from ⟨hgrow.os, hgrow.tape, hgrow.output, hgrow.size, hgrow.block⟩) (by have := HBL.out.size; simp; omega) (fun i hi => (HO.out.lt i hi).1))
        clear hownz hgrow hat hltz k0 k1 k2 hown0 hc1 hc2 hw1 hw2
        have x3 := IntWalk.wrap64_in ((j : Int) + 1) (by omega)
        go_wp2_with (fail)
        exact ⟨⟨j + 1, _, cap, rfl, HJ.out.1, HJ.out.2, rfl, HON.out, HBN.out⟩, vc_less j n hlt⟩
      · have y0 : ¬ (j : Int) < (n' : Int) := by omega
        have y1 : decide ((j : Int) < (n' : Int)) = false := decide_eq_false y0
        have HT := Lib.hid (show (prods zs us).take j = prods zs us from List.take_of_length_le (by rw [prods_length, HZ.out, HU.out]; omega))
        rw [HT.out] at HO
        have HPL := Lib.hid (show (prods zs us).length = j by rw [prods_length, HZ.out, HU.out]; omega)
        have hj3 : j ≤ 1000000 := by omega
        go_wp2_with (fail)
        refine (rsum_any wr G j q (prods zs us) HPL.out hj3 (Own.kin HO.out)).mono ?_
        rintro e w5 ⟨rfl, rfl⟩
        go_wp2_with (fail)
        refine bodyPost_ret (results_tmp rfl _ _ _) rfl ?_
        exact ⟨rfl, HBL.out⟩
    · have x0 : ¬ (j : Int) < (n : Int) := by omega
      have x1 : decide ((j : Int) < (n : Int)) = false := decide_eq_false x0
      have HT := Lib.hid (show (prods zs us).take j = prods zs us from List.take_of_length_le (by rw [prods_length, HZ.out, HU.out]; omega))
      rw [HT.out] at HO
      have HPL := Lib.hid (show (prods zs us).length = j by rw [prods_length, HZ.out, HU.out]; omega)
      have hj3 : j ≤ 1000000 := by omega
      go_wp2_with (fail)
      refine (rsum_any wr G j q (prods zs us) HPL.out hj3 (Own.kin HO.out)).mono ?_
      rintro e w5 ⟨rfl, rfl⟩
      go_wp2_with (fail)
      refine bodyPost_ret (results_tmp rfl _ _ _) rfl ?_
      exact ⟨rfl, HBL.out⟩
end Go.Proofs.YtkdkeokldcehhaaGreatDoor
namespace Go.Proofs.YtkdkeokldcehhaaGreatDoor
open Go.ChangeShapes Go.WideShapes Go.ChangeAt Go.RowKit Nm Vc

section
variable (w : World) (p q : Int) (V : Option Addr) (m cv : Nat) (zs : List Int)
set_option maxRecDepth 100000 in
set_option maxHeartbeats 1600000 in
theorem vecs_scale_new (hz : zs.length = m) (hm : m ≤ 4096) (hV : KIn .i64 w V zs) :
    Calls Tryz.prog 88 #[.slice V m cv, .int .i64 p, .int .i64 q] w (RowSaysN w (fun v => v) (scaleL zs p q)) := by
  have HV := Lib.hid hV
  obtain ⟨i0, hi, hz0, hz1, hz2⟩ := info_parts info_int
  have HI := Lib.hid hi
  have HZ0 := Lib.hid hz0
  have HZ1 := Lib.hid hz1
  have HZ2 := Lib.hid hz2
  have HZL := Lib.hid hz
  have HLR := Lib.hid (scaleL_length zs p q)
  have HAT := Lib.hid (scaleL_at zs p q)
  rw [hz] at HLR HAT
  clear hi hz0 hz1 hz2 hV hz
  generalize scaleL zs p q = R at HLR HAT ⊢
  go_enter Tryz.func88, Tryz.ntmps88
  go_wp2_with (at_make; refine wpList_make_row _ rfl _ _ 45 rfl 3 i0 (.int .i64 0) Tryz.underlying45 HI.out HZ0.out HZ1.out rfl .i64 .i64 m rfl rfl (by rw [HZ2.out]; omega) (by omega) ?_)
  have HR0 := Lib.hid (show (w.alloc (.cells (madeCells #[.int .i64 0] m) 3)).rowIs w.heap.size 3 m (prt .i64 R 0) from (World.rowIs_made w (.int .i64 0) m 3).congr fun i _ => by rw [prt_none])
  have HB0 := Lib.hid ((Below.refl w.heap.size w).alloc (Nat.le_refl _) (.cells (madeCells #[.int .i64 0] m) 3))
  go_loopw [15] (fun i wr => ∃ j : Nat, i = .int .i64 (j : Int) ∧ j ≤ m ∧ wr.rowIs w.heap.size 3 m (prt .i64 R j) ∧ Below w.heap.size w wr) (fun i _ => match i with | .int _ k => m - k.toNat | _ => 0)
  case atStart => exact ⟨0, rfl, Nat.zero_le _, HR0.out, HB0.out⟩
  case round =>
    clear HR0 HB0
    obtain ⟨j, rfl, hj, hr, hb⟩ := hrel
    have HR := Lib.hid hr
    have HB := Lib.hid hb
    clear hr hb
    have x2 : 0 ≤ (j : Int) := by omega
    by_cases hlt : j < m
    · have x0 : (j : Int) < (m : Int) := by omega
      have x1 : decide ((j : Int) < (m : Int)) = true := decide_eq_true x0
      have HJ := Lib.hid (show j + 1 ≤ m by omega)
      have HXJ := Lib.hid (HAT.out j hlt)
      obtain ⟨pb, po, rfl, hcell⟩ := (HV.out.below HB.out (Nat.le_refl _)).at (show j < zs.length by rw [HZL.out]; exact hlt)
      generalize zs.getD j 0 = z at hcell HXJ
      go_wp2_with (fail)
      refine (mul_any z p q wr).mono ?_
      rintro e w2 ⟨rfl, d, rfl⟩
      rw [← HXJ.out]
      have HB4 := Lib.hid (below_drewN HB.out d)
      have HR4 : Hid ((wr.drewN d).rowIs w.heap.size 3 m (prt .i64 R j)) := HR
      clear HB HR hcell
      generalize wr.drewN d = w7 at HB4 HR4 ⊢
      have f1 := HR4.out.frozen j
      have c1 := HR4.out.cell hlt
      have HP := Lib.hid (prt_set HR4.out (rfl : R.getD j 0 = R.getD j 0))
      have HBS := Lib.hid (HB4.out.setCell (p := ⟨w.heap.size, j, none⟩) (Nat.le_refl _) (.int .i64 (R.getD j 0)))
      have x3 := IntWalk.wrap64_in ((j : Int) + 1) (by omega)
      generalize R.getD j 0 = z at HP HBS ⊢
      go_wp2_with (fail)
      exact ⟨⟨j + 1, rfl, HJ.out, HP.out, HBS.out⟩, vc_less j m hlt⟩
    · have hke : j = m := by omega
      have x0 : ¬ (j : Int) < (m : Int) := by omega
      have x1 : decide ((j : Int) < (m : Int)) = false := decide_eq_false x0
      go_wp2_with (fail)
      refine bodyPost_ret (results_tmp rfl _ _ _) rfl ?_
      refine ⟨some ⟨w.heap.size, 0, none⟩, m, ?_, KIn.row (HR.out.congr fun i hi => by rw [hke]; exact prt_all _ _ _ _ hi) (Nat.le_of_eq HLR.out), Nat.le_of_eq HLR.out, fun a ha => by injection ha with ha; rw [← ha]; exact Nat.le_refl _, HB.out⟩
      rw [HLR.out]
      rfl
theorem vecs_scale (hz : zs.length = m) (hm : m ≤ 4096) (hV : KIn .i64 w V zs) :
    Calls Tryz.prog 88 #[.slice V m cv, .int .i64 p, .int .i64 q] w (RowSays w (fun v => v) (scaleL zs p q)) := (vecs_scale_new w p q V m cv zs hz hm hV).mono fun _ _ h => h.cap.says
end
end Go.Proofs.YtkdkeokldcehhaaGreatDoor
namespace Go.Proofs.YtkdkeokldcehhaaGreatDoor
open Go.ChangeShapes Go.WideShapes Go.ChangeAt Go.RowKit Nm Vc

theorem take_more (R : List Int) (j : Nat) (h : j < R.length) : R.take (j + 1) = R.take j ++ [R.getD j 0] := by
  rw [List.take_succ_eq_append_getElem h, List.getD_eq_getElem?_getD, List.getElem?_eq_getElem h]
  rfl
end Go.Proofs.YtkdkeokldcehhaaGreatDoor
namespace Go.Proofs.YtkdkeokldcehhaaGreatDoor
open Go.ChangeShapes Go.WideShapes Go.ChangeAt Go.RowKit Nm Vc

theorem app_small {k n : Nat} (h : k + 1 ≤ n) (hn : n ≤ 4096) : k + 1 ≤ maxLen ∧ (k + 1) * 8 ≤ 140737488355328 := by unfold maxLen; omega
theorem base_le {B : Nat} {w0 w : World} (h : Below B w0 w) (hB : w0.heap.size = B) (o : Obj) : B ≤ (w.alloc o).heap.size := by have := h.size; simp; omega
theorem idx_lt {j x k y n : Nat} (hj : j < x) (hk : k < y) (hn : n = x * y) (hx : x ≤ 64) (hy : y ≤ 64) : j * y + k < n ∧ n ≤ 4096 := by
  have h1 : (j + 1) * y ≤ x * y := Nat.mul_le_mul_right _ hj
  have h2 : x * y ≤ 64 * 64 := Nat.mul_le_mul hx hy
  rw [Nat.succ_mul] at h1
  omega
end Go.Proofs.YtkdkeokldcehhaaGreatDoor
namespace Go.Proofs.YtkdkeokldcehhaaGreatDoor
open Go.ChangeShapes Go.WideShapes Go.ChangeAt Go.RowKit Nm Vc

section
variable (w : World) (A : Option Addr) (c : Nat) (B : Nat → Option Addr) (C : Nat → Nat) (L : List (List Int)) (n : Nat)
set_option maxRecDepth 100000 in
set_option maxHeartbeats 800000 in
theorem ref11_plus_none : Calls Tryz.prog 73 #[.slice A 0 c] w (RowSays w (fun v => .tuple #[v, .bool true]) []) := by
  obtain ⟨i0, hi, hz0, hz1, hz2⟩ := info_parts info_int
  have HI := Lib.hid hi
  have HB0 := Lib.hid ((Below.refl w.heap.size w).alloc (Nat.le_refl _) (.cells #[] 3))
  clear hi hz0 hz1 hz2
  go_enter Tryz.func73, Tryz.ntmps73
  go_wp2_with (refine wpList_buildNone rfl 45 3 rfl i0 Tryz.underlying45 HI.out ?_)
  go_loopw [5] (fun i wr => i = .int .i64 0 ∧ Below w.heap.size w wr) (fun _ _ => 0)
  case atStart => exact ⟨rfl, HB0.out⟩
  case round =>
    clear HB0
    obtain ⟨rfl, hb⟩ := hrel
    have HB := Lib.hid hb
    clear hb
    go_wp2_with (fail)
    go_loopw [4, 6] (fun l i wr => l = .slice (some ⟨w.heap.size, 0, none⟩) 0 0 ∧ i = .int .i64 0 ∧ Below w.heap.size w wr) (fun _ _ _ => 0)
    case atStart => exact ⟨rfl, rfl, HB.out⟩
    case round =>
      clear HB
      obtain ⟨rfl, rfl, hb⟩ := hrel
      have HB := Lib.hid hb
      clear hb
      go_wp2_with (fail)
      refine bodyPost_ret (results_tmp2 rfl _ _ _) rfl ?_
      exact ⟨_, _, rfl, KIn.nil _ _ _, HB.out⟩
set_option maxRecDepth 100000 in
set_option maxHeartbeats 1600000 in
theorem ref11_plus_not (hn : L.length = n) (h0 : 0 < n) (hm : n ≤ 4096) (hA : LIn w A B C L) (h : ¬ evenTo L n) :
    Calls Tryz.prog 73 #[.slice A n c] w fun e w' => e = .returned (.tuple #[.slice none 0 0, .bool false]) ∧ Below w.heap.size w w' := by
  have HA := Lib.hid hA
  have HN := Lib.hid hn
  have HE := Lib.hid h
  obtain ⟨pa, oa, rfl, hc0, _⟩ := hA.at (show 0 < L.length by omega)
  rw [Nat.add_zero] at hc0
  have HC0 := Lib.hid hc0
  have t0 : ((n : Int) == 0) = false := beq_eq_false_iff_ne.2 (by omega)
  have t1 : 0 < (n : Int) := by omega
  generalize hs : (L.getD 0 []).length = s at HC0
  have HSS := Lib.hid hs
  have HB0 := Lib.hid ((Below.refl w.heap.size w).alloc (Nat.le_refl _) (.cells #[] 3))
  obtain ⟨i0, hi, hz0, hz1, hz2⟩ := info_parts info_int
  have HI := Lib.hid hi
  clear hA hn h hs hc0 hi hz0 hz1 hz2
  go_enter Tryz.func73, Tryz.ntmps73
  go_wp2_with (refine wpList_buildNone rfl 45 3 rfl i0 Tryz.underlying45 HI.out ?_)
  go_loopw [5] (fun i wr => ∃ j : Nat, i = .int .i64 (j : Int) ∧ j ≤ n ∧ Below w.heap.size w wr ∧ evenTo L j) (fun i _ => match i with | .int _ k => n - k.toNat | _ => 0)
  case atStart => exact ⟨0, rfl, Nat.zero_le _, HB0.out, fun i hi => absurd hi (by omega)⟩
  case round =>
    clear HB0
    obtain ⟨j, rfl, hj, hb, he⟩ := hrel
    have HEJ := Lib.hid he
    have HB := Lib.hid hb
    clear he hb
    have x2 : 0 ≤ (j : Int) := by omega
    by_cases hlt : j < n
    · have x0 : (j : Int) < (n : Int) := by omega
      have x1 : decide ((j : Int) < (n : Int)) = true := decide_eq_true x0
      have HJ := Lib.hid (show j + 1 ≤ n by omega)
      obtain ⟨pb, po, e, hcell, _⟩ := (HA.out.below HB.out (Nat.le_refl _)).at (show j < L.length by rw [HN.out]; exact hlt)
      injection e with e
      injection e with e1 e2 _
      subst e1 e2
      have d0 := (HB.out.cell (p := ⟨pa, oa, none⟩) (block_lt_of_cell HC0.out)).trans HC0.out
      by_cases hq : (L.getD j []).length = s
      · have t2 : (((L.getD j []).length : Int) == (s : Int)) = true := by rw [hq]; exact beq_self_eq_true _
        have HEN := Lib.hid (show evenTo L (j + 1) from fun i hi => by
          by_cases h : i = j
          · rw [h, hq, HSS.out]
          · exact HEJ.out i (by omega))
        clear hq
        generalize (L.getD j []).length = l at hcell t2
        have x3 := IntWalk.wrap64_in ((j : Int) + 1) (by omega)
        go_wp2_with (fail)
        go_quiet (fail)
        go_wp2_with (fail)
        exact ⟨⟨j + 1, rfl, HJ.out, below_drewN HB.out _, HEN.out⟩, vc_less j n hlt⟩
      · have t2 : (((L.getD j []).length : Int) == (s : Int)) = false := beq_eq_false_iff_ne.2 (by omega)
        clear hq
        generalize (L.getD j []).length = l at hcell t2
        go_wp2_with (fail)
        go_quiet (fail)
        go_wp2_with (fail)
        refine bodyPost_ret (results_tmp2 rfl _ _ _) rfl ?_
        exact ⟨rfl, below_drewN HB.out _⟩
    · have hke : j = n := by omega
      rw [hke] at HEJ
      exact absurd HEJ.out HE.out
set_option maxRecDepth 100000 in
set_option maxHeartbeats 3200000 in
theorem ref11_plus (s : Nat) (hs : (L.getD 0 []).length = s) (hn : L.length = n) (h0 : 0 < n) (hm : n ≤ 4096) (hs2 : s ≤ 4096) (hA : LIn w A B C L) (h : evenTo L n) :
    Calls Tryz.prog 73 #[.slice A n c] w (RowSaysN w (fun v => .tuple #[v, .bool true]) (plusL L s)) := by
  have HA := Lib.hid hA
  have HN := Lib.hid hn
  have HE := Lib.hid (show ∀ i, i < n → (L.getD i []).length = s from fun i hi => (h i hi).trans hs)
  obtain ⟨pa, oa, rfl, hc0, _⟩ := hA.at (show 0 < L.length by omega)
  rw [Nat.add_zero, hs] at hc0
  have HC0 := Lib.hid hc0
  have t0 : ((n : Int) == 0) = false := beq_eq_false_iff_ne.2 (by omega)
  have t1 : 0 < (n : Int) := by omega
  have t2 : ((s : Int) == (s : Int)) = true := beq_self_eq_true _
  have t3 : decide (0 < (n : Int)) = true := decide_eq_true t1
  obtain ⟨i0, hi, hz0, hz1, hz2⟩ := info_parts info_int
  have HI := Lib.hid hi
  have HZ0 := Lib.hid hz0
  have HZ1 := Lib.hid hz1
  have HZ2 := Lib.hid hz2
  have HLR := Lib.hid (plusL_length L s)
  have HAT := Lib.hid (plusL_at L s)
  have HPL := Lib.hid (fun k => (placeL_length L k).trans hn)
  have HPA := Lib.hid (fun k i (h : i < n) => placeL_at L k i (by omega))
  have HB0 := Lib.hid ((Below.refl w.heap.size w).alloc (Nat.le_refl _) (.cells #[] 3))
  have HO0 := Lib.hid (Own.new w w.heap.size (Nat.le_refl _))
  clear hi hz0 hz1 hz2 hA hn h hs hc0
  generalize plusL L s = R at HLR HAT ⊢
  generalize hpl : placeL L = P at HAT HPL HPA
  clear hpl
  go_enter Tryz.func73, Tryz.ntmps73
  go_wp2_with (refine wpList_buildNone rfl 45 3 rfl i0 Tryz.underlying45 HI.out ?_)
  generalize w.alloc (.cells #[] 3) = w1 at HB0 HO0 ⊢
  go_loopw [5] (fun i wr => ∃ j d : Nat, i = .int .i64 (j : Int) ∧ j ≤ n ∧ wr = w1.drewN d) (fun i _ => match i with | .int _ k => n - k.toNat | _ => 0)
  case atStart => exact ⟨0, 0, rfl, Nat.zero_le _, rfl⟩
  case round =>
    obtain ⟨j, d, rfl, hj, rfl⟩ := hrel
    have x2 : 0 ≤ (j : Int) := by omega
    by_cases hlt : j < n
    · have x0 : (j : Int) < (n : Int) := by omega
      have x1 : decide ((j : Int) < (n : Int)) = true := decide_eq_true x0
      have HJ := Lib.hid (show j + 1 ≤ n by omega)
      obtain ⟨pb, po, e, hcell, _⟩ := (HA.out.below HB0.out (Nat.le_refl _)).at (show j < L.length by rw [HN.out]; exact hlt)
      injection e with e
      injection e with e1 e2 _
      subst e1 e2
      rw [HE.out j hlt] at hcell
      have d0 := (HB0.out.cell (p := ⟨pa, oa, none⟩) (block_lt_of_cell HC0.out)).trans HC0.out
      have x3 := IntWalk.wrap64_in ((j : Int) + 1) (by omega)
      go_wp2_with (fail)
      go_quiet (fail)
      go_wp2_with (fail)
      exact ⟨⟨j + 1, _, rfl, HJ.out, rfl⟩, vc_less j n hlt⟩
    · have hke : j = n := by omega
      have x0 : ¬ (j : Int) < (n : Int) := by omega
      have x1 : decide ((j : Int) < (n : Int)) = false := decide_eq_false x0
      clear hke
      go_wp2_with (fail)
      have HB1 := Lib.hid (below_drewN HB0.out d)
      have HO1 : Hid (Own (w1.drewN d) w.heap.size (.slice (some ⟨w.heap.size, 0, none⟩) 0 0) []) := HO0
      clear HB0 HO0 x0 x1 hlt hj x2
      go_loopw [4, 6] (fun l i wr => ∃ (k : Nat) (G : Option Addr) (q : Nat), i = .int .i64 (k : Int) ∧ k ≤ s ∧ l = .slice G k q ∧ Own wr w.heap.size l (R.take k) ∧ Below w.heap.size w wr) (fun _ i _ => match i with | .int _ k => s - k.toNat | _ => 0)
      case atStart => exact ⟨0, _, 0, rfl, Nat.zero_le _, rfl, HO1.out, HB1.out⟩
      case round =>
        clear HB1 HO1
        obtain ⟨k, G, cg, rfl, hk, rfl, ho, hb⟩ := hrel
        have HO := Lib.hid ho
        have HB := Lib.hid hb
        clear ho hb
        have y2 : 0 ≤ (k : Int) := by omega
        have d0 := (HB.out.cell (p := ⟨pa, oa, none⟩) (block_lt_of_cell HC0.out)).trans HC0.out
        by_cases hks : k < s
        · have y0 : (k : Int) < (s : Int) := by omega
          have y1 : decide ((k : Int) < (s : Int)) = true := decide_eq_true y0
          have HJ := Lib.hid (show k + 1 ≤ s by omega)
          have HMJ := Lib.hid (app_small HJ.out hs2)
          have HRN := Lib.hid (take_more R k (by rw [HLR.out]; exact hks))
          have HXJ := Lib.hid (HAT.out k hks)
          have HOL := Lib.hid (show (R.take k).length = k by rw [List.length_take, HLR.out]; omega)
          generalize wr = wo at HO HB d0 ⊢
          go_wp2_with (refine wpList_buildNone rfl 45 3 rfl i0 Tryz.underlying45 HI.out ?_)
          have HC0' := Lib.hid ((Below.refl wo.heap.size wo).alloc (Nat.le_refl _) (.cells #[] 3))
          have HQ0 := Lib.hid (Own.new wo wo.heap.size (Nat.le_refl _))
          clear d0
          go_loopw [7, 8] (fun l i wr => ∃ (q : Nat) (G : Option Addr) (c : Nat), i = .int .i64 (q : Int) ∧ q ≤ n ∧ l = .slice G q c ∧ Own wr wo.heap.size l ((P k).take q) ∧ Below wo.heap.size wo wr) (fun _ i _ => match i with | .int _ k => n - k.toNat | _ => 0)
          case atStart => exact ⟨0, _, 0, rfl, Nat.zero_le _, rfl, HQ0.out, HC0'.out⟩
          case round =>
            clear HQ0 HC0'
            obtain ⟨q, F, cf, rfl, hq, rfl, ho, hb⟩ := hrel
            have HQ := Lib.hid ho
            have HC := Lib.hid hb
            clear ho hb
            have z2 : 0 ≤ (q : Int) := by omega
            by_cases hqn : q < n
            · have z0 : (q : Int) < (n : Int) := by omega
              have z1 : decide ((q : Int) < (n : Int)) = true := decide_eq_true z0
              have HK := Lib.hid (show q + 1 ≤ n by omega)
              have HM := Lib.hid (app_small HK.out hm)
              have hW := (HA.out.below HB.out (Nat.le_refl _)).below HC.out (Nat.le_refl _)
              obtain ⟨pb, po, e, hcell, hkin⟩ := hW.at (show q < L.length by rw [HN.out]; exact hqn)
              injection e with e
              injection e with e1 e2 _
              subst e1 e2
              obtain ⟨vb, vo, eb, hcell2⟩ := hkin.at (show k < (L.getD q []).length by rw [HE.out q hqn]; exact hks)
              rw [HE.out q hqn, eb] at hcell
              rw [← HPA.out k q hqn] at hcell2
              have HKN := Lib.hid (take_more (P k) q (by rw [HPL.out k]; exact hqn))
              have HOK := Lib.hid (show ((P k).take q).length = q by rw [List.length_take, HPL.out k]; omega)
              have HW0 := Lib.hid (Own.at HQ.out HOK.out)
              clear hkin eb hW
              generalize (P k).getD q 0 = z at hcell2 HKN
              have z3 := IntWalk.wrap64_in ((q : Int) + 1) (by omega)
              go_wp2_with (at_builtin; refine wpList_append_lies _ rfl (.tmp 46) (.tmp 54) 45 rfl wo.heap.size 3 i0 _ 1 8 Tryz.underlying45 HI.out HZ0.out HZ1.out HZ2.out rfl Nat.one_pos (.slice F q cf) q _ rfl (HW0.out.alloc _) ⟨wr.heap.size, 0, none⟩ 1 1 [.int .i64 z] rfl rfl (one_src wr z) (one_one z) Nat.one_pos HM.out.1 HM.out.2 (base_le HC.out rfl _) _ rfl ?_; intro gg cap wz hownz hgrow hat hltz)
              have HON := Lib.hid (Own.grew HOK.out hownz)
              have HBN := Lib.hid (below_grew HC.out rfl HQ.out _ hgrow)
              rw [← HKN.out] at HON
              clear hownz hgrow hat hltz hcell hcell2
              go_wp2_with (fail)
              exact ⟨⟨q + 1, _, cap, rfl, HK.out, rfl, HON.out, HBN.out⟩, vc_less q n hqn⟩
            · have hqe : q = n := by omega
              have z0 : ¬ (q : Int) < (n : Int) := by omega
              have z1 : decide ((q : Int) < (n : Int)) = false := decide_eq_false z0
              have HT := Lib.hid (show (P k).take q = P k from List.take_of_length_le (by rw [HPL.out k]; omega))
              rw [HT.out] at HQ
              have HB2 := Lib.hid (HB.out.trans (HC.out.mono HB.out.size))
              have HO2 := Lib.hid (HO.out.below HC.out (Nat.le_refl _))
              have hn3 : n ≤ 1000000 := by omega
              clear HO HB HC
              subst hqe
              go_wp2_with (fail)
              refine (rsum_any wr F q cf (P k) (HPL.out k) hn3 (Own.kin HQ.out)).mono ?_
              rintro e w4 ⟨rfl, rfl⟩
              go_wp2_with (fail)
              refine (rsat_any _ _).mono ?_
              rintro e w6 ⟨rfl, rfl⟩
              rw [← HXJ.out]
              have HW4 := Lib.hid (Own.at HO2.out HOL.out)
              generalize R.getD k 0 = z at HRN ⊢
              go_wp2_with (at_builtin; refine wpList_append_lies _ rfl (.tmp 56) (.tmp 60) 45 rfl w.heap.size 3 i0 _ 1 8 Tryz.underlying45 HI.out HZ0.out HZ1.out HZ2.out rfl Nat.one_pos (.slice G k cg) k _ rfl (HW4.out.alloc _) ⟨wr.heap.size, 0, none⟩ 1 1 [.int .i64 z] rfl rfl (one_src wr z) (one_one z) Nat.one_pos HMJ.out.1 HMJ.out.2 (base_le HB2.out rfl _) _ rfl ?_; intro gg cap wz hownz hgrow hat hltz)
              have HON := Lib.hid (Own.grew HOL.out hownz)
              have HBN := Lib.hid (below_grew HB2.out rfl HO2.out _ hgrow)
              rw [← HRN.out] at HON
              clear hownz hgrow hat hltz
              have x3 := IntWalk.wrap64_in ((k : Int) + 1) (by omega)
              go_wp2_with (fail)
              exact ⟨⟨k + 1, _, cap, rfl, HJ.out, rfl, HON.out, HBN.out⟩, vc_less k s hks⟩
        · have hke : k = s := by omega
          have y0 : ¬ (k : Int) < (s : Int) := by omega
          have y1 : decide ((k : Int) < (s : Int)) = false := decide_eq_false y0
          have HT := Lib.hid (show R.take k = R from List.take_of_length_le (by rw [HLR.out]; omega))
          rw [HT.out] at HO
          go_wp2_with (fail)
          refine bodyPost_ret (results_tmp2 rfl _ _ _) rfl ?_
          refine ⟨G, cg, ?_, Own.kin HO.out, by rw [HLR.out]; have := own_capR HO.out; omega, own_newR HO.out, HB.out⟩
          rw [HLR.out]
          rfl
end
end Go.Proofs.YtkdkeokldcehhaaGreatDoor
