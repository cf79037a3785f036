/-
  The document's Sum and Dot of layer 1. Conditions: the rows' numbers are there.
-/
import Derived.Test.YtclobdeaocjnoaaVc7
import Derived.Test.YtclobdeaocjnoaaRef01
import Derived.Test.YtclobdeaocjnoaaBuildNone
import Derived.Lib.AppendStr
import Derived.OwnWalk
import Derived.Laws.OwnMore
import Derived.Deep.AppendLies
import Derived.Deep.RegionHeld3
namespace Go.Proofs.Ytclobdeaocjnoaa
open Go.ChangeShapes Go.WideShapes Go.ChangeAt Go.RowKit Nm Vc

namespace Vc
/-- A row of numbers that one owns. -/
def icells (l : List Int) : List Value := l.map fun z => .int .i64 z
theorem icells_length (l : List Int) : (icells l).length = l.length := by simp [icells]
theorem icells_add (l : List Int) (z : Int) : icells (l ++ [z]) = icells l ++ [.int .i64 z] := by simp [icells]
theorem icells_at (l : List Int) (j : Nat) (h : j < l.length) : (icells l)[j]? = some (.int .i64 (l.getD j 0)) := by simp [icells, h]
theorem one_src (w : World) (c : Int) : ∀ j u, ([.int .i64 c] : List Value)[j]? = some u → (w.alloc (.cells #[.int .i64 c] 3)).cell? ((⟨w.heap.size, 0, none⟩ : Addr).add j) = some u := fun j u hj => by
  rw [Addr.add_lit, Nat.zero_add, cell_of_row _ _ _ _ _ _ (heap_alloc_new w _), ← hj]
  exact List.getElem?_toArray
theorem one_one (c : Int) : ∀ u ∈ ([.int .i64 c] : List Value), u.oneCell' = true := fun u hu => by
  obtain rfl := List.mem_singleton.1 hu
  rfl
/-- One's own row of the numbers zs, of the blocks from base on. -/
def Own (w : World) (base : Nat) (v : Value) (zs : List Int) : Prop := w.ownsRow base 3 1 v zs.length (icells zs)
theorem Own.below {w w' : World} {B base : Nat} {v : Value} {zs : List Int} (h : Own w base v zs) (hb : Below B w w') (hB : w.heap.size ≤ B) : Own w' base v zs := by
  refine ⟨h.1, ?_⟩
  rcases h.2 with hn | ⟨g, cap, cur, hv, h1, hg, r⟩
  · exact .inl hn
  · exact .inr ⟨g, cap, cur, hv, h1, (hb.block g (by have := (Array.getElem?_eq_some_iff.1 hg).1; omega)).trans hg, r⟩
theorem Own.slice {w : World} {base : Nat} {v : Value} {zs : List Int} (h : Own w base v zs) : ∃ A cap, v = .slice A zs.length cap := by
  rcases h.2 with ⟨hn, h0⟩ | ⟨g, cap, cur, rfl, hb, _⟩
  · exact ⟨none, 0, by rw [hn, h0]⟩
  · exact ⟨_, cap, rfl⟩
theorem Own.new (w : World) (base : Nat) (hb : base ≤ w.heap.size) : Own (w.alloc (.cells #[] 3)) base (.slice (some ⟨w.heap.size, 0, none⟩) 0 0) [] := World.ownsRow_made w #[] 0 hb (Nat.zero_le _) rfl
theorem Own.kin {w : World} {base : Nat} {A : Option Addr} {n c : Nat} {zs : List Int} (h : Own w base (.slice A n c) zs) : KIn .i64 w A zs := fun h0 => by
  rcases h.2 with ⟨_, he⟩ | ⟨g, cap, cur, hv, _⟩
  · omega
  · injection hv with hv1 hv2 hv3
    subst hv1
    refine ⟨g, 0, rfl, fun i hi => ?_⟩
    have := h.cells (g := g) rfl i (.int .i64 (zs.getD i 0)) (icells_at zs i hi)
    rwa [Addr.add_lit] at this
theorem Own.grew {wz : World} {base j gg cap : Nat} {L : List Int} {z : Int} (hL : L.length = j) (h : wz.ownsRow base 3 1 (.slice (some ⟨gg, 0, none⟩) (j + 1) cap) (j + 1) (icells L ++ [.int .i64 z])) : Own wz base (.slice (some ⟨gg, 0, none⟩) (j + 1) cap) (L ++ [z]) := by
  unfold Own
  rw [icells_add, List.length_append, hL, List.length_singleton]
  exact h
theorem Own.at {w : World} {base j : Nat} {v : Value} {L : List Int} (h : Own w base v L) (hL : L.length = j) : w.ownsRow base 3 1 v j (icells L) := by
  unfold Own at h
  rw [hL] at h
  exact h
theorem below_grew {w0 w wz : World} {B : Nat} {v : Value} {L : List Int} (hb : Below B w0 w) (hB : w0.heap.size = B) (ho : Own w B v L) (o : Obj) (hg : (w.alloc o).grownBy wz v.ownBlock) : Below B w0 wz :=
  (hb.alloc (by have := hb.size; omega) o).grown hg (by have := hb.size; simp; omega) (fun i hi => (ho.lt i hi).1)
end Vc
set_option maxRecDepth 100000 in
set_option maxHeartbeats 800000 in
theorem rsum_any (w : World) (A : Option Addr) (n c : Nat) (zs : List Int) (hz : zs.length = n) (hm : n ≤ 1000000) (hA : KIn .i64 w A zs) :
    Calls Try.prog 29 #[.slice A n c] w fun e w' => e = .returned (.int .i64 (sum zs)) ∧ w = w' := by
  have HA := Lib.hid hA
  have HZ := Lib.hid hz
  clear hA hz
  go_enter Try.func29, Try.ntmps29
  go_wp2_with (fail)
  go_loopw [3, 4] (fun s i wr => ∃ j : Nat, i = .int .i64 (j : Int) ∧ j ≤ n ∧ s = .int .i64 (sum (zs.take j)) ∧ w = wr) (fun _ i _ => match i with | .int _ k => n - k.toNat | _ => 0)
  case atStart => exact ⟨0, rfl, Nat.zero_le _, rfl, rfl⟩
  case round =>
    obtain ⟨j, rfl, hj, rfl, rfl⟩ := hrel
    have x2 : 0 ≤ (j : Int) := by omega
    by_cases hlt : j < n
    · have x0 : (j : Int) < (n : Int) := by omega
      have x1 : decide ((j : Int) < (n : Int)) = true := decide_eq_true x0
      have HJ := Lib.hid (show j + 1 ≤ n by omega)
      have hlz : j < zs.length := by rw [HZ.out]; exact hlt
      obtain ⟨pa, oa, rfl, hc1⟩ := HA.out.at hlz
      have HN := Lib.hid (sum_next zs j hlz)
      have hg : zs.getD j 0 = zs[j] := by rw [List.getD_eq_getElem?_getD, List.getElem?_eq_getElem hlz]; rfl
      rw [hg] at hc1
      have hb := sum_in (zs.take j)
      have hb1 := clamp_lo zs[j] (-2305843009213693952) 2305843009213693952 (by omega)
      have hb2 := clamp_hi zs[j] (-2305843009213693952) 2305843009213693952 (by omega)
      have hw : wrap64 (sum (zs.take j) + clamp zs[j] (-2305843009213693952) 2305843009213693952) = sum (zs.take j) + clamp zs[j] (-2305843009213693952) 2305843009213693952 := IntWalk.wrap64_in _ (by omega)
      have HP := Lib.hid (show sum (zs.take (j + 1)) = clamp (sum (zs.take j) + clamp zs[j] (-2305843009213693952) 2305843009213693952) (-4611686018427387904) 4611686018427387904 from HN.out)
      clear hg HN hb hb1 hb2
      generalize zs[j] = z at hc1 hw HP
      generalize hsj : sum (zs.take j) = sj at hw HP
      have x3 := IntWalk.wrap64_in ((j : Int) + 1) (by omega)
      go_wp2_with (go_at_call 33; refine (rclamp_any _ _ _ _).mono ?_; rintro e w' ⟨rfl, rfl⟩)
      exact ⟨⟨j + 1, rfl, HJ.out, by rw [HP.out], by trivial⟩, vc_less j n hlt⟩
    · have hke : j = n := by omega
      have x0 : ¬ (j : Int) < (n : Int) := by omega
      have x1 : decide ((j : Int) < (n : Int)) = false := decide_eq_false x0
      go_wp2_with (fail)
      refine bodyPost_ret (results_tmp rfl _ _ _) rfl ?_
      exact ⟨ret_i (by rw [List.take_of_length_le (by rw [HZ.out]; omega)]), rfl⟩
set_option maxRecDepth 100000 in
set_option maxHeartbeats 1600000 in
theorem rdot_any (w : World) (A : Option Addr) (n c : Nat) (B : Option Addr) (n' c' : Nat) (zs us : List Int) (hz : zs.length = n) (hu : us.length = n') (hm : n ≤ 1000000) (hm' : n' ≤ 1000000) (hA : KIn .i64 w A zs) (hB : KIn .i64 w B us) :
    Calls Try.prog 25 #[.slice A n c, .slice B n' c'] w fun e w' => e = .returned (.int .i64 (dot zs us)) ∧ Below w.heap.size w w' := by
  have HA := Lib.hid hA
  have HB := Lib.hid hB
  have HZ := Lib.hid hz
  have HU := Lib.hid hu
  obtain ⟨i0, hi, hz0, hz1, hz2⟩ := info_parts info_int
  have HI := Lib.hid hi
  have HZ0 := Lib.hid hz0
  have HZ1 := Lib.hid hz1
  have HZ2 := Lib.hid hz2
  clear hA hB hz hu hi hz0 hz1 hz2
  go_enter Try.func25, Try.ntmps25
  go_wp2_with (refine wpList_buildNone rfl 30 3 rfl i0 Try.underlying30 HI.out ?_)
  have HB0 := Lib.hid ((Below.refl w.heap.size w).alloc (Nat.le_refl _) (.cells #[] 3))
  have HO0 := Lib.hid (Own.new w w.heap.size (Nat.le_refl _))
  go_loopw [5, 6] (fun l i wr => ∃ (j : Nat) (G : Option Addr) (q : Nat), i = .int .i64 (j : Int) ∧ j ≤ n ∧ j ≤ n' ∧ l = .slice G j q ∧ Own wr w.heap.size l ((prods zs us).take j) ∧ Below w.heap.size w wr) (fun _ i _ => match i with | .int _ k => n - k.toNat | _ => 0)
  case atStart => exact ⟨0, _, 0, rfl, Nat.zero_le _, Nat.zero_le _, rfl, HO0.out, HB0.out⟩
  case round =>
    clear HB0 HO0
    obtain ⟨j, G, q, rfl, hj, hj', rfl, ho, hb⟩ := hrel
    have HO := Lib.hid ho
    have HBL := Lib.hid hb
    clear ho hb
    have x2 : 0 ≤ (j : Int) := by omega
    by_cases hlt : j < n
    · have x0 : (j : Int) < (n : Int) := by omega
      have x1 : decide ((j : Int) < (n : Int)) = true := decide_eq_true x0
      by_cases hlt' : j < n'
      · have y0 : (j : Int) < (n' : Int) := by omega
        have y1 : decide ((j : Int) < (n' : Int)) = true := decide_eq_true y0
        have HJ := Lib.hid (show j + 1 ≤ n ∧ j + 1 ≤ n' by omega)
        have hlz : j < zs.length := by rw [HZ.out]; exact hlt
        have hlu : j < us.length := by rw [HU.out]; exact hlt'
        obtain ⟨pa, oa, rfl, hc1⟩ := (HA.out.below HBL.out (Nat.le_refl _)).at hlz
        obtain ⟨pb, ob, rfl, hc2⟩ := (HB.out.below HBL.out (Nat.le_refl _)).at hlu
        have hp1 := prod_lo (zs.getD j 0) (us.getD j 0)
        have hp2 := prod_hi (zs.getD j 0) (us.getD j 0)
        have hw1 := IntWalk.wrap64_in (prod (zs.getD j 0) (us.getD j 0)) (by omega)
        have hw2 : IntKind.i64.wrap (prod (zs.getD j 0) (us.getD j 0)) = prod (zs.getD j 0) (us.getD j 0) := IntWalk.i64_in _ (by omega)
        clear hp1 hp2
        have HPN0 := Lib.hid (show (prods zs us).take (j + 1) = (prods zs us).take j ++ [prod (zs.getD j 0) (us.getD j 0)] from by
          have hl : j < (prods zs us).length := by rw [prods_length]; omega
          rw [List.take_succ_eq_append_getElem hl, prods_at zs us j hlz hlu, List.getD_eq_getElem?_getD, List.getD_eq_getElem?_getD, List.getElem?_eq_getElem hlz, List.getElem?_eq_getElem hlu]
          rfl)
        unfold prod at hw1 hw2 HPN0
        generalize zs.getD j 0 = z1 at hc1 hw1 hw2 HPN0
        generalize us.getD j 0 = z2 at hc2 hw1 hw2 HPN0
        go_wp2_with (fail)
        have HPN := Lib.hid (show (prods zs us).take (j + 1) = (prods zs us).take j ++ [clamp z1 (-1073741824) 1073741824 * clamp z2 (-1073741824) 1073741824] from HPN0.out)
        have HOL := Lib.hid (show ((prods zs us).take j).length = j by rw [List.length_take, prods_length, HZ.out, HU.out]; omega)
        generalize (prods zs us).take j = L0 at HPN HOL HO
        clear HPN0
        have k0 : wr.drew.cell? ⟨pa, oa + j, none⟩ = some (.int .i64 z1) ∧ wr.drew.cell? ⟨pb, ob + j, none⟩ = some (.int .i64 z2) := ⟨hc1, hc2⟩
        have hpa : pa < w.heap.size := HA.out.low (Nat.lt_of_le_of_lt (Nat.zero_le _) hlz) _ rfl
        have hpb : pb < w.heap.size := HB.out.low (Nat.lt_of_le_of_lt (Nat.zero_le _) hlu) _ rfl
        have k2 : ∀ (o : Obj) (wz : World), (wr.alloc o).drew.grownBy wz (Value.slice G j q).ownBlock → wz.cell? ⟨pa, oa + j, none⟩ = some (.int .i64 z1) ∧ wz.cell? ⟨pb, ob + j, none⟩ = some (.int .i64 z2) := fun o wz hg => by
          have hbz := (((Below.refl w.heap.size wr).alloc HBL.out.size o).grown (show (wr.alloc o).grownBy wz (Value.slice G j q).ownBlock from ⟨hg.os, hg.tape, hg.output, hg.size, hg.block⟩) (by have := HBL.out.size; simp; omega) (fun i hi => (HO.out.lt i hi).1))
          exact ⟨(hbz.cell (p := ⟨pa, oa + j, none⟩) hpa).trans hc1, (hbz.cell (p := ⟨pb, ob + j, none⟩) hpb).trans hc2⟩
        have k1 : ∀ o : Obj, (wr.alloc o).drew.cell? ⟨pa, oa + j, none⟩ = some (.int .i64 z1) ∧ (wr.alloc o).drew.cell? ⟨pb, ob + j, none⟩ = some (.int .i64 z2) := fun o =>
          ⟨(((Below.refl wr.heap.size wr).alloc (Nat.le_refl _) o).cell (p := ⟨pa, oa + j, none⟩) (block_lt_of_cell hc1)).trans hc1, (((Below.refl wr.heap.size wr).alloc (Nat.le_refl _) o).cell (p := ⟨pb, ob + j, none⟩) (block_lt_of_cell hc2)).trans hc2⟩
        have hown0 : wr.drew.ownsRow w.heap.size 3 1 (.slice G j q) j (icells L0) := by
          have := HO.out
          unfold Own at this
          rw [HOL.out] at this
          exact this
        have HSZ := Lib.hid (HBL.out.size)
        have hm2 : j ≤ 1000000 := by omega
        go_region_held3 (fun W : World => W.cell? ⟨pa, oa + j, none⟩ = some (.int .i64 z1) ∧ W.cell? ⟨pb, ob + j, none⟩ = some (.int .i64 z2)) (first | exact k0 | exact k1 _ | exact k2 _ _ ‹_› | assumption) (first
          | (go_at_call 33; refine (rclamp_any _ _ _ _).mono ?_; rintro e w' ⟨rfl, rfl⟩)
          | ((refine step_append_lies _ (by rfl) _ _ _ (by rfl) w.heap.size 3 i0 _ 1 8 Try.underlying30 HI.out HZ0.out HZ1.out HZ2.out rfl (by omega) (.slice G j q) j (icells L0) (by rfl) (hown0.alloc _)
                ⟨wr.heap.size, 0, none⟩ 1 1 [.int .i64 (clamp z1 (-1073741824) 1073741824 * clamp z2 (-1073741824) 1073741824)] (by rfl) (by rfl) (one_src wr.drew _) (one_one _)
                (by omega) (by unfold maxLen; omega) (by omega) (by have := HSZ.out; simp at *; omega) (wr.heap.size + 1) (by simp) ?_; intro gg cap wz hownz hgrow hat hltz)))
        have HON := Lib.hid (show Own wz w.heap.size (.slice (some ⟨gg, 0, none⟩) (j + 1) cap) ((prods zs us).take (j + 1)) from by
          unfold Own
          rw [HPN.out, icells_add, List.length_append, HOL.out, List.length_singleton]
          exact hownz)
        have HBN := Lib.hid ((HBL.out.alloc HBL.out.size (.cells #[.int .i64 (clamp z1 (-1073741824) 1073741824 * clamp z2 (-1073741824) 1073741824)] 3)).grown (show (wr.alloc _).grownBy wz (Value.slice G j q).ownBlock from ⟨hgrow.os, hgrow.tape, hgrow.output, hgrow.size, hgrow.block⟩) (by have := HBL.out.size; simp; omega) (fun i hi => (HO.out.lt i hi).1))
        clear hownz hgrow hat hltz k0 k1 k2 hown0 hc1 hc2 hw1 hw2
        have x3 := IntWalk.wrap64_in ((j : Int) + 1) (by omega)
        go_wp2_with (fail)
        exact ⟨⟨j + 1, _, cap, rfl, HJ.out.1, HJ.out.2, rfl, HON.out, HBN.out⟩, vc_less j n hlt⟩
      · have y0 : ¬ (j : Int) < (n' : Int) := by omega
        have y1 : decide ((j : Int) < (n' : Int)) = false := decide_eq_false y0
        have HT := Lib.hid (show (prods zs us).take j = prods zs us from List.take_of_length_le (by rw [prods_length, HZ.out, HU.out]; omega))
        rw [HT.out] at HO
        have HPL := Lib.hid (show (prods zs us).length = j by rw [prods_length, HZ.out, HU.out]; omega)
        have hj3 : j ≤ 1000000 := by omega
        go_wp2_with (fail)
        refine (rsum_any wr G j q (prods zs us) HPL.out hj3 (Own.kin HO.out)).mono ?_
        rintro e w5 ⟨rfl, rfl⟩
        go_wp2_with (fail)
        refine bodyPost_ret (results_tmp rfl _ _ _) rfl ?_
        exact ⟨rfl, HBL.out⟩
    · have x0 : ¬ (j : Int) < (n : Int) := by omega
      have x1 : decide ((j : Int) < (n : Int)) = false := decide_eq_false x0
      have HT := Lib.hid (show (prods zs us).take j = prods zs us from List.take_of_length_le (by rw [prods_length, HZ.out, HU.out]; omega))
      rw [HT.out] at HO
      have HPL := Lib.hid (show (prods zs us).length = j by rw [prods_length, HZ.out, HU.out]; omega)
      have hj3 : j ≤ 1000000 := by omega
      go_wp2_with (fail)
      refine (rsum_any wr G j q (prods zs us) HPL.out hj3 (Own.kin HO.out)).mono ?_
      rintro e w5 ⟨rfl, rfl⟩
      go_wp2_with (fail)
      refine bodyPost_ret (results_tmp rfl _ _ _) rfl ?_
      exact ⟨rfl, HBL.out⟩
end Go.Proofs.Ytclobdeaocjnoaa
