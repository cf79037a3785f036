/-
  Layer 19's law: deeds in the document's form. Condition: they have 2^47 bytes at most.
-/
import Derived.Test.YtiehpaffbaafcaaPtLaw19
import Derived.Test.YtiehpaffbaafcaaStepBuild
import Derived.Test.YtiehpaffbaafcaaTakeAt
import Derived.StillTailTactics
import Derived.Deep.RegionHeld3
import Derived.Great.Walk
namespace Go.Proofs.Ytiehpaffbaafcaa
open Go.ChangeShapes Go.WideShapes Go.ChangeAt Go.RowKit Pn Pt

namespace Pt
theorem take_deeds {L : List Deed} {j : Nat} (h : j < L.length) : L.take (j + 1) = L.take j ++ [L.getD j dz] := by
  rw [List.take_add_one, deed_at h]
  rfl
theorem cell_below {w W : World} {B b i : Nat} {v : Value} (hc : w.cell? ⟨b, i, none⟩ = some v) (hb : Below B w W) (hB : w.heap.size ≤ B) : W.cell? ⟨b, i, none⟩ = some v :=
  (World.cell?_of_block (hb.block b (Nat.lt_of_lt_of_le (block_lt_of_cell hc) hB))).trans hc
theorem base_drew {W : World} {B : Nat} (h : B ≤ W.heap.size) (o : Obj) : B ≤ (W.drew.alloc o).heap.size := by
  rw [World.size_alloc]
  exact Nat.le_succ_of_le h
/-- What forms answers. -/
def FormSays (w : World) (n : Nat) (L : List Deed) (e : Ending) (w' : World) : Prop := ∃ G q, e = .returned (.slice G n q) ∧ DIn w' G L ∧ Below w.heap.size w w'
end Pt
set_option maxRecDepth 100000 in
set_option maxHeartbeats 6400000 in
theorem pt_forms (w : World) (A : Option Addr) (n c : Nat) (L : List Deed) (hL : L.length = n) (hn : n * 40 ≤ 140737488355328) (hA : DIn w A L) :
    Calls Try.prog 9 #[.slice A n c] w (FormSays w n L) := by
  have HL := Lib.hid hL
  have HN := Lib.hid hn
  have HA := Lib.hid hA
  obtain ⟨i0, hi, hz0, hz1, hz2⟩ := info_parts info_rop
  have HI := Lib.hid hi
  have HZ0 := Lib.hid hz0
  have HZ1 := Lib.hid hz1
  have HZ2 := Lib.hid hz2
  have HB0 := Lib.hid ((Below.refl w.heap.size w).alloc (Nat.le_refl _) (.cells #[] 38))
  have HO0 := Lib.hid (show OwnD 38 (w.alloc (.cells #[] 38)) w.heap.size (.slice (some ⟨w.heap.size, 0, none⟩) 0 0) [] from by
    have := World.ownsRow_made (e := 38) (size := 4) w #[] 0 (base := w.heap.size) (Nat.le_refl _) (Nat.zero_le _) rfl
    exact (show (w.alloc (.cells #[] 38)).ownsRow w.heap.size 38 4 (.slice (some ⟨w.heap.size, 0, none⟩) 0 0) 0 [] from by simpa using this))
  clear hL hn hA hi hz0 hz1 hz2
  go_enter Try.func9, Try.ntmps9
  go_wp2_with (refine wpList_buildNone rfl 30 38 rfl i0 Try.underlying30 HI.out ?_)
  go_loopw [3, 4] (fun v i wr => ∃ (j : Nat) (G : Option Addr) (q : Nat), i = .int .i64 (j : Int) ∧ j ≤ n ∧ v = .slice G j q ∧ OwnD 38 wr w.heap.size v (L.take j) ∧ Below w.heap.size w wr) (fun _ i _ => match i with | .int _ k => n - k.toNat | _ => 0)
  case atStart => exact ⟨0, _, 0, rfl, Nat.zero_le _, rfl, HO0.out, HB0.out⟩
  case round =>
    clear HB0 HO0
    obtain ⟨j, G, q, rfl, hj, rfl, ho, hb⟩ := hrel
    have HO := Lib.hid ho
    have HB := Lib.hid hb
    clear ho hb
    have x2 : 0 ≤ (j : Int) := by omega
    by_cases hlt : j < n
    · have x0 : (j : Int) < (n : Int) := by omega
      have x1 : decide ((j : Int) < (n : Int)) = true := decide_eq_true x0
      have hjl : j < L.length := by rw [HL.out]; exact hlt
      have HOL := Lib.hid (show (L.take j).length = j by rw [List.length_take, HL.out]; omega)
      have HT := Lib.hid (take_deeds hjl)
      obtain ⟨pb, po, rfl, hc⟩ := HA.out (by omega)
      have HC := Lib.hid (hc j _ (deed_at hjl))
      have HJ := Lib.hid (show j + 1 ≤ n by omega)
      have HW1 := Lib.hid (IntWalk.wrap64_in ((j : Int) + 1) (by have := HN.out; omega))
      have HMJ := Lib.hid (show j + 1 ≤ maxLen ∧ (j + 1) * 40 ≤ 140737488355328 by have := HN.out; have := HJ.out; unfold maxLen; omega)
      generalize L.getD j dz = o at HC HT
      have HW0 := Lib.hid (OwnD.at HO.out HOL.out)
      have HK := Lib.hid (fun (W : World) (h : Below w.heap.size w W) => show W.cell? ⟨pb, po + j * 4, none⟩ = some (.int .i64 o.k) ∧ W.cell? ⟨pb, po + j * 4 + 1, none⟩ = some (.int .i64 o.f) ∧ W.cell? ⟨pb, po + j * 4 + 2, none⟩ = some (.int .i64 o.s) ∧ W.cell? ⟨pb, po + j * 4 + 3, none⟩ = some (.string o.d) from
        ⟨cell_below HC.out.k h (Nat.le_refl _), cell_below HC.out.f h (Nat.le_refl _), cell_below HC.out.s h (Nat.le_refl _), cell_below HC.out.d h (Nat.le_refl _)⟩)
      have HBD := Lib.hid (below_drewN HB.out 1)
      have k0 : wr.drew.cell? ⟨pb, po + j * 4, none⟩ = some (.int .i64 o.k) ∧ wr.drew.cell? ⟨pb, po + j * 4 + 1, none⟩ = some (.int .i64 o.f) ∧ wr.drew.cell? ⟨pb, po + j * 4 + 2, none⟩ = some (.int .i64 o.s) ∧ wr.drew.cell? ⟨pb, po + j * 4 + 3, none⟩ = some (.string o.d) := HK.out _ HBD.out
      have HWD := Lib.hid (show wr.drew.ownsRow w.heap.size 38 4 (.slice G j q) j (dsL (L.take j)) from HW0.out)
      clear hc hjl hlt
      go_wp2_with (fail)
      go_region_held3 (fun W : World => W.cell? ⟨pb, po + j * 4, none⟩ = some (.int .i64 o.k) ∧ W.cell? ⟨pb, po + j * 4 + 1, none⟩ = some (.int .i64 o.f) ∧ W.cell? ⟨pb, po + j * 4 + 2, none⟩ = some (.int .i64 o.s) ∧ W.cell? ⟨pb, po + j * 4 + 3, none⟩ = some (.string o.d)) (first | exact k0 | assumption | exact HK.out _ (HBD.out.alloc HBD.out.size _) | exact HK.out _ HB5.out) (first
        | (refine step_buildTo (by rfl) 30 38 1 _ (by rfl) Try.underlying30 #[.int .i64 o.k, .int .i64 o.f, .int .i64 o.s, .string o.d] (ropOne o.k o.f o.s o.d) ?_)
        | (refine step_append_lies _ (by rfl) _ _ _ (by rfl) w.heap.size 38 i0 _ 4 40 Try.underlying30 HI.out HZ0.out HZ1.out HZ2.out rfl (by omega) (.slice G j q) j (dsL (L.take j)) (by rfl) (HWD.out.alloc _) ⟨wr.drew.heap.size, 0, none⟩ 1 1 (dl o) (by rfl) (by rfl) (deed_src wr.drew _ o) (dl_one o) (by omega) HMJ.out.1 HMJ.out.2 (base_drew HB.out.size _) _ rfl ?_; intro g5 c5 w5 hown5 hg5 hwh5 hl5; have HOW5 := Lib.hid hown5; have HB5 := Lib.hid (grown_below HBD.out (Nat.le_refl _) (Nat.le_refl _) HWD.out hg5); clear hown5 hg5 hwh5 hl5))
      have HON := Lib.hid (OwnD.grew (o := o) HOL.out HOW5.out)
      rw [← HT.out] at HON
      go_wp2_with (fail)
      try rw [HW1.out]
      exact ⟨⟨j + 1, _, c5, rfl, HJ.out, rfl, HON.out, HB5.out⟩, pt_less j n HJ.out⟩
    · have hje : j = n := by omega
      subst hje
      have x0 : ¬ (j : Int) < (j : Int) := by omega
      have x1 : decide ((j : Int) < (j : Int)) = false := decide_eq_false x0
      have HT := Lib.hid (show L.take j = L from List.take_of_length_le (by rw [HL.out]; exact Nat.le_refl _))
      rw [HT.out] at HO
      go_wp2_with (fail)
      refine bodyPost_ret (results_tmp rfl _ _ _) rfl ?_
      refine ⟨G, q, rfl, OwnD.din (t := 38) (base := w.heap.size) (c := q) ?_, HB.out⟩
      rw [HL.out]
      exact HO.out
end Go.Proofs.Ytiehpaffbaafcaa
