/-
  Package disk: Of. Conditions: a text of at most 2^40 bytes.
-/
import Derived.Test.YtnmgkkjnjllpbaaGreatDoorMg3
set_option maxRecDepth 100000
namespace Go.Proofs.YtnmgkkjnjllpbaaGreatDoor
open Go.ChangeShapes Go.WideShapes Go.ChangeAt Go.RowKit Dk

namespace Dk
/-- A text's first k sectors, zeros behind. -/
def cutF (q : ByteArray) (k : Nat) (j : Nat) : UInt8 := if j < k * 32 then bs q j else 0
theorem cut_next (q : ByteArray) (k : Nat) : putS (cutF q k) k (sect (bs q) k) = cutF q (k + 1) := by
  funext j
  unfold putS cutF sect
  by_cases h1 : k * 32 ≤ j ∧ j < k * 32 + 32
  · rw [if_pos h1, if_pos (by omega), show k * 32 + (j - k * 32) = j by omega]
  · rw [if_neg h1]
    by_cases h2 : j < k * 32
    · rw [if_pos h2, if_pos (by omega)]
    · rw [if_neg h2, if_neg (by omega)]
theorem secL_part {q : ByteArray} {k : Nat} (h : k * 32 + 32 ≤ q.size) : secL (sect (bs q) k) = ((q.extract (k * 32) q.size).data.toList.take (min (q.extract (k * 32) q.size).size 32)).map fun x => Value.int .u8 (x.toNat : Int) := by
  have hl : q.data.toList.length = q.size := rfl
  have hs : (q.extract (k * 32) q.size).size = q.size - k * 32 := by rw [ByteArray.size_extract]; omega
  have hd : (q.extract (k * 32) q.size).data.toList = q.data.toList.drop (k * 32) := by
    rw [ByteArray.data_extract, Array.toList_extract, List.extract_eq_take_drop, List.take_of_length_le (by rw [List.length_drop]; omega)]
  rw [hs, hd]
  apply List.ext_getElem?
  intro j
  by_cases hj : j < 32
  · rw [secL_get _ _ hj, List.getElem?_map, List.getElem?_take_of_lt (by omega), List.getElem?_drop, List.getElem?_eq_getElem (by omega)]
    unfold sect bs
    rw [List.getD_eq_getElem?_getD, List.getElem?_eq_getElem (by omega)]
    rfl
  · rw [List.getElem?_eq_none (by rw [secL_length]; omega), List.getElem?_eq_none (by rw [List.length_map, List.length_take]; omega)]
end Dk
set_option maxRecDepth 100000 in
set_option maxHeartbeats 1600000 in
theorem disk_Of (K : Nat → Prop) (w : World) (q : ByteArray) (n : Nat) (hn : n = min (q.size / 32) 4096) (hq : q.size ≤ 1099511627776) (hK : ∀ i, w.heap.size ≤ i → K i) :
    Calls Tryz.prog 7 #[.string q] w fun e w' => ∃ D, e = .returned (.pointer (some ⟨D, 0, none⟩)) ∧ w.heap.size ≤ D ∧ DiskAt K w' D (freshSt n (bs q)) ∧ Below w.heap.size w w' := by
  have HK := Lib.hid hK
  obtain ⟨i0, hi, hz0, hz1, hz2⟩ := info_parts infoS
  have HI := Lib.hid hi
  have HZ0 := Lib.hid hz0
  have HZ1 := Lib.hid hz1
  have HZ2 := Lib.hid hz2
  have HN := Lib.hid hn
  have hnb : n ≤ 4096 := by omega
  have hnq : n * 32 ≤ q.size := by omega
  have t1 : (q.size : Int).tdiv 32 = ((q.size / 32 : Nat) : Int) := by rw [Int.tdiv_eq_ediv_of_nonneg (by omega)]; omega
  have t2 : (q.size : Int) / 32 = ((q.size / 32 : Nat) : Int) := by omega
  clear hK hi hz0 hz1 hz2
  obtain ⟨m, hm⟩ : ∃ m, m = q.size / 32 := ⟨_, rfl⟩
  rw [← hm] at t1 t2 hn
  have HM := Lib.hid hm
  clear hm
  have hor : (m ≤ 4096 ∧ n = m) ∨ (4096 < m ∧ n = 4096) := by omega
  have hmn : min (m : Int) 4096 = (n : Int) := by omega
  have HMN := Lib.hid hmn
  clear hmn hor hn
  have HSZ := Lib.hid (fun W : World => (show (Go.sizeOf 5).run Tryz.prog W = .ok 1 W by kernel_rfl))
  have HFIN := Lib.hid (show ∀ w1 : World, Row w1 w.heap.size n (cutF q n) → Below w.heap.size w w1 → Calls Tryz.prog 33 #[.slice (some ⟨w.heap.size, 0, none⟩) n n] w1 fun e w' => ∃ D, e = .returned (.pointer (some ⟨D, 0, none⟩)) ∧ w.heap.size ≤ D ∧ DiskAt K w' D (freshSt n (bs q)) ∧ Below w.heap.size w w' from fun w1 hr hb => by
    refine (disk_of K w1 w.heap.size n n (bs q) (hr.congr fun k hk => by unfold cutF; rw [if_pos hk]) hnb (Nat.le_refl _) (HK.out _ (Nat.le_refl _)) (fun i hi => HK.out i (Nat.le_trans hb.size hi))).mono ?_
    rintro e w2 ⟨D, rfl, h1, h2, h3⟩
    exact ⟨D, rfl, Nat.le_trans hb.size h1, h2, hb.trans (h3.mono hb.size)⟩)
  go_enter Tryz.func7, Tryz.ntmps7
  go_wp2_with (at_make; refine wpList_make_full _ rfl _ _ 71 rfl w.heap.size 73 i0 _ 32 Tryz.underlying71 HI.out HZ0.out HZ1.out .i64 .i64 _ _ n rfl rfl HMN.out HMN.out (by rw [HZ2.out]; omega) (by unfold maxLen; omega) (Nat.le_refl _) ?_; intro w1 hown hg1; have hb1 : Below w.heap.size w w1 := (Below.refl _ _).grown hg1 (Nat.le_refl _) (fun k hk => by cases hk); have HB1 := Lib.hid hb1; have HW1 := Lib.hid hown; clear hg1 hb1 hown)
  have hr1 : Row w1 w.heap.size n (cutF q 0) := by
    have h1 := HW1.out
    rw [madeCells_bytes] at h1
    exact (row_own h1).1.congr fun k hk => by unfold cutF; rw [if_neg (by omega)]
  have HR1 := Lib.hid hr1
  clear hr1 HW1
  go_loopw [12] (fun i wr => ∃ k : Nat, i = .int .i64 (k : Int) ∧ k ≤ n ∧ Row wr w.heap.size n (cutF q k) ∧ Below w.heap.size w wr) (fun i _ => match i with | .int _ k => n - k.toNat | _ => 0)
  case atStart => exact ⟨0, rfl, Nat.zero_le _, HR1.out, HB1.out⟩
  case round =>
    clear HR1 HB1
    obtain ⟨k, rfl, hkn, hr, hb⟩ := hrel
    have HR := Lib.hid hr
    have HB := Lib.hid hb
    clear hr hb
    by_cases hlt : k < n
    · have x0 : (k : Int) < (n : Int) := by omega
      have x1 : decide ((k : Int) < (n : Int)) = true := decide_eq_true x0
      have x2 : 0 ≤ (k : Int) := by omega
      have x3 : IntKind.i64.wrap ((k : Int) * 32) = (k : Int) * 32 := IntWalk.i64_in _ (by omega)
      have x4 : 0 ≤ (k : Int) * 32 := by omega
      have x5 : (k : Int) * 32 ≤ (q.size : Int) := by omega
      have x6 : ((k : Int) * 32).toNat = k * 32 := by omega
      have hcp := run_copy_text (P := Tryz.prog) wr.drew 40 9 3 5 w.heap.size (k * 32) 32 32 (q.extract (k * 32) q.size) (secL (sect (bs q) k)) Tryz.underlying40 HSZ.out (by rw [secL_length]; exact HR.out.there hlt) (secL_part (by omega)) 32 (by rw [ByteArray.size_extract]; omega)
      have HCP := Lib.hid hcp
      have HPR := Lib.hid (show Row (wr.drew.setCells w.heap.size (k * 32) (secL (sect (bs q) k))) w.heap.size n (cutF q (k + 1)) by rw [← cut_next]; exact Row.put (w := wr.drew) HR.out hlt _)
      have HPB := Lib.hid (below_setCells (HB.out.drew) (Nat.le_refl _) (k * 32) (secL (sect (bs q) k)))
      clear hcp
      go_wp2_with (fail)
      go_still_tail 8, (by kernel_rfl)
      have hcp := HCP.out
      change wpList _ _ _ _ _ wr.drew
      generalize wr.drew = w5 at hcp HPR HPB ⊢
      go_wp2_with (fail)
      exact ⟨⟨k + 1, rfl, by omega, HPR.out, HPB.out⟩, by show n - ((k : Int) + 1).toNat < n - (k : Int).toNat; omega⟩
    · have hke : k = n := by omega
      subst hke
      have x0 : ¬ (k : Int) < (k : Int) := by omega
      have x1 : decide ((k : Int) < (k : Int)) = false := decide_eq_false x0
      clear hlt x0
      go_wp2_with (fail)
      refine (HFIN.out wr HR.out HB.out).mono ?_
      rintro e w2 ⟨D, rfl, g1, g2, g3⟩
      have G2 := Lib.hid g2
      clear g2 HFIN HK
      go_wp2_with (fail)
      exact bodyPost_ret (results_tmp rfl _ _ _) rfl ⟨D, rfl, g1, G2.out, g3⟩
end Go.Proofs.YtnmgkkjnjllpbaaGreatDoor
