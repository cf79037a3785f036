/-
  The law's own text of one byte, 32 times. No conditions.
-/
import Derived.Test.YtmnponjngdnolaaDkRead
namespace Go.Proofs.Ytmnponjngdnolaa
open Go.ChangeShapes Go.WideShapes Go.ChangeAt Go.RowKit Dk

theorem infoU1 : (Try.prog.info? 5).map (fun i => (i.zero, i.size, i.bytes)) = some (some (.int .u8 0), 1, 1) := by kernel_rfl
/-- The first k bytes filled. -/
def fillV (b : UInt8) (k : Nat) (j : Nat) : Value := .int .u8 (if j < k then (b.toNat : Int) else 0)
theorem fill_next (b : UInt8) (k : Nat) : (vals 32 (fillV b k)).setIfInBounds k (.int .u8 (b.toNat : Int)) = vals 32 (fillV b (k + 1)) := by
  apply Array.ext_getElem?
  intro j
  rw [Array.getElem?_setIfInBounds]
  by_cases hj : j < 32
  · rw [vals_get 32 _ j hj, vals_get 32 _ j hj]
    by_cases he : k = j
    · subst he
      rw [if_pos rfl, if_pos (by rw [vals_size]; exact hj)]
      unfold fillV
      rw [if_pos (by omega)]
    · rw [if_neg he]
      unfold fillV
      by_cases hl : j < k
      · rw [if_pos hl, if_pos (by omega)]
      · rw [if_neg hl, if_neg (by omega)]
  · rw [Array.getElem?_eq_none (by rw [vals_size]; omega), Array.getElem?_eq_none (by rw [vals_size]; omega)]
    by_cases he : k = j
    · rw [if_pos he, if_neg (by rw [vals_size]; omega)]
    · rw [if_neg he]
theorem fill_made (b : UInt8) : madeCells (Value.int .u8 0).cells (32 * 1) = vals 32 (fillV b 0) := by
  apply Array.ext_getElem?
  intro j
  by_cases hj : j < 32
  · rw [vals_get 32 _ j hj]
    unfold madeCells fillV
    rw [Array.getElem?_map, Array.getElem?_range, if_pos (by omega), if_neg (by omega), Option.map_some]
    have : j % (Value.int .u8 0).cells.size = 0 := Nat.mod_one j
    rw [this]
    rfl
  · rw [Array.getElem?_eq_none (by rw [size_madeCells]; omega), Array.getElem?_eq_none (by rw [vals_size]; omega)]
theorem run_fill (w : World) (g : Nat) (b : UInt8) (h : w.heap[g]? = some (.cells (vals 32 (fillV b 32)) 5 (0, 0))) :
    (convert 22 9 (.slice (some ⟨g, 0, none⟩) 32 32)).run Try.prog w = .ok (.string (secS fun _ => b)) w := by
  refine run_textK w _ 32 32 ((List.range 32).map fun _ => b) (by simp) fun j u hj => ?_
  have hl := (List.getElem?_eq_some_iff.1 hj).1
  simp only [List.length_map, List.length_range] at hl
  rw [Addr.add_lit, Nat.zero_add, cell_of_row _ _ _ _ _ _ h, vals_get 32 _ j hl, ← hj]
  unfold fillV
  rw [if_pos hl]
  simp [hl]
set_option maxRecDepth 100000 in
set_option maxHeartbeats 1600000 in
theorem law_of (b : UInt8) (w : World) :
    Calls Try.prog 9 #[.int .u8 (b.toNat : Int)] w fun e w' => e = .returned (.string (secS fun _ => b)) ∧ Below w.heap.size w w' := by
  obtain ⟨i0, hi, hz0, hz1, hz2⟩ := info_parts infoU1
  have HI := Lib.hid hi
  have HZ0 := Lib.hid hz0
  have HZ1 := Lib.hid hz1
  have HZ2 := Lib.hid hz2
  clear hi hz0 hz1 hz2
  have HFI := Lib.hid (fill_made b)
  have HRF := Lib.hid (fun (W : World) (hW : W.heap[w.heap.size]? = some (.cells (vals 32 (fillV b 32)) 5 (0, 0))) => run_fill W w.heap.size b hW)
  have HNX := Lib.hid (fill_next b)
  generalize secS (fun _ => b) = z at HRF ⊢
  generalize (b.toNat : Int) = bi at HNX ⊢
  go_enter Try.func9, Try.ntmps9
  go_wp2_with (at_make; refine wpList_make_full _ rfl _ _ 22 rfl w.heap.size 5 i0 _ 1 Try.underlying22 HI.out HZ0.out HZ1.out .i64 .i64 _ _ 32 rfl rfl rfl rfl (by rw [HZ2.out]; omega) (by unfold maxLen; omega) (Nat.le_refl _) ?_; intro w1 hown hg1; have hb1 : Below w.heap.size w w1 := (Below.refl _ _).grown hg1 (Nat.le_refl _) (fun k hk => by cases hk); have HB1 := Lib.hid hb1; have HW1 := Lib.hid hown; clear hg1 hb1 hown)
  have hblk : w1.heap[w.heap.size]? = some (.cells (vals 32 (fillV b 0)) 5 (0, 0)) := by
    rcases HW1.out.2 with ⟨hn, _⟩ | ⟨g, cap, cur, hv, _, hg, _, _, hs, ht⟩
    · cases hn
    · injection hv with h1 h2 h3
      injection h1 with h1
      injection h1 with h1
      subst h1 h3
      rw [List.take_of_length_le (by rw [Array.length_toList, hs]; exact Nat.le_refl _)] at ht
      rw [hg, ← HFI.out]
      congr 2
      exact Array.ext' ht
  have HBK := Lib.hid hblk
  clear hblk HW1 HFI
  go_loopw [4] (fun i wr => ∃ k : Nat, i = .int .i64 (k : Int) ∧ k ≤ 32 ∧ wr.heap[w.heap.size]? = some (.cells (vals 32 (fillV b k)) 5 (0, 0)) ∧ Below w.heap.size w wr) (fun i _ => match i with | .int _ k => 32 - k.toNat | _ => 0)
  case atStart => exact ⟨0, rfl, by omega, HBK.out, HB1.out⟩
  case round =>
    clear HBK HB1
    obtain ⟨k, rfl, hk, hblk, hb⟩ := hrel
    have HBK := Lib.hid hblk
    have HB := Lib.hid hb
    clear hblk hb
    by_cases hlt : k < 32
    · have x0 : (k : Int) < 32 := by omega
      have x1 : decide ((k : Int) < 32) = true := decide_eq_true x0
      have x2 : 0 ≤ (k : Int) := by omega
      have c1 : wr.cell? ⟨w.heap.size, k, none⟩ = some (fillV b k k) := by rw [cell_of_row _ _ _ _ _ _ HBK.out]; exact vals_get 32 _ k hlt
      have f1 : wr.frozen? ⟨w.heap.size, k, none⟩ = false := frozen_of_row _ _ _ _ _ HBK.out
      have HB2 := Lib.hid (show (wr.setCell ⟨w.heap.size, k, none⟩ (.int .u8 bi)).heap[w.heap.size]? = some (.cells (vals 32 (fillV b (k + 1))) 5 (0, 0)) by rw [← HNX.out k]; exact heap_setCell_same wr w.heap.size k _ _ _ HBK.out)
      have HB3 := Lib.hid (HB.out.setCell (p := ⟨w.heap.size, k, none⟩) (Nat.le_refl _) (.int .u8 bi))
      go_wp2_with (fail)
      exact ⟨⟨k + 1, rfl, by omega, HB2.out, HB3.out⟩, by show 32 - ((k : Int) + 1).toNat < 32 - (k : Int).toNat; omega⟩
    · have hke : k = 32 := by omega
      subst hke
      have hcv := HRF.out wr HBK.out
      go_wp2_with (fail)
      refine bodyPost_ret (results_tmp rfl _ _ _) rfl ?_
      exact ⟨rfl, HB.out⟩
end Go.Proofs.Ytmnponjngdnolaa
