/-
  What layer 8's statements ask first: some answers by number. No conditions.
-/
import Derived.Test.YtmihladhopjloaaBtSet
namespace Go.Proofs.Ytmihladhopjloaa
open Go.ChangeShapes Go.WideShapes Go.ChangeAt Go.RowKit Bt

namespace Bt
/-- 0 and 9. -/
def u09 : Nat → Bool := puts true (fun _ => false) (two 0 9) 2
theorem u09_row : rowL u09 10 = [0, 9] := by decide +kernel
theorem u09_first : fstB 10 u09 = 1 := by decide +kernel
theorem u09_text : textB 10 u09 = ⟨#[1, 2]⟩ := rfl
end Bt
set_option maxRecDepth 100000 in
set_option maxHeartbeats 3200000 in
theorem awake8 (w : World) : Calls Try.prog 7 #[] w fun e w' => e = .returned (.bool true) ∧ Below w.heap.size w w' := by
  have HN := Lib.hid (show Calls Try.prog 8 #[.int .i64 10] w _ from newSet (n := 10) (Below.refl w.heap.size w) (by omega) (by omega))
  go_enter Try.func7, Try.ntmps7
  go_wp2_with (fail)
  refine HN.out.mono ?_
  rintro e w1 ⟨b, rfl, _, h, _⟩
  clear HN
  go_wp2_with (fail)
  refine (bits_new_not w1 0 (by omega)).mono ?_
  rintro e w2 ⟨rfl, rfl⟩
  have H := Lib.hid h
  clear h
  go_wp2_with (fail)
  refine (bits_Add _ b 10 _ (H.out.alloc _).blk (by omega) _ 2 2 (two 0 9) (by omega) (ints2 w1 0 9) (by decide +kernel) (fun _ a ha => by injection ha with ha; rw [← ha]; have := H.out.lt; show w1.heap.size ≠ b; omega)).mono ?_
  rintro e w2 ⟨rfl, hs, ho⟩
  have H2 := Lib.hid (show Stands w w2 b 10 u09 from (H.out.alloc _).only hs ho)
  clear hs ho H
  go_wp2_with (fail)
  refine (bits_Add_not _ b 10 _ (H2.out.alloc _).blk _ 2 2 (two 1 10) (by omega) (ints2 w2 1 10) (by decide +kernel)).mono ?_
  rintro e w3 ⟨rfl, rfl⟩
  have H3 := Lib.hid (H2.out.alloc (.cells #[.int .i64 1, .int .i64 10] 3))
  clear H2
  generalize w2.alloc (.cells #[.int .i64 1, .int .i64 10] 3) = w3 at H3 ⊢
  go_wp2_with (fail)
  refine (H3.out.row (by omega)).mono ?_
  rintro e w4 ⟨⟨A, cp, rfl, hown, _⟩, h4⟩
  have H4 := Lib.hid h4
  clear h4 H3
  rw [u09_row] at hown ⊢
  obtain ⟨g, rfl, hc0, hc1⟩ : ∃ g, A = some ⟨g, 0, none⟩ ∧ w4.cell? ⟨g, 0, none⟩ = some (.int .i64 0) ∧ w4.cell? ⟨g, 1, none⟩ = some (.int .i64 9) := by
    rcases hown.2 with ⟨_, h0⟩ | ⟨g, c, cur, hv, _⟩
    · cases h0
    · injection hv with hA _ _
      subst hA
      refine ⟨g, rfl, ?_, ?_⟩
      · exact hown.cells (g := g) rfl 0 _ rfl
      · exact hown.cells (g := g) rfl 1 _ rfl
  clear hown
  have HC := Lib.hid hc1
  clear hc0 hc1
  have hgl := block_lt_of_cell HC.out
  go_wp2_with (fail)
  refine (H4.out.text (by omega)).mono ?_
  rintro e w5 ⟨rfl, h5, b5⟩
  have H5 := Lib.hid h5
  have hc5 := (b5.cell (p := ⟨g, 1, none⟩) hgl).trans HC.out
  clear h5 b5 H4 HC
  rw [u09_text]
  go_wp2_with (fail)
  refine (H5.out.first (by omega)).mono ?_
  rintro e w6 ⟨rfl, h6, _⟩
  have H6 := Lib.hid h6
  clear h6 H5 hc5
  rw [u09_first]
  go_wp2_with (fail)
  refine (H6.out.count (by omega)).mono ?_
  rintro e w7 ⟨rfl, h7, _⟩
  have H7 := Lib.hid h7
  clear h7 H6
  rw [u09_row]
  go_wp2_with (fail)
  refine (bits_Has _ b 10 _ (H7.out.alloc _).blk _ 2 2 (two 0 9) (by omega) (ints2 w7 0 9) (by omega)).mono ?_
  rintro e w8 ⟨rfl, m8, rfl⟩
  rw [show allAt 10 u09 (two 0 9) 2 = true by decide +kernel]
  have H8 := Lib.hid ((H7.out.alloc (.cells #[.int .i64 0, .int .i64 9] 3)).drewN m8)
  clear H7
  generalize (w7.alloc (.cells #[.int .i64 0, .int .i64 9] 3)).drewN m8 = w8 at H8 ⊢
  go_wp2_with (fail)
  refine (bits_Has _ b 10 _ (H8.out.alloc _).blk _ 2 2 (two 0 1) (by omega) (ints2 w8 0 1) (by omega)).mono ?_
  rintro e w9 ⟨rfl, m9, rfl⟩
  rw [show allAt 10 u09 (two 0 1) 2 = false by decide +kernel]
  have H9 := Lib.hid ((H8.out.alloc (.cells #[.int .i64 0, .int .i64 1] 3)).drewN m9)
  clear H8
  generalize (w8.alloc (.cells #[.int .i64 0, .int .i64 1] 3)).drewN m9 = w9 at H9 ⊢
  go_wp2_with (fail)
  refine (bits_Has _ b 10 _ H9.out.blk none 0 0 (two 0 1) (by omega) (intsNone _ _ _) (by omega)).mono ?_
  rintro e w10 ⟨rfl, m10, rfl⟩
  rw [show allAt 10 u09 (two 0 1) 0 = true from rfl]
  go_wp2_with (fail)
  refine bodyPost_ret (results_tmp rfl _ _ _) rfl ?_
  exact ⟨rfl, (H9.out.drewN m10).below⟩
end Go.Proofs.Ytmihladhopjloaa
