/-
  The document's own bytes of a number and of a text. Condition: a text of at most a million bytes.
-/
import Derived.Test.YtiehpaffbaafcaaPenText
namespace Go.Proofs.Ytiehpaffbaafcaa
open Go.ChangeShapes Go.WideShapes Go.ChangeAt Go.RowKit Pn

set_option maxRecDepth 100000 in
set_option maxHeartbeats 1600000 in
theorem refw_num (w : World) (n : Int) (hlo : -9223372036854775808 ≤ n) (hhi : n ≤ 9223372036854775807) :
    Calls Try.prog 18 #[.int .i64 n] w fun e w' => e = .returned (.tuple #[.string ⟨(numL n).toArray⟩, .bool (numOk n)]) ∧ Below w.heap.size w w' := by
  have v0 := numF_val n 0
  have v1 := numF_val n 1
  have v2 := numF_val n 2
  have v3 := numF_val n 3
  simp only [Nat.pow_zero, Nat.pow_one, Int.ediv_one, Nat.reducePow, Int.cast_ofNat_Int] at v0 v1 v2 v3
  cases hk : numOk n with
  | true =>
    have hv := numV_ok hk
    rw [hv] at v0 v1 v2 v3
    have hk2 : 0 ≤ n ∧ n ≤ 4294967295 := by unfold numOk at hk; simpa using hk
    have n0 : ¬ n < 0 := by omega
    have n1 : ¬ 4294967295 < n := by omega
    obtain ⟨h0, h1⟩ := hk2
    have V3 := Lib.hid (show ((numF n 3).toNat : Int) = n / 16777216 by omega)
    have V0 := Lib.hid v0
    have V1 := Lib.hid v1
    have V2 := Lib.hid v2
    clear v0 v1 v2 v3 hv hk
    have hcv : ∀ W : World, (∀ j u, (bcells (numL n))[j]? = some u → W.cell? ((⟨w.heap.size, 0, none⟩ : Addr).add j) = some u) → (convert 53 9 (.slice (some ⟨w.heap.size, 0, none⟩) 4 4)).run Try.prog W = .ok (.string ⟨(numL n).toArray⟩) W := fun W hW => run_text W _ 4 4 (numL n) (numL_length n).symm hW
    have hcw := hcv (w.alloc (.cells #[.int .u8 (n % 256), .int .u8 (n / 256 % 256), .int .u8 (n / 65536 % 256), .int .u8 (n / 16777216)] 5)) (fun j u hj => by
      rw [Addr.add_lit, Nat.zero_add, cell_of_row _ _ _ _ _ _ (heap_alloc_new w _), ← V0.out, ← V1.out, ← V2.out, ← V3.out, ← hj, four_cells]
      exact List.getElem?_toArray)
    clear hcv
    go_enter Try.func18, Try.ntmps18
    go_wp2
    go_ret2
    exact ⟨rfl, (Below.refl _ _).alloc (Nat.le_refl _) _⟩
  | false =>
    have hv := numV_no hk
    have hk2 : n < 0 ∨ 4294967295 < n := by
      unfold numOk at hk
      simp only [Bool.and_eq_false_iff, decide_eq_false_iff_not] at hk
      omega
    have HZ := Lib.hid (show (⟨(numL n).toArray⟩ : ByteArray) = ⟨#[0, 0, 0, 0]⟩ by
      unfold numL
      have : ∀ j, numF n j = 0 := fun j => by unfold numF; rw [hv, Nat.zero_div]; rfl
      simp [this, List.range, List.range.loop])
    clear v0 v1 v2 v3 hv hk
    rcases hk2 with n0 | n1
    · go_enter Try.func18, Try.ntmps18
      go_wp2
      go_ret2
      rw [HZ.out]
      exact ⟨rfl, Below.refl _ _⟩
    · have n0 : ¬ n < 0 := by omega
      go_enter Try.func18, Try.ntmps18
      go_wp2
      go_ret2
      rw [HZ.out]
      exact ⟨rfl, Below.refl _ _⟩
theorem textL_join (s : ByteArray) : (⟨(numL (s.size : Int)).toArray⟩ : ByteArray) ++ s = ⟨(textL s).toArray⟩ := by
  apply ByteArray.ext
  simp [ByteArray.data_append, textL]
set_option maxRecDepth 100000 in
set_option maxHeartbeats 800000 in
theorem refw_text (w : World) (s : ByteArray) (hs : s.size ≤ 1000000) :
    Calls Try.prog 20 #[.string s] w fun e w' => e = .returned (.string ⟨(textL s).toArray⟩) ∧ Below w.heap.size w w' := by
  have HJ := Lib.hid (textL_join s)
  have h4 : (⟨(numL (s.size : Int)).toArray⟩ : ByteArray).size = 4 := by
    show (numL (s.size : Int)).toArray.size = 4
    rw [List.size_toArray, numL_length]
  go_enter Try.func20, Try.ntmps20
  go_wp2_with (fail)
  refine (refw_num w (s.size : Int) (by omega) (by omega)).mono ?_
  rintro e w2 ⟨rfl, hb⟩
  generalize (⟨(numL (s.size : Int)).toArray⟩ : ByteArray) = q at h4 HJ ⊢
  have q0 : ¬ 9223372036854775807 < q.size + s.size := by omega
  clear h4
  go_wp2
  go_ret
  rw [HJ.out]
  exact ⟨rfl, hb⟩
end Go.Proofs.Ytiehpaffbaafcaa
