/-
  The program's sums (package sha): a sum as digits. No conditions.
-/
import Derived.Test.YthmpmpofhpkmjaaDoorShaOf
namespace Go.Proofs.YthmpmpofhpkmjaaDoor
open Go.ChangeShapes Go.WideShapes Go.ChangeAt Go.RowKit Sh

/-- 32 bytes as the program hands them on. -/
def digF (f : Nat → UInt8) : Array Value := vals 32 fun j => .int .u8 ((f j).toNat : Int)
def hexL : List UInt8 := [48, 49, 50, 51, 52, 53, 54, 55, 56, 57, 97, 98, 99, 100, 101, 102]
def hexd (n : Nat) : UInt8 := hexL.getD n 0
def textOf (f : Nat → UInt8) (n : Nat) : List UInt8 := (List.range n).flatMap fun i => [hexd ((f i).toNat / 16), hexd ((f i).toNat % 16)]
theorem textOf_next (f : Nat → UInt8) (n : Nat) : textOf f (n + 1) = textOf f n ++ [hexd ((f n).toNat / 16), hexd ((f n).toNat % 16)] := by
  unfold textOf; rw [List.range_succ, List.flatMap_append]; simp
theorem textOf_length (f : Nat → UInt8) (n : Nat) : (textOf f n).length = 2 * n := by
  induction n with
  | zero => rfl
  | succ n ih => rw [textOf_next, List.length_append, ih]; simp; omega
theorem textOf_at (f : Nat → UInt8) (n k : Nat) (h : k < n) : (textOf f n).getD (2 * k) 0 = hexd ((f k).toNat / 16) ∧ (textOf f n).getD (2 * k + 1) 0 = hexd ((f k).toNat % 16) := by
  induction n with
  | zero => omega
  | succ n ih =>
    rw [textOf_next]
    simp only [List.getD_eq_getElem?_getD]
    by_cases e : k = n
    · subst e
      rw [List.getElem?_append_right (by rw [textOf_length]; omega), List.getElem?_append_right (by rw [textOf_length]; omega), textOf_length]
      simp
    · have h2 := ih (by omega)
      simp only [List.getD_eq_getElem?_getD] at h2
      rw [List.getElem?_append_left (by rw [textOf_length]; omega), List.getElem?_append_left (by rw [textOf_length]; omega)]
      exact h2
theorem row_of_owns {w : World} {base g cap : Nat} {e : TypeId} (h : w.ownsRow base e 1 (.slice (some ⟨g, 0, none⟩) 0 cap) 0 []) : ∃ F, w.rowIs g e cap F := by
  rcases h.2 with ⟨h', _⟩ | ⟨g', cap', cur, h', _, hg, _, _, hsz, _⟩
  · cases h'
  · injection h' with h1 h2 h3
    injection h1 with h1
    injection h1 with h1
    subst h1 h3
    exact ⟨fun i => cur.getD i undef, cur, hg, by omega, fun i hi => by simp [Array.getD, show i < cur.size by omega]⟩
theorem hex_at (n : Nat) (h : n < 16) : (⟨#[48, 49, 50, 51, 52, 53, 54, 55, 56, 57, 97, 98, 99, 100, 101, 102]⟩ : ByteArray)[n]? = some (hexd n) := by
  have key : ∀ k : _root_.Fin 16, (⟨#[48, 49, 50, 51, 52, 53, 54, 55, 56, 57, 97, 98, 99, 100, 101, 102]⟩ : ByteArray)[k.val]? = some (hexd k.val) := by decide
  exact key ⟨n, h⟩
theorem index_hex (n : Nat) (h : n < 16) (w : World) : (Instr.index 9 (.string ⟨#[48, 49, 50, 51, 52, 53, 54, 55, 56, 57, 97, 98, 99, 100, 101, 102]⟩) (.int .u8 (n : Int))).run Tryd.prog w = .ok (.int .u8 ((hexd n).toNat : Int)) w := by
  have hu := Tryd.underlying9
  have hb := hex_at n h
  simp [Instr.index, run_underlying hu, go_sem]
  rw [hb]
  rfl
theorem index_dig (f : Nat → UInt8) (k : Nat) (h : k < 32) (w : World) : (Instr.index 25 (.agg (digF f)) (.int .i64 (k : Int))).run Tryd.prog w = .ok (.int .u8 ((f k).toNat : Int)) w := by
  have hu := Tryd.underlying25
  have hk : (k : Int) < 32 := by omega
  have hg : (digF f)[k]? = some (.int .u8 ((f k).toNat : Int)) := vals_get _ _ k h
  simp [Instr.index, run_underlying hu, go_sem]
  rw [if_pos h, hg]
  rfl
set_option maxRecDepth 100000 in
theorem low4 (b : UInt8) : bits .and .u8 (b.toNat : Int) 15 = ((b.toNat % 16 : Nat) : Int) := by
  have key : ∀ k : _root_.Fin 256, bits .and .u8 (k.val : Int) 15 = ((k.val % 16 : Nat) : Int) := by decide
  exact key ⟨b.toNat, b.toNat_lt⟩

set_option maxRecDepth 100000 in
set_option maxHeartbeats 1600000 in
theorem text_any (f : Nat → UInt8) (w : World) :
    Calls Tryd.prog 16 #[.agg (digF f)] w fun e w' => e = .returned (.string ⟨(textOf f 32).toArray⟩) ∧ Below w.heap.size w w' := by
  obtain ⟨i0, hi, hz0, hz1, hz2⟩ := info_parts info5
  have HI := Lib.hid hi
  have HZ0 := Lib.hid hz0
  have HZ1 := Lib.hid hz1
  have HZ2 := Lib.hid hz2
  clear hi hz0 hz1 hz2
  have HD := Lib.hid (show (Tryd.prog.info? 25).map (·.size) = some (digF f).size from info_vals _ (by kernel_rfl))
  go_enter Tryd.func16, Tryd.ntmps16
  go_wp2_with (first
    | (at_make; refine wpList_make_own _ rfl _ _ 55 rfl (w.heap.size + 1) 5 i0 _ 1 Tryd.underlying55 HI.out HZ0.out HZ1.out .i64 .i64 _ 64 rfl rfl (by omega) (by rw [HZ2.out]; omega) (by unfold maxLen; omega) (by simp) ?_; intro w1 hown hg1)
    | (refine wpList_load_row rfl 25 (.tmp 1) rfl w.heap.size rfl 25 _ (0, 0) _ ((hg1.block _ (by simp) (by simp)).trans (heap_alloc_new w _)) Tryd.underlying25 rfl HD.out ?_))
  have hb1 : Below w.heap.size w w1 := ((Below.refl _ _).alloc (Nat.le_refl _) _).grown hg1 (by simp) (fun k hk => by cases hk)
  have hown1 : w1.ownsRow (w.heap.size + 1) 5 1 (.slice (some ⟨w.heap.size + 1, 0, none⟩) 0 64) 0 [] := by simpa using hown
  obtain ⟨F0, hrow0⟩ := row_of_owns hown1
  clear hg1 hown hown1 HI HZ0 HZ1 HZ2 HD
  go_loopw [3, 8] (fun v i wr => ∃ (k : Nat) (F : Nat → Value), k ≤ 32 ∧ i = .int .i64 k ∧ v = .slice (some ⟨w.heap.size + 1, 0, none⟩) (2 * k) 64 ∧ wr.rowIs (w.heap.size + 1) 5 64 F ∧ (∀ j, j < 2 * k → F j = .int .u8 (((textOf f 32).getD j 0).toNat : Int)) ∧ Below w.heap.size w wr) (fun _ i _ => 32 - (intOf i).toNat)
  case atStart => exact ⟨0, F0, Nat.zero_le _, rfl, by simp, hrow0, fun j hj => by omega, hb1⟩
  case round =>
    clear hrow0 hb1
    obtain ⟨k, F, hk, rfl, rfl, hrow, hFk, hb1⟩ := hrel
    by_cases hlt : k < 32
    · have hix := index_dig f k hlt
      obtain ⟨n1, hn1⟩ : ∃ n1 : Nat, n1 = (f k).toNat / 16 := ⟨_, rfl⟩
      obtain ⟨n2, hn2⟩ : ∃ n2 : Nat, n2 = (f k).toNat % 16 := ⟨_, rfl⟩
      have hlt8 := (f k).toNat_lt
      have e1 : (((f k).toNat : Int)) / 16 = (n1 : Int) := by omega
      have e2 : bits .and .u8 ((f k).toNat : Int) 15 = (n2 : Int) := by rw [low4, hn2]
      have x1 := index_hex n1 (by omega)
      have x2 := index_hex n2 (by omega)
      have hsz := hrow.lt
      have h62 : 2 * k ≤ 62 := by omega
      have d1 := hrow.cell (i := 2 * k) (by omega)
      have d2 := hrow.cell (i := 2 * k + 1) (by omega)
      have f1 := hrow.frozen (2 * k)
      have f2 := hrow.frozen (2 * k + 1)
      have HX := Lib.hid (textOf_at f 32 k hlt)
      have HN1 := Lib.hid hn1
      have HN2 := Lib.hid hn2
      have HFK := Lib.hid hFk
      have HROW := Lib.hid hrow
      clear hn1 hn2 hFk hrow hlt8
      go_wp2
      go_region_with (fail)
      go_wp2
      all_goals
        go_roundw
        case rel =>
          have hr2 := (((HROW.out.set (2 * k) (.int .u8 ((hexd n1).toNat : Int))).set (2 * k + 1) (.int .u8 ((hexd n2).toNat : Int))).alloc (.cells #[.int .u8 ((hexd n1).toNat : Int), .int .u8 ((hexd n2).toNat : Int)] 5)).drew
          refine ⟨k + 1, _, by omega, by go_num, by rw [Nat.mul_succ], hr2, fun j hj => ?_, below_drewN (((hb1.setCell (by show w.heap.size ≤ w.heap.size + 1; omega) _).setCell (by show w.heap.size ≤ w.heap.size + 1; omega) _).alloc (by simp; omega) _) 1⟩
          by_cases e1 : j = 2 * k + 1
          · subst e1; simp only [if_true]; rw [HX.out.2, HN2.out]
          · by_cases e2 : j = 2 * k
            · subst e2; rw [if_neg (by omega), if_pos rfl, HX.out.1, HN1.out]
            · rw [if_neg e1, if_neg e2]; exact HFK.out j (by omega)
        case measure => simp [intOf]; omega
    · have HK := Lib.hid (show k = 32 by omega)
      have e2 : 2 * k = 64 := by omega
      have hl : (List.range 64).map (fun j => (textOf f 32).getD j 0) = textOf f 32 := by
        apply List.ext_getElem (by simp [textOf_length])
        intro i h1 h2
        simp [List.getD_eq_getElem?_getD, h2]
      have hconv := run_bytes_string wr ⟨w.heap.size + 1, 0, none⟩ 64 64 (fun j => (textOf f 32).getD j 0) (fun j hj => by rw [addr_add0, hrow.cell hj, hFk j (by omega)])
      rw [hl] at hconv
      clear hrow hFk hl
      go_wp2
      go_ret
      exact ⟨rfl, hb1⟩
end Go.Proofs.YthmpmpofhpkmjaaDoor
