/-
  The program's sums (package sha): words as bytes. Conditions: the words stand where it looks; at most a thousand.
-/
import Derived.Test.YthmpmpofhpkmjaaDoorShaAdd
import Derived.Deep.DeepAppendRoom
namespace Go.Proofs.YthmpmpofhpkmjaaDoor
open Go.ChangeShapes Go.WideShapes Go.ChangeAt Go.RowKit Sh

/-- The j-th byte of words, the highest of each first. -/
def wbyte (W : Nat → BitVec 32) (j : Nat) : UInt8 := UInt8.ofNat ((W (j / 4)).toNat / 2 ^ (24 - 8 * (j % 4)))
/-- A slice of n new bytes. -/
def ByteSlice (w : World) (n : Nat) (f : Nat → UInt8) (e : Ending) (w' : World) : Prop :=
  ∃ g, e = .returned (.slice (some ⟨g, 0, none⟩) n n) ∧ w.heap.size ≤ g ∧ (∀ j, j < n → w'.cell? ⟨g, j, none⟩ = some (.int .u8 ((f j).toNat : Int))) ∧ Below w.heap.size w w'
theorem wbyte_val (W : Nat → BitVec 32) (k i : Nat) (hi : i < 4) : ((wbyte W (4 * k + i)).toNat : Int) = tn (W k) / ((2 ^ (24 - 8 * i) : Nat) : Int) % 256 := by
  unfold wbyte tn
  rw [show (4 * k + i) / 4 = k by omega, show (4 * k + i) % 4 = i by omega, UInt8.toNat_ofNat']
  rw [← Int.natCast_ediv]
  omega
theorem wbyte0 (W : Nat → BitVec 32) (k : Nat) : tn (W k) / 16777216 % 256 = ((wbyte W (4 * k)).toNat : Int) := (wbyte_val W k 0 (by omega)).symm
theorem wbyte1 (W : Nat → BitVec 32) (k : Nat) : tn (W k) / 65536 % 256 = ((wbyte W (4 * k + 1)).toNat : Int) := (wbyte_val W k 1 (by omega)).symm
theorem wbyte2 (W : Nat → BitVec 32) (k : Nat) : tn (W k) / 256 % 256 = ((wbyte W (4 * k + 2)).toNat : Int) := (wbyte_val W k 2 (by omega)).symm
theorem wbyte3 (W : Nat → BitVec 32) (k : Nat) : tn (W k) % 256 = ((wbyte W (4 * k + 3)).toNat : Int) := by
  rw [wbyte_val W k 3 (by omega)]; simp
theorem range_four (f : Nat → Value) (k : Nat) : (List.range (4 * (k + 1))).map f = (List.range (4 * k)).map f ++ [f (4 * k), f (4 * k + 1), f (4 * k + 2), f (4 * k + 3)] := by
  rw [show 4 * (k + 1) = 4 * k + 1 + 1 + 1 + 1 by omega]
  simp [List.range_succ]
theorem info5 : (Tryd.prog.info? 5).map (fun i => (i.zero, i.size, i.bytes)) = some (some (.int .u8 0), 1, 1) := by kernel_rfl

set_option maxHeartbeats 1000000 in
theorem bytesOf_any (W : Nat → BitVec 32) (pb po n : Nat) (w : World) (hcell : ∀ k, k < n → w.cell? ⟨pb, po + k, none⟩ = some (.int .u32 (tn (W k)))) (hn0 : 0 < n) (hn : n ≤ 1000) (cap : Nat) :
    Calls Tryd.prog 27 #[.slice (some ⟨pb, po, none⟩) n cap] w (ByteSlice w (4 * n) (wbyte W)) := by
  have hlt0 := block_lt_of_cell (hcell 0 hn0)
  have HC := Lib.hid hcell
  clear hcell
  obtain ⟨i0, hi, hz0, hz1, hz2⟩ := info_parts info5
  have HI := Lib.hid hi
  have HZ0 := Lib.hid hz0
  have HZ1 := Lib.hid hz1
  have HZ2 := Lib.hid hz2
  clear hi hz0 hz1 hz2
  go_enter Tryd.func27, Tryd.ntmps27
  go_wp2_with (at_make; refine wpList_make_own _ rfl _ _ 55 rfl w.heap.size 5 i0 _ 1 Tryd.underlying55 HI.out HZ0.out HZ1.out .i64 .i64 _ (4 * n) rfl rfl (by omega) (by rw [HZ2.out]; omega) (by unfold maxLen; omega) (Nat.le_refl _) ?_)
  intro w1 hown hg1
  have hb1 : Below w.heap.size w w1 := (Below.refl _ _).grown hg1 (Nat.le_refl _) (fun k hk => by cases hk)
  clear hg1
  go_wp2
  go_loopw [3, 12] (fun v i wr => ∃ k : Nat, k ≤ n ∧ i = .int .i64 k ∧ v = .slice (some ⟨w.heap.size, 0, none⟩) (4 * k) (4 * n) ∧ wr.ownsRow w.heap.size 5 1 (.slice (some ⟨w.heap.size, 0, none⟩) (4 * k) (4 * n)) (4 * k) ((List.range (4 * k)).map fun j => .int .u8 ((wbyte W j).toNat : Int)) ∧ Below w.heap.size w wr) (fun _ i _ => n - (intOf i).toNat)
  case atStart => exact ⟨0, Nat.zero_le _, rfl, rfl, hown, hb1⟩
  case round =>
    clear hown hb1
    obtain ⟨k, hk, rfl, rfl, hown, hb1⟩ := hrel
    by_cases hlt : k < n
    · have hc := (hb1.cell (p := ⟨pb, po + k, none⟩) hlt0).trans (HC.out k hlt)
      have hs := hb1.size
      go_wp2_with (at_builtin; refine wpList_append_own_spare _ rfl (.tmp 16) (.tmp 28) 55 rfl w.heap.size 5 i0 1 Tryd.underlying55 HI.out HZ1.out w.heap.size (4 * k) (4 * n) _ rfl (hown.alloc _) ⟨wr.heap.size, 0, none⟩ 4 4 [.int .u8 (tn (W k) / 16777216 % 256), .int .u8 (tn (W k) / 65536 % 256), .int .u8 (tn (W k) / 256 % 256), .int .u8 (tn (W k) % 256)] rfl rfl ?c1 ?c2 (by omega) ?_)
      case c1 =>
        intro j u hj
        match j, hj with
        | 0, hj => simp at hj; subst hj; simp [Addr.add]
        | 1, hj => simp at hj; subst hj; simp [Addr.add]
        | 2, hj => simp at hj; subst hj; simp [Addr.add]
        | 3, hj => simp at hj; subst hj; simp [Addr.add]
      case c2 =>
        intro u hu
        simp only [List.mem_cons, List.not_mem_nil, or_false] at hu
        rcases hu with rfl | rfl | rfl | rfl <;> rfl
      intro w2 hown2 hg2
      have hb2 : Below w.heap.size w w2 := (hb1.alloc hs _).grown hg2 (by simp; omega) (fun j hj => by injection hj with hj; omega)
      rw [wbyte0, wbyte1, wbyte2, wbyte3, ← range_four (fun j => Value.int .u8 ((wbyte W j).toNat : Int))] at hown2
      clear hown hb1 hg2 hc
      go_wp2
      go_roundw
      case rel => exact ⟨k + 1, by omega, by go_num, by rw [Nat.mul_succ], by rw [Nat.mul_succ] at hown2 ⊢; exact hown2, hb2⟩
      case measure => simp [intOf]; omega
    · have HK := Lib.hid (show k = n by omega)
      go_wp2
      go_ret
      have e := HK.out
      subst e
      refine ⟨w.heap.size, rfl, Nat.le_refl _, fun j hj => ?_, hb1⟩
      rw [hown.cellAt j (by omega)]
      simp [hj]
end Go.Proofs.YthmpmpofhpkmjaaDoor
