/-
  The program's sums (package sha): a word turned; and the document's own: a word cut and turned. No conditions but that a turn is by 1 to 31.
-/
import Derived.Test.YthmpmpofhpkmjaaDoorBase
import Derived.IntWalk
import Derived.Test.YthmpmpofhpkmjaaDoorShaSpec
namespace Go.Proofs.YthmpmpofhpkmjaaDoor
open Go.ChangeShapes Go.WideShapes Go.ChangeAt Go.RowKit Sh

theorem and31 (n : Int) (h1 : 1 ≤ n) (h2 : n ≤ 31) : bits .and .u64 (IntKind.u64.wrap (-n)) 31 = 32 - n := by
  obtain ⟨k, rfl⟩ : ∃ k : Nat, n = k := ⟨n.toNat, by omega⟩
  have key : ∀ k : Fin 32, 1 ≤ k.val → bits .and .u64 (IntKind.u64.wrap (-(k.val : Int))) 31 = 32 - (k.val : Int) := by decide
  exact key ⟨k, by omega⟩ (by show 1 ≤ k; omega)
theorem ret_v {k : IntKind} {a b : Int} (h : a = b) : Ending.returned (.int k a) = .returned (.int k b) := by rw [h]
theorem rot_val (x : BitVec 32) (n : Int) (h1 : 1 ≤ n) (h2 : n ≤ 31) : bits .or .u32 (tn x * 2 ^ (32 - n).toNat % 4294967296) (tn x / 2 ^ (32 - (32 - n)).toNat) = tn (rotr n x) := by
  rw [← wrap_u32', shl_u32, shr_u32, or_u32, show (32 - n).toNat = 32 - n.toNat by omega, show (32 - (32 - n)).toNat = n.toNat by omega]
  exact congrArg tn (rotr_u32 x n)
theorem turned_any (x : BitVec 32) (n : Int) (w : World) (h1 : 1 ≤ n) (h2 : n ≤ 31) :
    Calls Tryd.prog 33 #[.int .u32 (tn x), .int .i64 n] w fun e w' => e = .returned (.int .u32 (tn (rotr n x))) ∧ w = w' := by
  have ha := and31 n h1 h2
  have HV := Lib.hid (rot_val x n h1 h2)
  go_enter Tryd.func33, Tryd.ntmps33
  go_wp2
  go_ret
  exact ⟨ret_v HV.out, rfl⟩
theorem cut_any (x : BitVec 64) (w : World) :
    Calls Tryd.prog 30 #[.int .u64 (t6 x)] w fun e w' => e = .returned (.int .u64 (t6 (zx (lo x)))) ∧ w = w' := by
  go_enter Tryd.func30, Tryd.ntmps30
  go_wp2
  go_ret
  exact ⟨ret_v (lo_u64 x), rfl⟩
theorem turn_val (x : BitVec 32) (n : Int) (h1 : 1 ≤ n) (h2 : n ≤ 31) :
    ∃ y, bits .or .u64 (t6 (zx x) / 2 ^ n.toNat) (IntKind.u64.wrap (t6 (zx x) * 2 ^ (32 - n).toNat)) = t6 y ∧ lo y = rotr n x :=
  ⟨zx x >>> n.toNat ||| zx x <<< (32 - n.toNat), by rw [shl_u64, shr_u64, or_u64, show (32 - n).toNat = 32 - n.toNat by omega], turn_u64 x n h1 h2⟩
theorem turn_any (x : BitVec 32) (n : Int) (w : World) (h1 : 1 ≤ n) (h2 : n ≤ 31) :
    Calls Tryd.prog 29 #[.int .u64 (t6 (zx x)), .int .i64 n] w fun e w' => e = .returned (.int .u64 (t6 (zx (rotr n x)))) ∧ ∃ k, w' = w.drewN k := by
  obtain ⟨y, hy, hl⟩ := turn_val x n h1 h2
  have HL := Lib.hid hl
  clear hl
  go_enter Tryd.func29, Tryd.ntmps29
  go_wp2
  have h3 : IntKind.i64.wrap (32 - n) = 32 - n := IntWalk.i64_in _ (by omega)
  have h4 : 0 ≤ 32 - n := by omega
  have h5 : 0 ≤ n := by omega
  have h6 : n ≤ 64 := by omega
  have h7 : 32 - n ≤ 64 := by omega
  go_quiet ((go_at_call 30; exact quiet_here (cut_any _ _)))
  go_wp2
  go_ret
  exact ⟨ret_v (by rw [HL.out]), _, rfl⟩
end Go.Proofs.YthmpmpofhpkmjaaDoor
