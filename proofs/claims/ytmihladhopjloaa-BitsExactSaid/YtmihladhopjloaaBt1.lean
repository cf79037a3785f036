/-
  Package bits: what bit, size, fits, Len, has and New answer. Conditions: the set stands in its block, of 1 to 1024 numbers.
-/
import Derived.Test.YtmihladhopjloaaBtSpec
import Derived.Deep.RegionHeld3
namespace Go.Proofs.Ytmihladhopjloaa
open Go.ChangeShapes Go.WideShapes Go.ChangeAt Go.RowKit Bt

theorem pw_int (k : Nat) : ((2 : Int) ^ (k % 8)) % 256 = (pw k : Int) := by
  have h := pw_le k
  have e : (2 : Int) ^ (k % 8) = ((2 ^ (k % 8) : Nat) : Int) := by simp
  unfold pw at *
  rw [e]
  generalize 2 ^ (k % 8) = p at h
  omega
theorem bits_bit (w : World) (k : Nat) : Calls Try.prog 23 #[.int .i64 (k : Int)] w fun e w' => e = .returned (.int .u8 (pw k : Int)) ∧ w = w' := by
  go_enter Try.func23, Try.ntmps23
  go_wp2
  refine bodyPost_ret (results_tmp rfl _ _ _) rfl ?_
  refine ⟨?_, rfl⟩
  rw [← pw_int]
  rfl
theorem bits_size (w : World) (n : Nat) (hn : n < 2000) : Calls Try.prog 26 #[.int .i64 (n : Int)] w fun e w' => e = .returned (.int .i64 (szB n : Int)) ∧ w = w' := by
  go_enter Try.func26, Try.ntmps26
  go_wp2
  refine bodyPost_ret (results_tmp rfl _ _ _) rfl ?_
  refine ⟨?_, rfl⟩
  rw [show (szB n : Int) = ((n : Int) + 8 - 1) / 8 by unfold szB; omega]
  rfl
/-- Whether it is a number of so many. -/
def fitsB (n : Nat) (x : Int) : Bool := decide (0 ≤ x) && decide (x < (n : Int))
section
variable (w : World) (b n : Nat) (u : Nat → Bool) (hs : w.heap[b]? = some (sobj n u))
include hs
theorem bits_len : Calls Try.prog 15 #[.pointer (some ⟨b, 0, none⟩)] w fun e w' => e = .returned (.int .i64 (n : Int)) ∧ w = w' := by
  have c0 := sobj_n hs
  clear hs
  go_enter Try.func15, Try.ntmps15
  go_wp2
  go_ret
  exact ⟨rfl, rfl⟩
theorem bits_fits (x : Int) : Calls Try.prog 24 #[.pointer (some ⟨b, 0, none⟩), .int .i64 x] w fun e w' => e = .returned (.bool (fitsB n x)) ∧ w = w' := by
  have c0 := sobj_n hs
  clear hs
  unfold fitsB
  by_cases h0 : 0 ≤ x
  · have h0' : decide (0 ≤ x) = true := decide_eq_true h0
    rw [h0', Bool.true_and]
    go_enter Try.func24, Try.ntmps24
    go_wp2
    refine bodyPost_ret (results_tmp rfl _ _ _) rfl ?_
    exact ⟨rfl, rfl⟩
  · have h0' : decide (0 ≤ x) = false := decide_eq_false h0
    rw [h0', Bool.false_and]
    go_enter Try.func24, Try.ntmps24
    go_wp2
    refine bodyPost_ret (results_tmp rfl _ _ _) rfl ?_
    exact ⟨rfl, rfl⟩
set_option maxRecDepth 100000 in
set_option maxHeartbeats 1600000 in
theorem bits_has (k : Nat) (hk : k < 1024) : Calls Try.prog 25 #[.pointer (some ⟨b, 0, none⟩), .int .i64 (k : Int)] w fun e w' => e = .returned (.bool (u k)) ∧ ∃ m, w' = w.drewN m := by
  have c1 := sobj_byte hs (k / 8) (by omega)
  have hb := and_bit u k
  have p1 := pw_pos k
  have HB := Lib.hid (fun W : World => bits_bit W k)
  have k4 : k / 8 < 128 := by omega
  have k1 : (k : Int) / 8 = ((k / 8 : Nat) : Int) := by omega
  clear hs
  generalize (by8 u (k / 8) : Int) = X at c1 hb
  generalize k / 8 = j at k1 c1 k4
  have k2 : 0 ≤ (j : Int) := by omega
  have k3 : (j : Int) < 128 := by omega
  cases h : u k with
  | true =>
    rw [h, if_pos rfl] at hb
    have hz : ((pw k : Int) != 0) = true := bne_iff_ne.2 (by omega)
    clear p1
    generalize (pw k : Int) = P at HB hb hz
    go_enter Try.func25, Try.ntmps25
    go_wp2_with (fail)
    go_quiet ((go_at_call 23; exact quiet_here (HB.out _)))
    go_wp2
    refine bodyPost_ret (results_tmp rfl _ _ _) rfl ?_
    refine ⟨?_, _, rfl⟩
    rw [← hz]
    rfl
  | false =>
    rw [h, if_neg (by decide)] at hb
    clear p1
    generalize (pw k : Int) = P at HB hb
    go_enter Try.func25, Try.ntmps25
    go_wp2_with (fail)
    go_quiet ((go_at_call 23; exact quiet_here (HB.out _)))
    go_wp2
    refine bodyPost_ret (results_tmp rfl _ _ _) rfl ?_
    exact ⟨rfl, _, rfl⟩
end
theorem bits_len_nil (w : World) : Calls Try.prog 15 #[.pointer none] w fun e w' => e = .returned (.int .i64 0) ∧ w = w' := by
  go_enter Try.func15, Try.ntmps15
  go_wp2
  go_ret
  exact ⟨rfl, rfl⟩
theorem bits_new_not (w : World) (x : Int) (h : x < 1 ∨ 1024 < x) : Calls Try.prog 8 #[.int .i64 x] w fun e w' => e = .returned (.pointer none) ∧ w = w' := by
  by_cases h1 : x < 1
  · have t1 : decide (x < 1) = true := decide_eq_true h1
    clear h
    go_enter Try.func8, Try.ntmps8
    go_wp2
    refine bodyPost_ret (results_tmp rfl _ _ _) rfl ?_
    exact ⟨rfl, rfl⟩
  · have t1 : decide (x < 1) = false := decide_eq_false h1
    have h2 : 1024 < x := by omega
    have t2 : decide (1024 < x) = true := decide_eq_true h2
    clear h
    go_enter Try.func8, Try.ntmps8
    go_wp2
    refine bodyPost_ret (results_tmp rfl _ _ _) rfl ?_
    exact ⟨rfl, rfl⟩
set_option maxRecDepth 100000 in
theorem built_set (x : Int) : Try.prog.built 50 [(0, .int .i64 x)] = some (vals 129 fun i => if i = 0 then .int .i64 x else .int .u8 0) := by kernel_rfl
set_option maxRecDepth 100000 in
set_option maxHeartbeats 1600000 in
theorem bits_new (w : World) (n : Nat) (h1 : 1 ≤ n) (h2 : n ≤ 1024) : Calls Try.prog 8 #[.int .i64 (n : Int)] w fun e w' => ∃ b, e = .returned (.pointer (some ⟨b, 0, none⟩)) ∧ w.heap.size ≤ b ∧ w'.heap[b]? = some (sobj n fun _ => false) ∧ Below w.heap.size w w' := by
  have HB := Lib.hid (built_set (n : Int))
  rw [show (vals 129 fun i => if i = 0 then Value.int .i64 (n : Int) else .int .u8 0) = vals 129 (scell n fun _ => false) from vals_congr fun i _ => by
    unfold scell
    rfl] at HB
  have HF := Lib.hid (show sobj n (fun _ => false) = .cells (vals 129 (scell n fun _ => false)) 50 (0, 0) from rfl)
  have m1 : ¬ (n : Int) < 1 := by omega
  have m2 : ¬ 1024 < (n : Int) := by omega
  have t1 : decide ((n : Int) < 1) = false := decide_eq_false m1
  have t2 : decide (1024 < (n : Int)) = false := decide_eq_false m2
  clear h1 h2
  generalize vals 129 (scell n fun _ => false) = cs at HB HF
  generalize sobj n (fun _ => false) = o at HF ⊢
  go_enter Try.func8, Try.ntmps8
  go_wp2_with (first
    | (refine wpList_build_to rfl 50 #[(0, .tmp 9)] rfl [(0, .int .i64 (n : Int))] rfl _ HB.out ?_))
  refine bodyPost_ret (results_tmp rfl _ _ _) rfl ?_
  rw [HF.out]
  exact ⟨_, rfl, Nat.le_refl _, heap_alloc_new w _, (Below.refl _ _).alloc (Nat.le_refl _) _⟩
end Go.Proofs.Ytmihladhopjloaa
