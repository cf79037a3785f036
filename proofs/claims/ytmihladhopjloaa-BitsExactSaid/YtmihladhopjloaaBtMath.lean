/-
  Bits and bytes: eight bits are a byte; what a bit set or cleared makes of it; a set's bytes. No program's function here. No conditions.
-/
import Derived.Test.YtmihladhopjloaaShaRow
import Derived.Laws.Entries
namespace Go.Proofs.Ytmihladhopjloaa
namespace Bt
open Go Go.RowKit

/-- Eight bits, the lowest first. -/
def s8 (b0 b1 b2 b3 b4 b5 b6 b7 : Bool) : Nat := b0.toNat + 2 * b1.toNat + 4 * b2.toNat + 8 * b3.toNat + 16 * b4.toNat + 32 * b5.toNat + 64 * b6.toNat + 128 * b7.toNat
/-- The byte j of bits. -/
def by8 (u : Nat → Bool) (j : Nat) : Nat := s8 (u (8 * j)) (u (8 * j + 1)) (u (8 * j + 2)) (u (8 * j + 3)) (u (8 * j + 4)) (u (8 * j + 5)) (u (8 * j + 6)) (u (8 * j + 7))
/-- One bit as told. -/
def upd (u : Nat → Bool) (k : Nat) (v : Bool) : Nat → Bool := fun i => if i = k then v else u i
/-- A number's bit in its byte. -/
def pw (k : Nat) : Nat := 2 ^ (k % 8)

theorem s8_lt : ∀ b0 b1 b2 b3 b4 b5 b6 b7 : Bool, s8 b0 b1 b2 b3 b4 b5 b6 b7 < 256 := by decide +kernel
theorem by8_lt (u : Nat → Bool) (j : Nat) : by8 u j < 256 := s8_lt ..
theorem pw_pos (k : Nat) : 1 ≤ pw k := Nat.one_le_two_pow
theorem pw_le (k : Nat) : pw k ≤ 128 := Nat.pow_le_pow_right (by omega) (show k % 8 ≤ 7 by omega)

theorem and8 : ∀ (b0 b1 b2 b3 b4 b5 b6 b7 : Bool) (e : Fin 8), bits .and .u8 (s8 b0 b1 b2 b3 b4 b5 b6 b7 : Int) ((2 ^ e.val : Nat) : Int) = if [b0, b1, b2, b3, b4, b5, b6, b7].getD e.val false then ((2 ^ e.val : Nat) : Int) else 0 := by decide +kernel
theorem or8 : ∀ (b0 b1 b2 b3 b4 b5 b6 b7 : Bool) (e : Fin 8), bits .or .u8 (s8 b0 b1 b2 b3 b4 b5 b6 b7 : Int) ((2 ^ e.val : Nat) : Int) =
    (s8 (b0 || e.val == 0) (b1 || e.val == 1) (b2 || e.val == 2) (b3 || e.val == 3) (b4 || e.val == 4) (b5 || e.val == 5) (b6 || e.val == 6) (b7 || e.val == 7) : Int) := by decide +kernel
theorem not8 : ∀ (b0 b1 b2 b3 b4 b5 b6 b7 : Bool) (e : Fin 8), bits .andNot .u8 (s8 b0 b1 b2 b3 b4 b5 b6 b7 : Int) ((2 ^ e.val : Nat) : Int) =
    (s8 (b0 && e.val != 0) (b1 && e.val != 1) (b2 && e.val != 2) (b3 && e.val != 3) (b4 && e.val != 4) (b5 && e.val != 5) (b6 && e.val != 6) (b7 && e.val != 7) : Int) := by decide +kernel
theorem tb8 : ∀ (b0 b1 b2 b3 b4 b5 b6 b7 : Bool) (e : Fin 8), (s8 b0 b1 b2 b3 b4 b5 b6 b7).testBit e.val = [b0, b1, b2, b3, b4, b5, b6, b7].getD e.val false := by decide +kernel

theorem eight {p : Nat → Prop} (h0 : p 0) (h1 : p 1) (h2 : p 2) (h3 : p 3) (h4 : p 4) (h5 : p 5) (h6 : p 6) (h7 : p 7) (e : Nat) (he : e < 8) : p e := by
  match e, he with
  | 0, _ => exact h0
  | 1, _ => exact h1
  | 2, _ => exact h2
  | 3, _ => exact h3
  | 4, _ => exact h4
  | 5, _ => exact h5
  | 6, _ => exact h6
  | 7, _ => exact h7
theorem by8_list (u : Nat → Bool) (j e : Nat) (he : e < 8) : [u (8 * j), u (8 * j + 1), u (8 * j + 2), u (8 * j + 3), u (8 * j + 4), u (8 * j + 5), u (8 * j + 6), u (8 * j + 7)].getD e false = u (8 * j + e) :=
  eight (p := fun e => [u (8 * j), u (8 * j + 1), u (8 * j + 2), u (8 * j + 3), u (8 * j + 4), u (8 * j + 5), u (8 * j + 6), u (8 * j + 7)].getD e false = u (8 * j + e)) rfl rfl rfl rfl rfl rfl rfl rfl e he
theorem by8_bit (u : Nat → Bool) (j e : Nat) (he : e < 8) : (by8 u j).testBit e = u (8 * j + e) := by
  have := tb8 (u (8 * j)) (u (8 * j + 1)) (u (8 * j + 2)) (u (8 * j + 3)) (u (8 * j + 4)) (u (8 * j + 5)) (u (8 * j + 6)) (u (8 * j + 7)) ⟨e, he⟩
  rw [by8_list u j e he] at this
  exact this
theorem by8_at (u : Nat → Bool) (k : Nat) : (by8 u (k / 8)).testBit (k % 8) = u k := by
  rw [by8_bit _ _ _ (by omega)]
  congr 1
  omega
theorem by8_eq {u v : Nat → Bool} {j : Nat} (h : ∀ e, e < 8 → u (8 * j + e) = v (8 * j + e)) : by8 u j = by8 v j := by
  unfold by8
  rw [← Nat.add_zero (8 * j), h 0 (by omega)]
  simp only [Nat.add_zero]
  rw [h 1 (by omega), h 2 (by omega), h 3 (by omega), h 4 (by omega), h 5 (by omega), h 6 (by omega), h 7 (by omega)]
theorem by8_inj {u v : Nat → Bool} {j : Nat} (h : by8 u j = by8 v j) (e : Nat) (he : e < 8) : u (8 * j + e) = v (8 * j + e) := by
  rw [← by8_bit u j e he, ← by8_bit v j e he, h]
theorem by8_of_bits (x : Nat) (hx : x < 256) (u : Nat → Bool) (j : Nat) (h : ∀ e, e < 8 → u (8 * j + e) = x.testBit e) : by8 u j = x := by
  apply Nat.eq_of_testBit_eq
  intro i
  by_cases hi : i < 8
  · rw [by8_bit u j i hi, h i hi]
  · rw [Nat.testBit_lt_two_pow (Nat.lt_of_lt_of_le (by8_lt u j) (Nat.pow_le_pow_right (n := 2) (i := 8) (by omega) (by omega))), Nat.testBit_lt_two_pow (Nat.lt_of_lt_of_le hx (Nat.pow_le_pow_right (n := 2) (i := 8) (by omega) (by omega)))]

theorem and_bit (u : Nat → Bool) (k : Nat) : bits .and .u8 (by8 u (k / 8) : Int) (pw k : Int) = if u k then (pw k : Int) else 0 := by
  have := and8 (u (8 * (k / 8))) (u (8 * (k / 8) + 1)) (u (8 * (k / 8) + 2)) (u (8 * (k / 8) + 3)) (u (8 * (k / 8) + 4)) (u (8 * (k / 8) + 5)) (u (8 * (k / 8) + 6)) (u (8 * (k / 8) + 7)) ⟨k % 8, by omega⟩
  rw [by8_list u (k / 8) (k % 8) (by omega), show 8 * (k / 8) + k % 8 = k by omega] at this
  exact this
theorem by8_upd_other (u : Nat → Bool) (k j : Nat) (v : Bool) (h : j ≠ k / 8) : by8 (upd u k v) j = by8 u j :=
  by8_eq fun e he => by unfold upd; rw [if_neg (by omega)]
theorem or_bit (u : Nat → Bool) (k : Nat) : bits .or .u8 (by8 u (k / 8) : Int) (pw k : Int) = (by8 (upd u k true) (k / 8) : Int) := by
  have := or8 (u (8 * (k / 8))) (u (8 * (k / 8) + 1)) (u (8 * (k / 8) + 2)) (u (8 * (k / 8) + 3)) (u (8 * (k / 8) + 4)) (u (8 * (k / 8) + 5)) (u (8 * (k / 8) + 6)) (u (8 * (k / 8) + 7)) ⟨k % 8, by omega⟩
  refine this.trans (congrArg (fun n : Nat => (n : Int)) ?_)
  have up : ∀ i, i < 8 → (u (8 * (k / 8) + i) || k % 8 == i) = upd u k true (8 * (k / 8) + i) := fun i hi => by
    unfold upd
    by_cases h : k % 8 = i
    · rw [if_pos (by omega), h, beq_self_eq_true, Bool.or_true]
    · rw [if_neg (by omega), beq_eq_false_iff_ne.2 h, Bool.or_false]
  unfold by8
  have h0 := up 0 (by omega)
  rw [Nat.add_zero] at h0
  rw [← h0, ← up 1 (by omega), ← up 2 (by omega), ← up 3 (by omega), ← up 4 (by omega), ← up 5 (by omega), ← up 6 (by omega), ← up 7 (by omega)]
theorem not_bit (u : Nat → Bool) (k : Nat) : bits .andNot .u8 (by8 u (k / 8) : Int) (pw k : Int) = (by8 (upd u k false) (k / 8) : Int) := by
  have := not8 (u (8 * (k / 8))) (u (8 * (k / 8) + 1)) (u (8 * (k / 8) + 2)) (u (8 * (k / 8) + 3)) (u (8 * (k / 8) + 4)) (u (8 * (k / 8) + 5)) (u (8 * (k / 8) + 6)) (u (8 * (k / 8) + 7)) ⟨k % 8, by omega⟩
  refine this.trans (congrArg (fun n : Nat => (n : Int)) ?_)
  have up : ∀ i, i < 8 → (u (8 * (k / 8) + i) && k % 8 != i) = upd u k false (8 * (k / 8) + i) := fun i hi => by
    unfold upd
    by_cases h : k % 8 = i
    · rw [if_pos (by omega), h, bne_self_eq_false, Bool.and_false]
    · rw [if_neg (by omega), bne_iff_ne.2 h, Bool.and_true]
  unfold by8
  have h0 := up 0 (by omega)
  rw [Nat.add_zero] at h0
  rw [← h0, ← up 1 (by omega), ← up 2 (by omega), ← up 3 (by omega), ← up 4 (by omega), ← up 5 (by omega), ← up 6 (by omega), ← up 7 (by omega)]
/-- A bit more. -/
theorem by8_more (u : Nat → Bool) (k : Nat) (h : u k = false) : by8 (upd u k true) (k / 8) = by8 u (k / 8) + pw k := by
  have key : ∀ (b0 b1 b2 b3 b4 b5 b6 b7 : Bool) (e : Fin 8), [b0, b1, b2, b3, b4, b5, b6, b7].getD e.val false = false → s8 (b0 || e.val == 0) (b1 || e.val == 1) (b2 || e.val == 2) (b3 || e.val == 3) (b4 || e.val == 4) (b5 || e.val == 5) (b6 || e.val == 6) (b7 || e.val == 7) = s8 b0 b1 b2 b3 b4 b5 b6 b7 + 2 ^ e.val := by decide +kernel
  have h1 := or_bit u k
  rw [show bits .or .u8 (by8 u (k / 8) : Int) (pw k : Int) = ((by8 u (k / 8) + pw k : Nat) : Int) from ?_] at h1
  · omega
  have h8 := or8 (u (8 * (k / 8))) (u (8 * (k / 8) + 1)) (u (8 * (k / 8) + 2)) (u (8 * (k / 8) + 3)) (u (8 * (k / 8) + 4)) (u (8 * (k / 8) + 5)) (u (8 * (k / 8) + 6)) (u (8 * (k / 8) + 7)) ⟨k % 8, by omega⟩
  rw [key _ _ _ _ _ _ _ _ _ (by
    have := by8_list u (k / 8) (k % 8) (by omega)
    rw [show 8 * (k / 8) + k % 8 = k by omega, h] at this
    exact this)] at h8
  exact h8
theorem upd_same (u : Nat → Bool) (k : Nat) (v : Bool) : upd u k v k = v := by unfold upd; rw [if_pos rfl]
theorem upd_other (u : Nat → Bool) {k i : Nat} (v : Bool) (h : i ≠ k) : upd u k v i = u i := by unfold upd; rw [if_neg h]
theorem upd_idem (u : Nat → Bool) {k : Nat} {v : Bool} (h : u k = v) : upd u k v = u := by
  funext i
  unfold upd
  split
  · next e => rw [e, h]
  · rfl

/-- Numbers below n only. -/
def Low (n : Nat) (u : Nat → Bool) : Prop := ∀ k, u k = true → k < n
theorem Low.none (n : Nat) : Low n fun _ => false := fun _ h => by cases h
theorem Low.upd {n : Nat} {u : Nat → Bool} (h : Low n u) {k : Nat} (hk : k < n) (v : Bool) : Low n (upd u k v) := fun i hi => by
  unfold Bt.upd at hi
  split at hi
  · next e => rw [e]; exact hk
  · exact h i hi
theorem Low.off {n : Nat} {u : Nat → Bool} (h : Low n u) {k : Nat} (hk : n ≤ k) : u k = false := by
  cases e : u k with
  | false => rfl
  | true => exact absurd (h k e) (by omega)
theorem by8_none (j : Nat) : by8 (fun _ => false) j = 0 := rfl
end Bt
end Go.Proofs.Ytmihladhopjloaa
