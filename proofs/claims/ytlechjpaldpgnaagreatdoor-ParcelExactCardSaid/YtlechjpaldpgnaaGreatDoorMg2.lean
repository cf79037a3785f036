/-
  Chunks of a patch, in plain words: how many there are, how long each is, that they are the patch together; the head of a manifest. No program here. No conditions.
-/
import Derived.Test.YtlechjpaldpgnaaGreatDoorMg1
set_option maxRecDepth 100000
namespace Go.Proofs.YtlechjpaldpgnaaGreatDoor

namespace Mf
/-- Size divided by Chunk, rounded up. -/
def cntN (s c : Nat) : Nat := (s + c - 1) / c
theorem cntN_lo {s c : Nat} (hc : 1 ≤ c) : s ≤ cntN s c * c := by
  have h1 := Nat.div_add_mod (s + c - 1) c
  have h2 := Nat.mod_lt (s + c - 1) (show 0 < c by omega)
  rw [Nat.mul_comm] at h1
  unfold cntN
  omega
theorem cntN_at {s c i : Nat} (hc : 1 ≤ c) : i < cntN s c ↔ i * c < s := by
  unfold cntN
  rw [show i < (s + c - 1) / c ↔ i + 1 ≤ (s + c - 1) / c from Iff.rfl, Nat.le_div_iff_mul_le (by omega), Nat.add_mul, Nat.one_mul]
  omega
theorem cntN_pos {s c : Nat} (hc : 1 ≤ c) (hs : 1 ≤ s) : 1 ≤ cntN s c := (cntN_at hc).2 (by omega)
theorem cntN_quot {s c : Int} (hs : 1 ≤ s) (hc : 1 ≤ c) : (s + c - 1).tdiv c = (cntN s.toNat c.toNat : Int) := by
  obtain ⟨x, rfl⟩ : ∃ x : Nat, s = (x : Int) := ⟨s.toNat, by omega⟩
  obtain ⟨y, rfl⟩ : ∃ y : Nat, c = (y : Int) := ⟨c.toNat, by omega⟩
  rw [show (x : Int) + (y : Int) - 1 = ((x + y - 1 : Nat) : Int) by omega, Int.tdiv_eq_ediv_of_nonneg (by omega), ← Int.natCast_ediv]
  simp [cntN]
/-- How long the chunk at i is. -/
def lenN (s c i : Nat) : Nat := min c (s - i * c)
theorem lenN_pos {s c i : Nat} (hc : 1 ≤ c) (h : i < cntN s c) : 1 ≤ lenN s c i := by
  have := (cntN_at hc).1 h
  unfold lenN
  omega
theorem lenN_within {s c i : Nat} (hc : 1 ≤ c) (h : i < cntN s c) : i * c + lenN s c i ≤ s := by
  have := (cntN_at hc).1 h
  unfold lenN
  omega
/-- The chunk at i. -/
def pieceL (p : List UInt8) (c i : Nat) : List UInt8 := (p.drop (i * c)).take c
theorem pieceL_length (p : List UInt8) (c i : Nat) : (pieceL p c i).length = lenN p.length c i := by
  unfold pieceL lenN
  rw [List.length_take, List.length_drop]
theorem pieces_next (p : List UInt8) (c n : Nat) : (List.range n).flatMap (pieceL p c) = p.take (n * c) := by
  induction n with
  | zero => simp
  | succ n ih =>
    rw [List.range_succ, List.flatMap_append, ih, Nat.add_mul, Nat.one_mul, List.take_add]
    simp [pieceL]
theorem pieces_all (p : List UInt8) (c : Nat) (hc : 1 ≤ c) : (List.range (cntN p.length c)).flatMap (pieceL p c) = p := by
  rw [pieces_next, List.take_of_length_le (cntN_lo hc)]
/-- So the lengths are the patch's together. -/
def sumTo (s c : Nat) : Nat → Nat
  | 0 => 0
  | n + 1 => sumTo s c n + lenN s c n
theorem sumTo_next (s c n : Nat) : sumTo s c n = min s (n * c) := by
  induction n with
  | zero => simp [sumTo]
  | succ n ih =>
    rw [sumTo, ih, Nat.add_mul, Nat.one_mul]
    unfold lenN
    omega
theorem sumTo_all (s c : Nat) (hc : 1 ≤ c) : sumTo s c (cntN s c) = s := by
  rw [sumTo_next]
  have := cntN_lo (s := s) hc
  omega
/-- What a manifest is. -/
structure Man where
  b : Int
  v : Int
  s : Int
  c : Int
  sums : List (Nat → UInt8)
  res : Nat → UInt8
/-- Whether its numbers can be. -/
def headB (b v s c : Int) : Bool :=
  decide (1 ≤ b) && decide (b ≤ 2147483647) && decide (1 ≤ v) && decide (v ≤ 2147483647) && decide (b ≠ v) && decide (1 ≤ s) && decide (s ≤ 4096) && decide (1 ≤ c) && decide (c ≤ 256) && decide (cntN s.toNat c.toNat ≤ 64)
theorem headB_iff {b v s c : Int} : headB b v s c = true ↔ 1 ≤ b ∧ b ≤ 2147483647 ∧ 1 ≤ v ∧ v ≤ 2147483647 ∧ b ≠ v ∧ 1 ≤ s ∧ s ≤ 4096 ∧ 1 ≤ c ∧ c ≤ 256 ∧ cntN s.toNat c.toNat ≤ 64 := by
  unfold headB
  simp only [Bool.and_eq_true, decide_eq_true_iff]
  simp only [and_assoc]
/-- How many chunks; 0, if it can't be. -/
def countM (m : Man) : Nat := if headB m.b m.v m.s m.c = true ∧ m.sums.length = cntN m.s.toNat m.c.toNat then m.sums.length else 0
theorem countM_good {m : Man} (h : 0 < countM m) : headB m.b m.v m.s m.c = true ∧ m.sums.length = cntN m.s.toNat m.c.toNat ∧ countM m = m.sums.length := by
  unfold countM at h ⊢
  split at h
  · rename_i hg
    rw [if_pos hg]
    exact ⟨hg.1, hg.2, rfl⟩
  · omega
/-- How long a chunk is; 0, if there is none. -/
def lengthM (m : Man) (at' : Int) : Nat := if 0 ≤ at' ∧ at' < (countM m : Int) then lenN m.s.toNat m.c.toNat at'.toNat else 0
end Mf
end Go.Proofs.YtlechjpaldpgnaaGreatDoor
