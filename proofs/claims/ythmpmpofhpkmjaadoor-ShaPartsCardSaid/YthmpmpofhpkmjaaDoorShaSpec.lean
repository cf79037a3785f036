/-
  The sums of 256 bits in plain words: schedule, rounds, blocks, the text that is summed. No program here. No conditions.
-/
import Derived.Test.YthmpmpofhpkmjaaDoorShaBits
namespace Go.Proofs.YthmpmpofhpkmjaaDoor
namespace Sh
open Go Go.RowKit

/-- Eight words. -/
structure St where
  a : BitVec 32
  b : BitVec 32
  c : BitVec 32
  d : BitVec 32
  e : BitVec 32
  f : BitVec 32
  g : BitVec 32
  h : BitVec 32
deriving DecidableEq

def kList : List Nat := [1116352408, 1899447441, 3049323471, 3921009573, 961987163, 1508970993, 2453635748, 2870763221, 3624381080, 310598401, 607225278, 1426881987, 1925078388, 2162078206, 2614888103, 3248222580, 3835390401, 4022224774, 264347078, 604807628, 770255983, 1249150122, 1555081692, 1996064986, 2554220882, 2821834349, 2952996808, 3210313671, 3336571891, 3584528711, 113926993, 338241895, 666307205, 773529912, 1294757372, 1396182291, 1695183700, 1986661051, 2177026350, 2456956037, 2730485921, 2820302411, 3259730800, 3345764771, 3516065817, 3600352804, 4094571909, 275423344, 430227734, 506948616, 659060556, 883997877, 958139571, 1322822218, 1537002063, 1747873779, 1955562222, 2024104815, 2227730452, 2361852424, 2428436474, 2756734187, 3204031479, 3329325298]
def kAt (i : Nat) : BitVec 32 := BitVec.ofNat 32 (kList.getD i 0)
def iv : St := ⟨1779033703, 3144134277, 1013904242, 2773480762, 1359893119, 2600822924, 528734635, 1541459225⟩
def St.at (s : St) : Nat → BitVec 32
  | 0 => s.a | 1 => s.b | 2 => s.c | 3 => s.d | 4 => s.e | 5 => s.f | 6 => s.g | _ => s.h

def sg0 (x : BitVec 32) : BitVec 32 := rotr 7 x ^^^ rotr 18 x ^^^ shr 3 x
def sg1 (x : BitVec 32) : BitVec 32 := rotr 17 x ^^^ rotr 19 x ^^^ shr 10 x
def T1 (k w : BitVec 32) (s : St) : BitVec 32 := s.h + (rotr 6 s.e ^^^ rotr 11 s.e ^^^ rotr 25 s.e) + ((s.e &&& s.f) ^^^ (~~~s.e &&& s.g)) + k + w
def T2 (s : St) : BitVec 32 := (rotr 2 s.a ^^^ rotr 13 s.a ^^^ rotr 22 s.a) + ((s.a &&& s.b) ^^^ (s.a &&& s.c) ^^^ (s.b &&& s.c))
def rnd (k w : BitVec 32) (s : St) : St := ⟨T1 k w s + T2 s, s.a, s.b, s.c, s.d + T1 k w s, s.e, s.f, s.g⟩
def runs (w : Nat → BitVec 32) (s : St) : Nat → St
  | 0 => s
  | i + 1 => rnd (kAt i) (w i) (runs w s i)
def plusSt (s t : St) : St := ⟨s.a + t.a, s.b + t.b, s.c + t.c, s.d + t.d, s.e + t.e, s.f + t.f, s.g + t.g, s.h + t.h⟩
theorem plusSt_at (s t : St) (i : Nat) : (plusSt s t).at i = s.at i + t.at i := by
  unfold St.at; split <;> rfl

/-- The words of a block and those that come of them, the newest first. -/
def wRow (m : Nat → BitVec 32) : Nat → List (BitVec 32)
  | 0 => []
  | i + 1 => (if i < 16 then m i else (wRow m i).getD 15 0 + sg0 ((wRow m i).getD 14 0) + (wRow m i).getD 6 0 + sg1 ((wRow m i).getD 1 0)) :: wRow m i
def wAt (m : Nat → BitVec 32) (i : Nat) : BitVec 32 := (wRow m (i + 1)).getD 0 0
theorem wRow_get (m : Nat → BitVec 32) (i j : Nat) (h : j < i) : (wRow m i).getD j 0 = wAt m (i - 1 - j) := by
  induction i generalizing j with
  | zero => omega
  | succ i ih =>
    cases j with
    | zero => rfl
    | succ j =>
      have := ih j (by omega)
      simp only [wRow, List.getD_cons_succ]
      rw [this]
      congr 1
      omega
theorem wAt_first (m : Nat → BitVec 32) (i : Nat) (h : i < 16) : wAt m i = m i := by
  unfold wAt; simp only [wRow, List.getD_cons_zero]; rw [if_pos h]
theorem wAt_next (m : Nat → BitVec 32) (i : Nat) (h : 16 ≤ i) : wAt m i = wAt m (i - 16) + sg0 (wAt m (i - 15)) + wAt m (i - 7) + sg1 (wAt m (i - 2)) := by
  conv => lhs; unfold wAt
  simp only [wRow, List.getD_cons_zero]
  rw [if_neg (by omega), wRow_get m i 15 (by omega), wRow_get m i 14 (by omega), wRow_get m i 6 (by omega), wRow_get m i 1 (by omega)]
  have e1 : i - 1 - 15 = i - 16 := by omega
  have e2 : i - 1 - 14 = i - 15 := by omega
  have e3 : i - 1 - 6 = i - 7 := by omega
  have e4 : i - 1 - 1 = i - 2 := by omega
  rw [e1, e2, e3, e4]

/-- The words of 64 bytes, told by a function. -/
def word (b : Nat → UInt8) (i : Nat) : BitVec 32 := be (b (4 * i)) (b (4 * i + 1)) (b (4 * i + 2)) (b (4 * i + 3))
def mixed (s : St) (b : Nat → UInt8) : St := plusSt s (runs (wAt (word b)) s 64)
def blocks (l : Nat → UInt8) : Nat → St
  | 0 => iv
  | n + 1 => mixed (blocks l n) (fun j => l (64 * n + j))

def byteAt (l : List UInt8) (i : Nat) : UInt8 := l.getD i 0
/-- The eight bytes of a number, the highest first. -/
def be8 (n : Nat) : List UInt8 := (List.range 8).map fun i => UInt8.ofNat (n / 2 ^ (8 * (7 - i)))
def zeros (n : Nat) : Nat := (119 - n % 64) % 64
def padded (l : List UInt8) : List UInt8 := l ++ [128] ++ List.replicate (zeros l.length) 0 ++ be8 (8 * l.length)
def sumSt (l : List UInt8) : St := blocks (byteAt (padded l)) ((padded l).length / 64)
def sumByte (s : St) (i : Nat) : UInt8 := UInt8.ofNat ((s.at (i / 4)).toNat / 2 ^ (24 - 8 * (i % 4)))
/-- The sum's 32 bytes. -/
def sum (l : List UInt8) : List UInt8 := (List.range 32).map (sumByte (sumSt l))
theorem sum_length (l : List UInt8) : (sum l).length = 32 := by simp [sum]
theorem be8_length (n : Nat) : (be8 n).length = 8 := by simp [be8]
theorem padded_length (l : List UInt8) : (padded l).length = l.length + 9 + zeros l.length := by simp [padded, be8_length]; omega
theorem padded_mod (l : List UInt8) : (padded l).length % 64 = 0 := by rw [padded_length]; unfold zeros; omega

theorem wRow_congr (m m' : Nat → BitVec 32) (h : ∀ i, i < 16 → m i = m' i) (i : Nat) : wRow m i = wRow m' i := by
  induction i with
  | zero => simp only [wRow]
  | succ i ih =>
    simp only [wRow]
    rw [ih]
    by_cases hi : i < 16
    · rw [if_pos hi, if_pos hi, h i hi]
    · rw [if_neg hi, if_neg hi]
theorem wAt_congr (m m' : Nat → BitVec 32) (h : ∀ i, i < 16 → m i = m' i) : wAt m = wAt m' := by
  funext i; unfold wAt; rw [wRow_congr m m' h]
theorem word_congr (f g : Nat → UInt8) (h : ∀ i, i < 64 → f i = g i) (i : Nat) (hi : i < 16) : word f i = word g i := by
  unfold word; rw [h (4 * i) (by omega), h (4 * i + 1) (by omega), h (4 * i + 2) (by omega), h (4 * i + 3) (by omega)]
theorem mixed_congr (s : St) (f g : Nat → UInt8) (h : ∀ i, i < 64 → f i = g i) : mixed s f = mixed s g := by
  unfold mixed; rw [wAt_congr _ _ (word_congr f g h)]
/-- Blocks hang on their own bytes alone. -/
theorem blocks_congr (f g : Nat → UInt8) (n : Nat) (h : ∀ i, i < 64 * n → f i = g i) : blocks f n = blocks g n := by
  induction n with
  | zero => simp only [blocks]
  | succ n ih =>
    simp only [blocks]
    rw [ih fun i hi => h i (by omega)]
    exact mixed_congr _ _ _ fun j hj => h (64 * n + j) (by omega)
end Sh
end Go.Proofs.YthmpmpofhpkmjaaDoor
