/-
  Words of 32 and 64 bits as whole numbers: what sums, shifts and the bitwise operations come to. No program here. No conditions.
  The sums of 256 bits in plain words: schedule, rounds, blocks, the text that is summed. No program here. No conditions.
  The program's sums (package sha): a word turned; and the document's own: a word cut and turned. No conditions but that a turn is by 1 to 31.
  The program's sums (package sha): the words of a block, and those that come of them. Condition: 64 bytes stand where it looks.
  The program's sums (package sha): 64 bytes go into the eight words. Conditions: the sum on its way, and the constants, stand where it looks.
-/
import Derived.Test.YtlechjpaldpgnaaGreatDoorMg1
import Derived.Laws.Entries
import Derived.RowKit
import Derived.IntWalk
import Derived.StillTailTactics
import Derived.BigRegion
set_option maxRecDepth 100000
namespace Go.Proofs.YtlechjpaldpgnaaGreatDoor
namespace Sh
open Go Go.RowKit

def tn (x : BitVec 32) : Int := (x.toNat : Int)
def t6 (x : BitVec 64) : Int := (x.toNat : Int)
def zx (x : BitVec 32) : BitVec 64 := x.setWidth 64
def lo (x : BitVec 64) : BitVec 32 := x.setWidth 32
def rotr (n : Int) (x : BitVec 32) : BitVec 32 := x >>> n.toNat ||| x <<< (32 - n.toNat)
def shr (n : Nat) (x : BitVec 32) : BitVec 32 := x >>> n
def b32 (b : UInt8) : BitVec 32 := b.toBitVec.setWidth 32
def be (a b c d : UInt8) : BitVec 32 := ((b32 a <<< 24 ||| b32 b <<< 16) ||| b32 c <<< 8) ||| b32 d

theorem tn_lo (x : BitVec 32) : 0 ≤ tn x := by unfold tn; omega
theorem tn_hi (x : BitVec 32) : tn x ≤ 4294967295 := by unfold tn; have := x.isLt; omega
theorem t6_lo (x : BitVec 64) : 0 ≤ t6 x := by unfold t6; omega
theorem t6_hi (x : BitVec 64) : t6 x ≤ 18446744073709551615 := by unfold t6; have := x.isLt; omega
theorem tn_zx (x : BitVec 32) : t6 (zx x) = tn x := by unfold t6 zx tn; simp; omega
theorem zx_hi (x : BitVec 32) : t6 (zx x) ≤ 4294967295 := by rw [tn_zx]; exact tn_hi x
theorem tn_inj {x y : BitVec 32} (h : tn x = tn y) : x = y := BitVec.eq_of_toNat_eq (by unfold tn at h; omega)

theorem ofInt_tn (x : BitVec 32) : BitVec.ofInt 32 (tn x) = x := by unfold tn; rw [BitVec.ofInt_natCast, BitVec.ofNat_toNat, BitVec.setWidth_eq]
theorem ofInt_t6 (x : BitVec 64) : BitVec.ofInt 64 (t6 x) = x := by unfold t6; rw [BitVec.ofInt_natCast, BitVec.ofNat_toNat, BitVec.setWidth_eq]
theorem wrap_u32' (n : Int) : IntKind.u32.wrap n = n % 4294967296 := by simp [IntKind.wrap, IntKind.bits, IntKind.signed]
theorem wrap_u64' (n : Int) : IntKind.u64.wrap n = n % 18446744073709551616 := by simp [IntKind.wrap, IntKind.bits, IntKind.signed]
theorem wrap_tn (x : BitVec 32) : IntKind.u32.wrap (x.toNat : Int) = tn x := by
  rw [wrap_u32']; unfold tn; have := x.isLt; omega
theorem wrap_t6 (x : BitVec 64) : IntKind.u64.wrap (x.toNat : Int) = t6 x := by
  rw [wrap_u64']; unfold t6; have := x.isLt; omega

theorem xor_u32 (a b : BitVec 32) : bits .xor .u32 (tn a) (tn b) = tn (a ^^^ b) := by
  show IntKind.u32.wrap ((BitVec.ofInt 32 (tn a) ^^^ BitVec.ofInt 32 (tn b)).toNat : Int) = _
  rw [ofInt_tn, ofInt_tn, wrap_tn]
theorem and_u32 (a b : BitVec 32) : bits .and .u32 (tn a) (tn b) = tn (a &&& b) := by
  show IntKind.u32.wrap ((BitVec.ofInt 32 (tn a) &&& BitVec.ofInt 32 (tn b)).toNat : Int) = _
  rw [ofInt_tn, ofInt_tn, wrap_tn]
theorem or_u32 (a b : BitVec 32) : bits .or .u32 (tn a) (tn b) = tn (a ||| b) := by
  show IntKind.u32.wrap ((BitVec.ofInt 32 (tn a) ||| BitVec.ofInt 32 (tn b)).toNat : Int) = _
  rw [ofInt_tn, ofInt_tn, wrap_tn]
theorem xor_u64 (a b : BitVec 64) : bits .xor .u64 (t6 a) (t6 b) = t6 (a ^^^ b) := by
  show IntKind.u64.wrap ((BitVec.ofInt 64 (t6 a) ^^^ BitVec.ofInt 64 (t6 b)).toNat : Int) = _
  rw [ofInt_t6, ofInt_t6, wrap_t6]
theorem and_u64 (a b : BitVec 64) : bits .and .u64 (t6 a) (t6 b) = t6 (a &&& b) := by
  show IntKind.u64.wrap ((BitVec.ofInt 64 (t6 a) &&& BitVec.ofInt 64 (t6 b)).toNat : Int) = _
  rw [ofInt_t6, ofInt_t6, wrap_t6]
theorem or_u64 (a b : BitVec 64) : bits .or .u64 (t6 a) (t6 b) = t6 (a ||| b) := by
  show IntKind.u64.wrap ((BitVec.ofInt 64 (t6 a) ||| BitVec.ofInt 64 (t6 b)).toNat : Int) = _
  rw [ofInt_t6, ofInt_t6, wrap_t6]
theorem add_u32 (a b : BitVec 32) : IntKind.u32.wrap (tn a + tn b) = tn (a + b) := by
  rw [wrap_u32']; unfold tn; rw [BitVec.toNat_add]; omega
theorem add_u64 (a b : BitVec 64) : IntKind.u64.wrap (t6 a + t6 b) = t6 (a + b) := by
  rw [wrap_u64']; unfold t6; rw [BitVec.toNat_add]; omega
theorem lo_u64 (a : BitVec 64) : bits .and .u64 (t6 a) 4294967295 = t6 (zx (lo a)) := by
  have e : (4294967295 : Int) = t6 4294967295#64 := rfl
  rw [e, and_u64]
  congr 1
  apply BitVec.eq_of_toNat_eq
  have h := Nat.and_two_pow_sub_one_eq_mod a.toNat 32
  simp [zx, lo] at h ⊢
  omega

theorem not_u32 (a : BitVec 32) : bits .xor .u32 (if IntKind.u32.signed = true then -1 else IntKind.u32.max) (tn a) = tn (~~~ a) := by
  have e : (if IntKind.u32.signed = true then (-1 : Int) else IntKind.u32.max) = tn (BitVec.allOnes 32) := by decide
  rw [e, xor_u32]
  congr 1
theorem not_u64 (a : BitVec 64) : bits .xor .u64 (if IntKind.u64.signed = true then -1 else IntKind.u64.max) (t6 a) = t6 (~~~ a) := by
  have e : (if IntKind.u64.signed = true then (-1 : Int) else IntKind.u64.max) = t6 (BitVec.allOnes 64) := by decide
  rw [e, xor_u64]
  congr 1
theorem add_u32m (a b : BitVec 32) : (tn a + tn b) % 4294967296 = tn (a + b) := by rw [← wrap_u32', add_u32]
/-- Shifts as the walk writes them: by a count that is a numeral. -/
theorem shr_u32 (x : BitVec 32) (n : Nat) : tn x / 2 ^ n = tn (shr n x) := by
  unfold tn shr; rw [BitVec.toNat_ushiftRight, Nat.shiftRight_eq_div_pow]; simp
theorem shl_u32 (x : BitVec 32) (n : Nat) : IntKind.u32.wrap (tn x * 2 ^ n) = tn (x <<< n) := by
  rw [wrap_u32']; unfold tn; rw [BitVec.toNat_shiftLeft, Nat.shiftLeft_eq]; simp
theorem shr_u64 (x : BitVec 64) (n : Nat) : t6 x / 2 ^ n = t6 (x >>> n) := by
  unfold t6; rw [BitVec.toNat_ushiftRight, Nat.shiftRight_eq_div_pow]; simp
theorem shl_u64 (x : BitVec 64) (n : Nat) : IntKind.u64.wrap (t6 x * 2 ^ n) = t6 (x <<< n) := by
  rw [wrap_u64']; unfold t6; rw [BitVec.toNat_shiftLeft, Nat.shiftLeft_eq]; simp

theorem zx_shr (x : BitVec 32) (n : Nat) : zx x >>> n = zx (shr n x) := by
  apply BitVec.eq_of_toNat_eq; simp [zx, shr]
theorem zx_xor (x y : BitVec 32) : zx x ^^^ zx y = zx (x ^^^ y) := by unfold zx; rw [BitVec.setWidth_xor]
theorem zx_and (x y : BitVec 32) : zx x &&& zx y = zx (x &&& y) := by unfold zx; rw [BitVec.setWidth_and]
theorem lo_zx (x : BitVec 32) : lo (zx x) = x := by unfold lo zx; simp
theorem lo_add (x y : BitVec 64) : lo (x + y) = lo x + lo y := by unfold lo; exact BitVec.setWidth_add _ _ (by decide)
theorem lo_not (x : BitVec 64) : lo (~~~ x) = ~~~ (lo x) := by
  apply BitVec.eq_of_getElem_eq; intro i hi; simp [lo]

theorem b32_val (b : UInt8) : (b.toNat : Int) = tn (b32 b) := by unfold tn b32; simp
theorem b32_wrap (b : UInt8) : IntKind.u32.wrap (b.toNat : Int) = tn (b32 b) := by rw [wrap_u32', b32_val]; have := tn_lo (b32 b); have := tn_hi (b32 b); omega
theorem turn_u64 (x : BitVec 32) (n : Int) (h1 : 1 ≤ n) (h2 : n ≤ 31) : lo (zx x >>> n.toNat ||| zx x <<< (32 - n.toNat)) = rotr n x := by
  unfold lo zx rotr
  apply BitVec.eq_of_getElem_eq
  intro i hi
  have h : n.toNat + i < 64 := by omega
  simp [h]
theorem rotr_u32 (x : BitVec 32) (n : Int) : x <<< (32 - n.toNat) ||| x >>> n.toNat = rotr n x := by unfold rotr; rw [BitVec.or_comm]
end Sh
end Go.Proofs.YtlechjpaldpgnaaGreatDoor
namespace Go.Proofs.YtlechjpaldpgnaaGreatDoor
namespace Sh
open Go Go.RowKit

/-- Eight words. -/
structure St where
  a : BitVec 32
  b : BitVec 32
  c : BitVec 32
  d : BitVec 32
  e : BitVec 32
  f : BitVec 32
  g : BitVec 32
  h : BitVec 32
deriving DecidableEq

def kList : List Nat := [1116352408, 1899447441, 3049323471, 3921009573, 961987163, 1508970993, 2453635748, 2870763221, 3624381080, 310598401, 607225278, 1426881987, 1925078388, 2162078206, 2614888103, 3248222580, 3835390401, 4022224774, 264347078, 604807628, 770255983, 1249150122, 1555081692, 1996064986, 2554220882, 2821834349, 2952996808, 3210313671, 3336571891, 3584528711, 113926993, 338241895, 666307205, 773529912, 1294757372, 1396182291, 1695183700, 1986661051, 2177026350, 2456956037, 2730485921, 2820302411, 3259730800, 3345764771, 3516065817, 3600352804, 4094571909, 275423344, 430227734, 506948616, 659060556, 883997877, 958139571, 1322822218, 1537002063, 1747873779, 1955562222, 2024104815, 2227730452, 2361852424, 2428436474, 2756734187, 3204031479, 3329325298]
def kAt (i : Nat) : BitVec 32 := BitVec.ofNat 32 (kList.getD i 0)
def iv : St := ⟨1779033703, 3144134277, 1013904242, 2773480762, 1359893119, 2600822924, 528734635, 1541459225⟩
def St.at (s : St) : Nat → BitVec 32
  | 0 => s.a | 1 => s.b | 2 => s.c | 3 => s.d | 4 => s.e | 5 => s.f | 6 => s.g | _ => s.h

def sg0 (x : BitVec 32) : BitVec 32 := rotr 7 x ^^^ rotr 18 x ^^^ shr 3 x
def sg1 (x : BitVec 32) : BitVec 32 := rotr 17 x ^^^ rotr 19 x ^^^ shr 10 x
def T1 (k w : BitVec 32) (s : St) : BitVec 32 := s.h + (rotr 6 s.e ^^^ rotr 11 s.e ^^^ rotr 25 s.e) + ((s.e &&& s.f) ^^^ (~~~s.e &&& s.g)) + k + w
def T2 (s : St) : BitVec 32 := (rotr 2 s.a ^^^ rotr 13 s.a ^^^ rotr 22 s.a) + ((s.a &&& s.b) ^^^ (s.a &&& s.c) ^^^ (s.b &&& s.c))
def rnd (k w : BitVec 32) (s : St) : St := ⟨T1 k w s + T2 s, s.a, s.b, s.c, s.d + T1 k w s, s.e, s.f, s.g⟩
def runs (w : Nat → BitVec 32) (s : St) : Nat → St
  | 0 => s
  | i + 1 => rnd (kAt i) (w i) (runs w s i)
def plusSt (s t : St) : St := ⟨s.a + t.a, s.b + t.b, s.c + t.c, s.d + t.d, s.e + t.e, s.f + t.f, s.g + t.g, s.h + t.h⟩
theorem plusSt_at (s t : St) (i : Nat) : (plusSt s t).at i = s.at i + t.at i := by
  unfold St.at; split <;> rfl

/-- The words of a block and those that come of them, the newest first. -/
def wRow (m : Nat → BitVec 32) : Nat → List (BitVec 32)
  | 0 => []
  | i + 1 => (if i < 16 then m i else (wRow m i).getD 15 0 + sg0 ((wRow m i).getD 14 0) + (wRow m i).getD 6 0 + sg1 ((wRow m i).getD 1 0)) :: wRow m i
def wAt (m : Nat → BitVec 32) (i : Nat) : BitVec 32 := (wRow m (i + 1)).getD 0 0
theorem wRow_get (m : Nat → BitVec 32) (i j : Nat) (h : j < i) : (wRow m i).getD j 0 = wAt m (i - 1 - j) := by
  induction i generalizing j with
  | zero => omega
  | succ i ih =>
    cases j with
    | zero => rfl
    | succ j =>
      have := ih j (by omega)
      simp only [wRow, List.getD_cons_succ]
      rw [this]
      congr 1
      omega
theorem wAt_first (m : Nat → BitVec 32) (i : Nat) (h : i < 16) : wAt m i = m i := by
  unfold wAt; simp only [wRow, List.getD_cons_zero]; rw [if_pos h]
theorem wAt_next (m : Nat → BitVec 32) (i : Nat) (h : 16 ≤ i) : wAt m i = wAt m (i - 16) + sg0 (wAt m (i - 15)) + wAt m (i - 7) + sg1 (wAt m (i - 2)) := by
  conv => lhs; unfold wAt
  simp only [wRow, List.getD_cons_zero]
  rw [if_neg (by omega), wRow_get m i 15 (by omega), wRow_get m i 14 (by omega), wRow_get m i 6 (by omega), wRow_get m i 1 (by omega)]
  have e1 : i - 1 - 15 = i - 16 := by omega
  have e2 : i - 1 - 14 = i - 15 := by omega
  have e3 : i - 1 - 6 = i - 7 := by omega
  have e4 : i - 1 - 1 = i - 2 := by omega
  rw [e1, e2, e3, e4]

/-- The words of 64 bytes, told by a function. -/
def word (b : Nat → UInt8) (i : Nat) : BitVec 32 := be (b (4 * i)) (b (4 * i + 1)) (b (4 * i + 2)) (b (4 * i + 3))
def mixed (s : St) (b : Nat → UInt8) : St := plusSt s (runs (wAt (word b)) s 64)
def blocks (l : Nat → UInt8) : Nat → St
  | 0 => iv
  | n + 1 => mixed (blocks l n) (fun j => l (64 * n + j))

def byteAt (l : List UInt8) (i : Nat) : UInt8 := l.getD i 0
/-- The eight bytes of a number, the highest first. -/
def be8 (n : Nat) : List UInt8 := (List.range 8).map fun i => UInt8.ofNat (n / 2 ^ (8 * (7 - i)))
def zeros (n : Nat) : Nat := (119 - n % 64) % 64
def padded (l : List UInt8) : List UInt8 := l ++ [128] ++ List.replicate (zeros l.length) 0 ++ be8 (8 * l.length)
def sumSt (l : List UInt8) : St := blocks (byteAt (padded l)) ((padded l).length / 64)
def sumByte (s : St) (i : Nat) : UInt8 := UInt8.ofNat ((s.at (i / 4)).toNat / 2 ^ (24 - 8 * (i % 4)))
/-- The sum's 32 bytes. -/
def sum (l : List UInt8) : List UInt8 := (List.range 32).map (sumByte (sumSt l))
theorem sum_length (l : List UInt8) : (sum l).length = 32 := by simp [sum]
theorem be8_length (n : Nat) : (be8 n).length = 8 := by simp [be8]
theorem padded_length (l : List UInt8) : (padded l).length = l.length + 9 + zeros l.length := by simp [padded, be8_length]; omega
theorem padded_mod (l : List UInt8) : (padded l).length % 64 = 0 := by rw [padded_length]; unfold zeros; omega

theorem wRow_congr (m m' : Nat → BitVec 32) (h : ∀ i, i < 16 → m i = m' i) (i : Nat) : wRow m i = wRow m' i := by
  induction i with
  | zero => simp only [wRow]
  | succ i ih =>
    simp only [wRow]
    rw [ih]
    by_cases hi : i < 16
    · rw [if_pos hi, if_pos hi, h i hi]
    · rw [if_neg hi, if_neg hi]
theorem wAt_congr (m m' : Nat → BitVec 32) (h : ∀ i, i < 16 → m i = m' i) : wAt m = wAt m' := by
  funext i; unfold wAt; rw [wRow_congr m m' h]
theorem word_congr (f g : Nat → UInt8) (h : ∀ i, i < 64 → f i = g i) (i : Nat) (hi : i < 16) : word f i = word g i := by
  unfold word; rw [h (4 * i) (by omega), h (4 * i + 1) (by omega), h (4 * i + 2) (by omega), h (4 * i + 3) (by omega)]
theorem mixed_congr (s : St) (f g : Nat → UInt8) (h : ∀ i, i < 64 → f i = g i) : mixed s f = mixed s g := by
  unfold mixed; rw [wAt_congr _ _ (word_congr f g h)]
/-- Blocks hang on their own bytes alone. -/
theorem blocks_congr (f g : Nat → UInt8) (n : Nat) (h : ∀ i, i < 64 * n → f i = g i) : blocks f n = blocks g n := by
  induction n with
  | zero => simp only [blocks]
  | succ n ih =>
    simp only [blocks]
    rw [ih fun i hi => h i (by omega)]
    exact mixed_congr _ _ _ fun j hj => h (64 * n + j) (by omega)
end Sh
end Go.Proofs.YtlechjpaldpgnaaGreatDoor
namespace Go.Proofs.YtlechjpaldpgnaaGreatDoor
open Go.ChangeShapes Go.WideShapes Go.ChangeAt Go.RowKit Sh

theorem and31 (n : Int) (h1 : 1 ≤ n) (h2 : n ≤ 31) : bits .and .u64 (IntKind.u64.wrap (-n)) 31 = 32 - n := by
  obtain ⟨k, rfl⟩ : ∃ k : Nat, n = k := ⟨n.toNat, by omega⟩
  have key : ∀ k : Fin 32, 1 ≤ k.val → bits .and .u64 (IntKind.u64.wrap (-(k.val : Int))) 31 = 32 - (k.val : Int) := by decide
  exact key ⟨k, by omega⟩ (by show 1 ≤ k; omega)
theorem ret_v {k : IntKind} {a b : Int} (h : a = b) : Ending.returned (.int k a) = .returned (.int k b) := by rw [h]
theorem rot_val (x : BitVec 32) (n : Int) (h1 : 1 ≤ n) (h2 : n ≤ 31) : bits .or .u32 (tn x * 2 ^ (32 - n).toNat % 4294967296) (tn x / 2 ^ (32 - (32 - n)).toNat) = tn (rotr n x) := by
  rw [← wrap_u32', shl_u32, shr_u32, or_u32, show (32 - n).toNat = 32 - n.toNat by omega, show (32 - (32 - n)).toNat = n.toNat by omega]
  exact congrArg tn (rotr_u32 x n)
theorem turned_any (x : BitVec 32) (n : Int) (w : World) (h1 : 1 ≤ n) (h2 : n ≤ 31) :
    Calls Tryz.prog 124 #[.int .u32 (tn x), .int .i64 n] w fun e w' => e = .returned (.int .u32 (tn (rotr n x))) ∧ w = w' := by
  have ha := and31 n h1 h2
  have HV := Lib.hid (rot_val x n h1 h2)
  go_enter Tryz.func124, Tryz.ntmps124
  go_wp2
  go_ret
  exact ⟨ret_v HV.out, rfl⟩
theorem cut_any (x : BitVec 64) (w : World) :
    Calls Tryz.prog 109 #[.int .u64 (t6 x)] w fun e w' => e = .returned (.int .u64 (t6 (zx (lo x)))) ∧ w = w' := by
  go_enter Tryz.func109, Tryz.ntmps109
  go_wp2
  go_ret
  exact ⟨ret_v (lo_u64 x), rfl⟩
theorem turn_val (x : BitVec 32) (n : Int) (h1 : 1 ≤ n) (h2 : n ≤ 31) :
    ∃ y, bits .or .u64 (t6 (zx x) / 2 ^ n.toNat) (IntKind.u64.wrap (t6 (zx x) * 2 ^ (32 - n).toNat)) = t6 y ∧ lo y = rotr n x :=
  ⟨zx x >>> n.toNat ||| zx x <<< (32 - n.toNat), by rw [shl_u64, shr_u64, or_u64, show (32 - n).toNat = 32 - n.toNat by omega], turn_u64 x n h1 h2⟩
theorem turn_any (x : BitVec 32) (n : Int) (w : World) (h1 : 1 ≤ n) (h2 : n ≤ 31) :
    Calls Tryz.prog 108 #[.int .u64 (t6 (zx x)), .int .i64 n] w fun e w' => e = .returned (.int .u64 (t6 (zx (rotr n x)))) ∧ ∃ k, w' = w.drewN k := by
  obtain ⟨y, hy, hl⟩ := turn_val x n h1 h2
  have HL := Lib.hid hl
  clear hl
  go_enter Tryz.func108, Tryz.ntmps108
  go_wp2
  have h3 : IntKind.i64.wrap (32 - n) = 32 - n := IntWalk.i64_in _ (by omega)
  have h4 : 0 ≤ 32 - n := by omega
  have h5 : 0 ≤ n := by omega
  have h6 : n ≤ 64 := by omega
  have h7 : 32 - n ≤ 64 := by omega
  go_quiet ((go_at_call 109; exact quiet_here (cut_any _ _)))
  go_wp2
  go_ret
  exact ⟨ret_v (by rw [HL.out]), _, rfl⟩
end Go.Proofs.YtlechjpaldpgnaaGreatDoor
namespace Go.Proofs.YtlechjpaldpgnaaGreatDoor
open Go.ChangeShapes Go.WideShapes Go.ChangeAt Go.RowKit Sh

/-- What holds while the words are made: nothing that was there has turned; the new words' row holds the first n words. -/
structure Spr (w wr : World) (bt : Nat → UInt8) (n : Nat) : Prop where
  below : Below w.heap.size w wr
  size : wr.heap.size = w.heap.size + 2
  row : wr.rowIs (w.heap.size + 1) 195 64 (fun j => .int .u32 (if j < n then tn (wAt (word bt) j) else 0))
  res : wr.rowIs w.heap.size 195 64 (fun _ => .int .u32 0)

theorem Spr.drew {w wr : World} {bt : Nat → UInt8} {n : Nat} (h : Spr w wr bt n) : Spr w wr.drew bt n := ⟨below_drewN h.below 1, h.size, h.row, h.res⟩
theorem Spr.drewN {w wr : World} {bt : Nat → UInt8} {n : Nat} (h : Spr w wr bt n) (m : Nat) : Spr w (wr.drewN m) bt n := ⟨below_drewN h.below m, h.size, h.row, h.res⟩
theorem Spr.put {w wr : World} {bt : Nat → UInt8} {n : Nat} (h : Spr w wr bt n) {v : Int} (hv : v = tn (wAt (word bt) n)) : Spr w (wr.setCell ⟨w.heap.size + 1, n, none⟩ (.int .u32 v)) bt (n + 1) := by
  refine ⟨h.below.setCell (by show w.heap.size ≤ w.heap.size + 1; omega) _, by simp [h.size], (h.row.set n _).congr fun j _ => ?_, h.res.setOther (by show w.heap.size ≠ w.heap.size + 1; omega) _⟩
  by_cases e : j = n
  · subst e; rw [if_pos rfl, hv, if_pos (by omega)]
  · rw [if_neg e]
    by_cases hlt : j < n
    · rw [if_pos hlt, if_pos (by omega)]
    · rw [if_neg hlt, if_neg (by omega)]
theorem word_val (a b c d : UInt8) : bits .or .u32 (bits .or .u32 (bits .or .u32 (IntKind.u32.wrap (IntKind.u32.wrap (a.toNat : Int) * 16777216)) (IntKind.u32.wrap (IntKind.u32.wrap (b.toNat : Int) * 65536)))
    (IntKind.u32.wrap (IntKind.u32.wrap (c.toNat : Int) * 256))) (IntKind.u32.wrap (d.toNat : Int)) = tn (be a b c d) := by
  have h24 := shl_u32 (b32 a) 24
  have h16 := shl_u32 (b32 b) 16
  have h8 := shl_u32 (b32 c) 8
  rw [show (2 : Int) ^ 24 = 16777216 from rfl] at h24
  rw [show (2 : Int) ^ 16 = 65536 from rfl] at h16
  rw [show (2 : Int) ^ 8 = 256 from rfl] at h8
  rw [b32_wrap, b32_wrap, b32_wrap, b32_wrap, h24, h16, h8, or_u32, or_u32, or_u32]
  rfl

theorem Spr.get {w wr : World} {bt : Nat → UInt8} {n : Nat} (h : Spr w wr bt n) (j : Nat) (hj : j < n) (h6 : j < 64) : wr.cell? ⟨w.heap.size + 1, j, none⟩ = some (.int .u32 (tn (wAt (word bt) j))) := by
  have := h.row.cell h6
  rwa [if_pos hj] at this
theorem sg0_val (x : BitVec 32) : bits .xor .u32 (bits .xor .u32 (tn (rotr 7 x)) (tn (rotr 18 x))) (tn x / 8) = tn (sg0 x) := by
  rw [show (8 : Int) = 2 ^ 3 from rfl, shr_u32, xor_u32, xor_u32]; rfl
theorem sg1_val (x : BitVec 32) : bits .xor .u32 (bits .xor .u32 (tn (rotr 17 x)) (tn (rotr 19 x))) (tn x / 1024) = tn (sg1 x) := by
  rw [show (1024 : Int) = 2 ^ 10 from rfl, shr_u32, xor_u32, xor_u32]; rfl

set_option maxRecDepth 100000 in
set_option maxHeartbeats 800000 in
theorem spread_any (b : Nat) (bt : Nat → UInt8) (w : World) (hc : ∀ j, j < 64 → w.cell? ⟨b, 8 + j, none⟩ = some (.int .u8 ((bt j).toNat : Int))) :
    Calls Tryz.prog 123 #[.pointer (some ⟨b, 8, none⟩)] w fun e w' =>
      e = .returned (.agg (vals 64 fun i => .int .u32 (tn (wAt (word bt) i)))) ∧ Below w.heap.size w w' := by
  have hb : b < w.heap.size := block_lt_of_cell (hc 0 (by omega))
  have HC := Lib.hid hc
  clear hc
  go_enter Tryz.func123, Tryz.ntmps123
  go_wp2
  go_loopw [8] (fun i wr => ∃ k : Nat, k ≤ 16 ∧ i = .int .i64 k ∧ Spr w wr bt k) (fun i _ => 16 - (intOf i).toNat)
  case atStart =>
    refine ⟨0, by omega, rfl, ((Below.refl _ _).alloc (Nat.le_refl _) _).alloc (by simp) _, by simp, ?_, ?_⟩
    · exact row_alloc _ (by simp) (by kernel_rfl)
    · exact (row_alloc _ rfl (by kernel_rfl)).alloc _
  case round =>
    obtain ⟨k, hk, rfl, hs⟩ := hrel
    by_cases hlt : k < 16
    · have c0 := (hs.below.cell (p := ⟨b, 8 + (4 * k), none⟩) hb).trans (HC.out (4 * k) (by omega))
      have c1 := (hs.below.cell (p := ⟨b, 8 + (4 * k + 1), none⟩) hb).trans (HC.out (4 * k + 1) (by omega))
      have c2 := (hs.below.cell (p := ⟨b, 8 + (4 * k + 2), none⟩) hb).trans (HC.out (4 * k + 2) (by omega))
      have c3 := (hs.below.cell (p := ⟨b, 8 + (4 * k + 3), none⟩) hb).trans (HC.out (4 * k + 3) (by omega))
      have HV := Lib.hid (word_val (bt (4 * k)) (bt (4 * k + 1)) (bt (4 * k + 2)) (bt (4 * k + 3)))
      simp only [wrap_u32'] at HV
      have e0 : IntKind.i64.wrap (4 * (k : Int)) = 4 * (k : Int) := IntWalk.i64_in _ (by omega)
      have e1 : IntKind.i64.wrap (4 * (k : Int) + 1) = 4 * (k : Int) + 1 := IntWalk.i64_in _ (by omega)
      have e2 : IntKind.i64.wrap (4 * (k : Int) + 2) = 4 * (k : Int) + 2 := IntWalk.i64_in _ (by omega)
      have e3 : IntKind.i64.wrap (4 * (k : Int) + 3) = 4 * (k : Int) + 3 := IntWalk.i64_in _ (by omega)
      have n0 : (4 * (k : Int)).toNat = 4 * k := by omega
      have n1 : (4 * (k : Int) + 1).toNat = 4 * k + 1 := by omega
      have n2 : (4 * (k : Int) + 2).toNat = 4 * k + 2 := by omega
      have n3 : (4 * (k : Int) + 3).toNat = 4 * k + 3 := by omega
      have l0 : 0 ≤ 4 * (k : Int) := by omega
      have l1 : 0 ≤ 4 * (k : Int) + 1 := by omega
      have l2 : 0 ≤ 4 * (k : Int) + 2 := by omega
      have l3 : 0 ≤ 4 * (k : Int) + 3 := by omega
      have m0 : 4 * (k : Int) < 64 := by omega
      have m1 : 4 * (k : Int) + 1 < 64 := by omega
      have m2 : 4 * (k : Int) + 2 < 64 := by omega
      have m3 : 4 * (k : Int) + 3 < 64 := by omega
      have lk : 0 ≤ (k : Int) := by omega
      have mk : (k : Int) < 64 := by omega
      go_wp2
      go_still_tail 39, (by kernel_rfl)
      change wpList _ _ _ _ _ wr.drew
      have hs' := hs.drew
      clear hs c0 c1 c2 c3 e0 e1 e2 e3 n0 n1 n2 n3 l0 l1 l2 l3 m0 m1 m2 m3
      generalize wr.drew = w2 at hs' ⊢
      have r0 := hs'.row.cell (i := k) (by omega)
      have f0 := hs'.row.frozen k
      go_wp2
      go_roundw
      case rel => exact ⟨k + 1, by omega, by go_num, hs'.put (by rw [HV.out, wAt_first _ _ (by omega)]; rfl)⟩
      case measure => simp [intOf]; omega
    · have HK := Lib.hid (show k = 16 by omega)
      go_wp2
      go_loopw [5] (fun i wr => ∃ k : Nat, 16 ≤ k ∧ k ≤ 64 ∧ i = .int .i64 k ∧ Spr w wr bt k) (fun i _ => 64 - (intOf i).toNat)
      case atStart => exact ⟨16, by omega, by omega, rfl, HK.out ▸ hs⟩
      case round =>
        clear hs hlt hk HK
        obtain ⟨k, h16, hk, rfl, hs⟩ := hrel
        by_cases hlt : k < 64
        · have v0 := sg0_val (wAt (word bt) (k - 15))
          have v1 := sg1_val (wAt (word bt) (k - 2))
          have HN := Lib.hid (wAt_next (word bt) k h16)
          have e0 : IntKind.i64.wrap ((k : Int) - 15) = (k : Int) - 15 := IntWalk.i64_in _ (by omega)
          have e1 : IntKind.i64.wrap ((k : Int) - 2) = (k : Int) - 2 := IntWalk.i64_in _ (by omega)
          have n0 : ((k : Int) - 15).toNat = k - 15 := by omega
          have n1 : ((k : Int) - 2).toNat = k - 2 := by omega
          have l0 : 0 ≤ (k : Int) - 15 := by omega
          have l1 : 0 ≤ (k : Int) - 2 := by omega
          have m0 : (k : Int) - 15 < 64 := by omega
          have m1 : (k : Int) - 2 < 64 := by omega
          have r15 := hs.get (k - 15) (by omega) (by omega)
          go_wp2
          go_quiet ((go_at_call 124; exact quiet_here (turned_any _ _ _ (by omega) (by omega))))
          have hs1 := hs.drewN nq
          clear r15 hs
          generalize wr.drewN nq = wa at hs1 ⊢
          have r2 := hs1.get (k - 2) (by omega) (by omega)
          go_wp2
          go_quiet ((go_at_call 124; exact quiet_here (turned_any _ _ _ (by omega) (by omega))))
          have hs2 := hs1.drewN nq
          clear r2 hs1 v0 v1 e0 e1 n0 n1 l0 l1 m0 m1
          generalize wa.drewN nq = wb at hs2 ⊢
          have r16 := hs2.get (k - 16) (by omega) (by omega)
          have r7 := hs2.get (k - 7) (by omega) (by omega)
          have e0 : IntKind.i64.wrap ((k : Int) - 16) = (k : Int) - 16 := IntWalk.i64_in _ (by omega)
          have e1 : IntKind.i64.wrap ((k : Int) - 7) = (k : Int) - 7 := IntWalk.i64_in _ (by omega)
          have n0 : ((k : Int) - 16).toNat = k - 16 := by omega
          have n1 : ((k : Int) - 7).toNat = k - 7 := by omega
          have l0 : 0 ≤ (k : Int) - 16 := by omega
          have l1 : 0 ≤ (k : Int) - 7 := by omega
          have m0 : (k : Int) - 16 < 64 := by omega
          have m1 : (k : Int) - 7 < 64 := by omega
          have lk : 0 ≤ (k : Int) := by omega
          have mk : (k : Int) < 64 := by omega
          have ka := add_u32
          have x0 : 16 ≤ (k : Int) := by omega
          have x1 : 7 ≤ (k : Int) := by omega
          go_wp2
          go_still_tail 15, (by kernel_rfl)
          change wpList _ _ _ _ _ wb.drew
          have hs3 := hs2.drew
          clear hs2 r16 r7 e0 e1 n0 n1 l0 l1 m0 m1
          generalize wb.drew = wc at hs3 ⊢
          have r0 := hs3.row.cell (i := k) (by omega)
          have f0 := hs3.row.frozen k
          go_wp2
          go_roundw
          case rel => exact ⟨k + 1, by omega, by omega, by go_num, hs3.put (by rw [HN.out])⟩
          case measure => simp [intOf]; omega
        · obtain rfl : k = 64 := by omega
          have hrow : wr.rowIs (w.heap.size + 1) 195 64 (fun i => .int .u32 (tn (wAt (word bt) i))) := hs.row.congr fun j hj => by rw [if_pos hj]
          have h1 := row_block hrow
          have h2 := row_block hs.res
          have hi : ∀ f, (Tryz.prog.info? 195).map (·.size) = some (vals 64 f).size := fun f => info_vals f (by kernel_rfl)
          have ho : (vals 64 fun i => Value.int .u32 (tn (wAt (word bt) i))).all (·.oneCell') = true := vals_one fun _ => rfl
          have hz : (vals 64 fun _ => Value.int .u32 0).size = (vals 64 fun i => Value.int .u32 (tn (wAt (word bt) i))).size := by rw [vals_size, vals_size]
          have hbl := below_setRow' hs.below (Nat.le_refl _) (vals 64 fun i => Value.int .u32 (tn (wAt (word bt) i)))
          have h3 := row_block (row_setRow (g := fun i => Value.int .u32 (tn (wAt (word bt) i))) hs.res)
          clear hs hrow
          have H1 := Lib.hid h1
          have H2 := Lib.hid h2
          have H3 := Lib.hid h3
          have HI := Lib.hid hi
          have HZ := Lib.hid hz
          have HO := Lib.hid ho
          clear h1 h2 h3 hi hz ho
          go_wp2_with (first
            | (with_reducible refine wpList_load_row rfl 195 _ rfl _ rfl 195 _ _ _ H1.out Tryz.underlying195 rfl (HI.out _) ?_)
            | (with_reducible refine wpList_store_row rfl 195 _ _ rfl _ _ rfl rfl 195 _ H2.out (HI.out _) HZ.out HO.out ?_))
          refine bodyPost_ret (results_cell_row rfl _ _ _ 195 _ _ _ rfl H3.out Tryz.underlying195 rfl (HI.out _)) rfl ?_
          exact ⟨rfl, hbl⟩
end Go.Proofs.YtlechjpaldpgnaaGreatDoor
namespace Go.Proofs.YtlechjpaldpgnaaGreatDoor
open Go.ChangeShapes Go.WideShapes Go.ChangeAt Go.RowKit Sh

/-- A sum on its way, cell by cell: eight words, 64 bytes, a count. -/
def runF (s : St) (bt : Nat → UInt8) (n : Int) : Nat → Value := fun j => if j < 8 then .int .u32 (tn (s.at j)) else if j < 72 then .int .u8 ((bt (j - 8)).toNat : Int) else .int .u64 n
/-- The constants lie in the second variable. -/
def KOn (w : World) : Prop := ∀ i, i < 64 → w.cell? ⟨1, i, none⟩ = some (.int .u32 (tn (kAt i)))
theorem KOn.lt {w : World} (h : KOn w) : 1 < w.heap.size := block_lt_of_cell (h 0 (by omega))
theorem KOn.only {w w' : World} {b : Nat} (h : KOn w) (o : Only w w' b) (hb : 1 ≠ b) : KOn w' := fun i hi => (o.cell (a := ⟨1, i, none⟩) h.lt hb).trans (h i hi)
theorem KOn.drewN {w : World} (h : KOn w) (n : Nat) : KOn (w.drewN n) := h

/-- While the rounds go: the sum on its way is as it was, the words' row is made. -/
structure Mx (w wr : World) (b g : Nat) (s : St) (bt : Nat → UInt8) (n : Int) : Prop where
  only : Only w wr b
  row : wr.rowIs b 168 73 (runF s bt n)
  tab : wr.rowIs g 195 64 (fun i => .int .u32 (tn (wAt (word bt) i)))
  kon : KOn wr
theorem Mx.drewN {w wr : World} {b g : Nat} {s : St} {bt : Nat → UInt8} {n : Int} (h : Mx w wr b g s bt n) (m : Nat) : Mx w (wr.drewN m) b g s bt n := ⟨h.only.drewN m, h.row, h.tab, h.kon.drewN m⟩

theorem index8 (t : St) (k : Nat) (hk : k < 8) (w : World) :
    (Instr.index 165 (.agg #[.int .u32 (tn t.a), .int .u32 (tn t.b), .int .u32 (tn t.c), .int .u32 (tn t.d), .int .u32 (tn t.e), .int .u32 (tn t.f), .int .u32 (tn t.g), .int .u32 (tn t.h)]) (.int .i64 (k : Int))).run Tryz.prog w
      = .ok (.int .u32 (tn (t.at k))) w := by
  match k, hk with
  | 0, _ => exact (show (_ : Result Value) = _ by kernel_rfl)
  | 1, _ => exact (show (_ : Result Value) = _ by kernel_rfl)
  | 2, _ => exact (show (_ : Result Value) = _ by kernel_rfl)
  | 3, _ => exact (show (_ : Result Value) = _ by kernel_rfl)
  | 4, _ => exact (show (_ : Result Value) = _ by kernel_rfl)
  | 5, _ => exact (show (_ : Result Value) = _ by kernel_rfl)
  | 6, _ => exact (show (_ : Result Value) = _ by kernel_rfl)
  | 7, _ => exact (show (_ : Result Value) = _ by kernel_rfl)

/-- The first k words are the sums. -/
def addF (s t : St) (bt : Nat → UInt8) (n : Int) (k : Nat) : Nat → Value := fun j => if j < 8 then .int .u32 (tn (if j < k then s.at j + t.at j else s.at j)) else if j < 72 then .int .u8 ((bt (j - 8)).toNat : Int) else .int .u64 n
structure Ax (w wr : World) (b : Nat) (s t : St) (bt : Nat → UInt8) (n : Int) (k : Nat) : Prop where
  only : Only w wr b
  row : wr.rowIs b 168 73 (addF s t bt n k)
theorem Ax.drew {w wr : World} {b : Nat} {s t : St} {bt : Nat → UInt8} {n : Int} {k : Nat} (h : Ax w wr b s t bt n k) : Ax w wr.drew b s t bt n k := ⟨h.only.drew, h.row⟩
theorem Ax.put {w wr : World} {b : Nat} {s t : St} {bt : Nat → UInt8} {n : Int} {k : Nat} (h : Ax w wr b s t bt n k) (hk : k < 8) : Ax w (wr.setCell ⟨b, k, none⟩ (.int .u32 (tn (s.at k + t.at k)))) b s t bt n (k + 1) := by
  refine ⟨h.only.setCell (.inl rfl) _, (h.row.set k _).congr fun j _ => ?_⟩
  unfold addF
  by_cases e : j = k
  · subst e; rw [if_pos rfl, if_pos hk, if_pos (by omega)]
  · rw [if_neg e]
    by_cases h8 : j < 8
    · rw [if_pos h8, if_pos h8]
      by_cases hlt : j < k
      · rw [if_pos hlt, if_pos (by omega)]
      · rw [if_neg hlt, if_neg (by omega)]
    · rw [if_neg h8, if_neg h8]

set_option maxRecDepth 100000 in
set_option maxHeartbeats 800000 in
theorem mix_any (b : Nat) (s : St) (bt : Nat → UInt8) (n : Int) (w : World) (hr : w.rowIs b 168 73 (runF s bt n)) (hk : KOn w) (hb : 1 ≠ b) :
    Calls Tryz.prog 111 #[.pointer (some ⟨b, 0, none⟩)] w fun e w' =>
      e = .returned (.tuple #[]) ∧ w'.rowIs b 168 73 (runF (mixed s bt) bt n) ∧ Only w w' b := by
  have hc : ∀ j, j < 64 → w.cell? ⟨b, 8 + j, none⟩ = some (.int .u8 ((bt j).toNat : Int)) := fun j hj => by
    have := hr.cell (i := 8 + j) (by omega)
    rw [this]
    unfold runF
    rw [if_neg (by omega), if_pos (by omega), show 8 + j - 8 = j by omega]
  have HS := Lib.hid (spread_any b bt w hc)
  clear hc
  have HR := Lib.hid hr
  have HKO := Lib.hid hk
  clear hr hk
  go_enter Tryz.func111, Tryz.ntmps111
  go_wp2_with (fail)
  refine HS.out.mono ?_
  rintro e w1 ⟨rfl, hb1⟩
  have h1 : ∀ old, (w1.alloc (.cells old 195)).heap[w1.heap.size]? = some (.cells old 195 (0, 0)) := fun old => heap_alloc_new w1 _
  have H1 := Lib.hid h1
  clear h1
  have HI := Lib.hid (show ∀ f, (Tryz.prog.info? 195).map (·.size) = some (vals 64 f).size from fun f => info_vals f (by kernel_rfl))
  have HO := Lib.hid (show (vals 64 fun i => Value.int .u32 (tn (wAt (word bt) i))).all (·.oneCell') = true from vals_one fun _ => rfl)
  have HB1 := Lib.hid hb1
  clear hb1
  go_wp2_with (with_reducible refine wpList_store_row rfl 195 _ _ rfl _ _ rfl rfl 195 _ (H1.out _) (HI.out _) ?_ HO.out ?_)
  · exact (vals_size 64 _).symm
  have hM : ∀ old : Array Value, Mx w ((w1.alloc (.cells old 195)).setRow w1.heap.size (vals 64 fun i => Value.int .u32 (tn (wAt (word bt) i)))) b w1.heap.size s bt n := fun old => by
    have hlt := HR.out.lt
    have hs := HB1.out.size
    have o1 : Only w (w1.alloc (.cells old 195)) b := (Only.of_below HB1.out b).alloc _
    have o2 := o1.setRow (g := w1.heap.size) (.inr hs) (vals 64 fun i => Value.int .u32 (tn (wAt (word bt) i)))
    refine ⟨o2, ?_, row_of_block (setRow_heap _ _ old _ _ _ (heap_alloc_new w1 _)), HKO.out.only o2 hb⟩
    have r1 : w1.rowIs b 168 73 (runF s bt n) := HR.out.of_block (HB1.out.block b hlt)
    exact row_setRow_other (r1.alloc _) (by have := r1.lt; omega)
  refine gen_world (fun wr => Mx w wr b w1.heap.size s bt n) (hM _) ?_
  clear hM H1 HI HO HS
  intro wr hM
  have c0 : wr.cell? ⟨b, 0, none⟩ = some (.int .u32 (tn s.a)) := hM.row.cell (i := 0) (by omega)
  have c1 : wr.cell? ⟨b, 1, none⟩ = some (.int .u32 (tn s.b)) := hM.row.cell (i := 1) (by omega)
  have c2 : wr.cell? ⟨b, 2, none⟩ = some (.int .u32 (tn s.c)) := hM.row.cell (i := 2) (by omega)
  have c3 : wr.cell? ⟨b, 3, none⟩ = some (.int .u32 (tn s.d)) := hM.row.cell (i := 3) (by omega)
  have c4 : wr.cell? ⟨b, 4, none⟩ = some (.int .u32 (tn s.e)) := hM.row.cell (i := 4) (by omega)
  have c5 : wr.cell? ⟨b, 5, none⟩ = some (.int .u32 (tn s.f)) := hM.row.cell (i := 5) (by omega)
  have c6 : wr.cell? ⟨b, 6, none⟩ = some (.int .u32 (tn s.g)) := hM.row.cell (i := 6) (by omega)
  have c7 : wr.cell? ⟨b, 7, none⟩ = some (.int .u32 (tn s.h)) := hM.row.cell (i := 7) (by omega)
  go_wp2
  go_quiet (fail)
  go_wp2
  go_quiet (fail)
  go_wp2
  refine gen_world (fun wr => Mx w wr b w1.heap.size s bt n) ((hM.drewN _).drewN _) ?_
  clear hM c0 c1 c2 c3 c4 c5 c6 c7
  intro wr hM
  have hlt1 := HR.out.lt
  clear HR HKO
  go_loopw [3, 4, 5, 6, 7, 8, 9, 10, 60] (fun v3 v4 v5 v6 v7 v8 v9 v10 i wr => ∃ k : Nat, k ≤ 64 ∧ i = .int .i64 k ∧ Mx w wr b w1.heap.size s bt n ∧
      v3 = .int .u32 (tn (runs (wAt (word bt)) s k).a) ∧ v4 = .int .u32 (tn (runs (wAt (word bt)) s k).b) ∧ v5 = .int .u32 (tn (runs (wAt (word bt)) s k).c) ∧ v6 = .int .u32 (tn (runs (wAt (word bt)) s k).d) ∧
      v7 = .int .u32 (tn (runs (wAt (word bt)) s k).e) ∧ v8 = .int .u32 (tn (runs (wAt (word bt)) s k).f) ∧ v9 = .int .u32 (tn (runs (wAt (word bt)) s k).g) ∧ v10 = .int .u32 (tn (runs (wAt (word bt)) s k).h))
    (fun _ _ _ _ _ _ _ _ i _ => 64 - (intOf i).toNat)
  case atStart => exact ⟨0, by omega, rfl, hM, rfl, rfl, rfl, rfl, rfl, rfl, rfl, rfl⟩
  case round =>
    clear hM
    obtain ⟨k, hk, rfl, hM, rfl, rfl, rfl, rfl, rfl, rfl, rfl, rfl⟩ := hrel
    have HT := Lib.hid (show runs (wAt (word bt)) s (k + 1) = rnd (kAt k) (wAt (word bt) k) (runs (wAt (word bt)) s k) from rfl)
    have HTk := Lib.hid (show k = 64 → mixed s bt = plusSt s (runs (wAt (word bt)) s k) from fun e => by rw [e]; rfl)
    generalize runs (wAt (word bt)) s k = t at HT HTk ⊢
    by_cases hlt : k < 64
    · have cK := hM.kon k hlt
      have cW := hM.tab.cell hlt
      have lk : 0 ≤ (k : Int) := by omega
      have mk : (k : Int) < 64 := by omega
      have kx := xor_u32
      have kn := and_u32
      have ka := add_u32
      have km := add_u32m
      have kt := not_u32 t.e
      go_wp2
      go_quiet ((go_at_call 124; exact quiet_here (turned_any _ _ _ (by omega) (by omega))))
      have hM2 := hM.drewN nq
      clear cK cW hM kt
      generalize wr.drewN nq = wx at hM2 ⊢
      go_wp2_with (go_at_call 124; refine (turned_any _ _ _ (by omega) (by omega)).mono ?_; rintro e w' ⟨rfl, rfl⟩)
      go_roundw
      case rel => exact ⟨k + 1, by omega, by go_num, hM2, by rw [HT.out]; rfl, by rw [HT.out]; rfl, by rw [HT.out]; rfl, by rw [HT.out]; rfl, by rw [HT.out]; rfl, by rw [HT.out]; rfl, by rw [HT.out]; rfl, by rw [HT.out]; rfl⟩
      case measure => simp [intOf]; omega
    · have HK := Lib.hid (show k = 64 by omega)
      have hA : Ax w wr b s t bt n 0 := ⟨hM.only, hM.row.congr fun j _ => by unfold runF addF; simp⟩
      have hI := fun k hk => index8 t k hk
      have HI := Lib.hid hI
      clear hI hM
      go_wp2
      go_loopw [132] (fun i wr => ∃ k : Nat, k ≤ 8 ∧ i = .int .i64 k ∧ Ax w wr b s t bt n k) (fun i _ => 8 - (intOf i).toNat)
      case atStart => exact ⟨0, by omega, rfl, hA⟩
      case round =>
        clear hA hlt hk
        obtain ⟨k, hk, rfl, hA⟩ := hrel
        by_cases hlt : k < 8
        · have hix := HI.out k hlt
          have lk : 0 ≤ (k : Int) := by omega
          have mk : (k : Int) < 8 := by omega
          have c0 : wr.cell? ⟨b, k, none⟩ = some (.int .u32 (tn (s.at k))) := by
            have := hA.row.cell (i := k) (by omega)
            unfold addF at this
            rwa [if_pos hlt, if_neg (by omega)] at this
          have ka := add_u32
          go_wp2
          go_still_tail 11, (by kernel_rfl)
          have hA2 := hA.drew
          clear hA c0
          refine gen_list (fun wr => Ax w wr b s t bt n k) hA2 ?_
          clear hA2
          intro wx hA
          have c0 : wx.cell? ⟨b, k, none⟩ = some (.int .u32 (tn (s.at k))) := by
            have := hA.row.cell (i := k) (by omega)
            unfold addF at this
            rwa [if_pos hlt, if_neg (by omega)] at this
          have f0 := hA.row.frozen k
          go_wp2
          go_roundw
          case rel => exact ⟨k + 1, by omega, by go_num, hA.put hlt⟩
          case measure => simp [intOf]; omega
        · have HK8 := Lib.hid (show k = 8 by omega)
          go_wp2
          go_end0
          refine ⟨rfl, hA.row.congr fun j _ => ?_, hA.only⟩
          have e1 := HTk.out HK.out
          have e2 := HK8.out
          unfold addF runF
          by_cases h8 : j < 8
          · rw [if_pos h8, if_pos h8, if_pos (by omega), e1, plusSt_at]
          · rw [if_neg h8, if_neg h8]
end Go.Proofs.YtlechjpaldpgnaaGreatDoor
