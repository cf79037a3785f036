/-
  Words of 32 and 64 bits as whole numbers: what sums, shifts and the bitwise operations come to. No program here. No conditions.
  The sums of 256 bits in plain words: schedule, rounds, blocks, the text that is summed. No program here. No conditions.
  The program's sums (package sha): a word turned; and the document's own: a word cut and turned. No conditions but that a turn is by 1 to 31.
  The program's sums (package sha): the words of a block, and those that come of them. Condition: 64 bytes stand where it looks.
  The program's sums (package sha): 64 bytes go into the eight words. Conditions: the sum on its way, and the constants, stand where it looks.
  The program's sums (package sha): parts go into the sum on its way. Conditions: the sum on its way, the constants and the parts stand where it looks; no more than 2^60 bytes in all.
  The program's sums (package sha): words as bytes. Conditions: the words stand where it looks; at most a thousand.
  The library's functions that the program calls, by their contracts: strings.Repeat, at this translation. No conditions of ours.
  The program's sums (package sha): the end of a sum on its way. Conditions: the sum on its way and the constants stand where it looks; fewer than 2^58 bytes.
  The program's sums (package sha): the sum of parts. Conditions: both tables lie as the program's text lays them; the parts stand where it looks; fewer than 2^56 bytes.
  32 bytes as digits, in plain words. No program's function here. No conditions.
  Two sums, compared: the same, or not. No conditions.
  The program's sums (package sha): the sum of parts, as plain bytes. Conditions: both tables lie as the program's text lays them; the parts stand where it looks.
  Both tables of package sha lie where the program looks. No conditions.
  Out of the card's condition: both tables lie as the program's text lays them. And the door's own heap meets it.
-/
import Derived.Test.YtgenpfhcbopokaaDoorMg1
import Derived.Test.YtgenpfhcbopokaaDoorMg18
import Derived.Laws.Entries
import Derived.RowKit
import Derived.IntWalk
import Derived.StillTailTactics
import Derived.BigRegion
import Derived.Deep.DeepAppendRoom
import Derived.Shelf.Strings.Builder1
import Derived.Shelf.Strings.Builder2
import Derived.Shelf.Strings.BuilderF
import Derived.Shelf.Strings.Prefix
import Derived.Shelf.Bits.Mul64
import Derived.Shelf.Strings.Repeat
import Derived.Test.YtgenpfhcbopokaaDoorRows
import Derived.Laws.BytesString
import Derived.Deep.RegionWith
import Derived.ChangeKeysEq
import Derived.Laws.StructEq
import Derived.Deep.MidRow
import Derived.ProofKit
import Derived.LaidMore
import Derived.OpenShut
import Derived.Stop.Joined
import Derived.Lib.LaidTab
set_option maxRecDepth 100000
namespace Go.Proofs.YtgenpfhcbopokaaDoor
namespace Sh
open Go Go.RowKit

def tn (x : BitVec 32) : Int := (x.toNat : Int)
def t6 (x : BitVec 64) : Int := (x.toNat : Int)
def zx (x : BitVec 32) : BitVec 64 := x.setWidth 64
def lo (x : BitVec 64) : BitVec 32 := x.setWidth 32
def rotr (n : Int) (x : BitVec 32) : BitVec 32 := x >>> n.toNat ||| x <<< (32 - n.toNat)
def shr (n : Nat) (x : BitVec 32) : BitVec 32 := x >>> n
def b32 (b : UInt8) : BitVec 32 := b.toBitVec.setWidth 32
def be (a b c d : UInt8) : BitVec 32 := ((b32 a <<< 24 ||| b32 b <<< 16) ||| b32 c <<< 8) ||| b32 d

theorem tn_lo (x : BitVec 32) : 0 ≤ tn x := by unfold tn; omega
theorem tn_hi (x : BitVec 32) : tn x ≤ 4294967295 := by unfold tn; have := x.isLt; omega
theorem t6_lo (x : BitVec 64) : 0 ≤ t6 x := by unfold t6; omega
theorem t6_hi (x : BitVec 64) : t6 x ≤ 18446744073709551615 := by unfold t6; have := x.isLt; omega
theorem tn_zx (x : BitVec 32) : t6 (zx x) = tn x := by unfold t6 zx tn; simp; omega
theorem zx_hi (x : BitVec 32) : t6 (zx x) ≤ 4294967295 := by rw [tn_zx]; exact tn_hi x
theorem tn_inj {x y : BitVec 32} (h : tn x = tn y) : x = y := BitVec.eq_of_toNat_eq (by unfold tn at h; omega)

theorem ofInt_tn (x : BitVec 32) : BitVec.ofInt 32 (tn x) = x := by unfold tn; rw [BitVec.ofInt_natCast, BitVec.ofNat_toNat, BitVec.setWidth_eq]
theorem ofInt_t6 (x : BitVec 64) : BitVec.ofInt 64 (t6 x) = x := by unfold t6; rw [BitVec.ofInt_natCast, BitVec.ofNat_toNat, BitVec.setWidth_eq]
theorem wrap_u32' (n : Int) : IntKind.u32.wrap n = n % 4294967296 := by simp [IntKind.wrap, IntKind.bits, IntKind.signed]
theorem wrap_u64' (n : Int) : IntKind.u64.wrap n = n % 18446744073709551616 := by simp [IntKind.wrap, IntKind.bits, IntKind.signed]
theorem wrap_tn (x : BitVec 32) : IntKind.u32.wrap (x.toNat : Int) = tn x := by
  rw [wrap_u32']; unfold tn; have := x.isLt; omega
theorem wrap_t6 (x : BitVec 64) : IntKind.u64.wrap (x.toNat : Int) = t6 x := by
  rw [wrap_u64']; unfold t6; have := x.isLt; omega

theorem xor_u32 (a b : BitVec 32) : bits .xor .u32 (tn a) (tn b) = tn (a ^^^ b) := by
  show IntKind.u32.wrap ((BitVec.ofInt 32 (tn a) ^^^ BitVec.ofInt 32 (tn b)).toNat : Int) = _
  rw [ofInt_tn, ofInt_tn, wrap_tn]
theorem and_u32 (a b : BitVec 32) : bits .and .u32 (tn a) (tn b) = tn (a &&& b) := by
  show IntKind.u32.wrap ((BitVec.ofInt 32 (tn a) &&& BitVec.ofInt 32 (tn b)).toNat : Int) = _
  rw [ofInt_tn, ofInt_tn, wrap_tn]
theorem or_u32 (a b : BitVec 32) : bits .or .u32 (tn a) (tn b) = tn (a ||| b) := by
  show IntKind.u32.wrap ((BitVec.ofInt 32 (tn a) ||| BitVec.ofInt 32 (tn b)).toNat : Int) = _
  rw [ofInt_tn, ofInt_tn, wrap_tn]
theorem xor_u64 (a b : BitVec 64) : bits .xor .u64 (t6 a) (t6 b) = t6 (a ^^^ b) := by
  show IntKind.u64.wrap ((BitVec.ofInt 64 (t6 a) ^^^ BitVec.ofInt 64 (t6 b)).toNat : Int) = _
  rw [ofInt_t6, ofInt_t6, wrap_t6]
theorem and_u64 (a b : BitVec 64) : bits .and .u64 (t6 a) (t6 b) = t6 (a &&& b) := by
  show IntKind.u64.wrap ((BitVec.ofInt 64 (t6 a) &&& BitVec.ofInt 64 (t6 b)).toNat : Int) = _
  rw [ofInt_t6, ofInt_t6, wrap_t6]
theorem or_u64 (a b : BitVec 64) : bits .or .u64 (t6 a) (t6 b) = t6 (a ||| b) := by
  show IntKind.u64.wrap ((BitVec.ofInt 64 (t6 a) ||| BitVec.ofInt 64 (t6 b)).toNat : Int) = _
  rw [ofInt_t6, ofInt_t6, wrap_t6]
theorem add_u32 (a b : BitVec 32) : IntKind.u32.wrap (tn a + tn b) = tn (a + b) := by
  rw [wrap_u32']; unfold tn; rw [BitVec.toNat_add]; omega
theorem add_u64 (a b : BitVec 64) : IntKind.u64.wrap (t6 a + t6 b) = t6 (a + b) := by
  rw [wrap_u64']; unfold t6; rw [BitVec.toNat_add]; omega
theorem lo_u64 (a : BitVec 64) : bits .and .u64 (t6 a) 4294967295 = t6 (zx (lo a)) := by
  have e : (4294967295 : Int) = t6 4294967295#64 := rfl
  rw [e, and_u64]
  congr 1
  apply BitVec.eq_of_toNat_eq
  have h := Nat.and_two_pow_sub_one_eq_mod a.toNat 32
  simp [zx, lo] at h ⊢
  omega

theorem not_u32 (a : BitVec 32) : bits .xor .u32 (if IntKind.u32.signed = true then -1 else IntKind.u32.max) (tn a) = tn (~~~ a) := by
  have e : (if IntKind.u32.signed = true then (-1 : Int) else IntKind.u32.max) = tn (BitVec.allOnes 32) := by decide
  rw [e, xor_u32]
  congr 1
theorem not_u64 (a : BitVec 64) : bits .xor .u64 (if IntKind.u64.signed = true then -1 else IntKind.u64.max) (t6 a) = t6 (~~~ a) := by
  have e : (if IntKind.u64.signed = true then (-1 : Int) else IntKind.u64.max) = t6 (BitVec.allOnes 64) := by decide
  rw [e, xor_u64]
  congr 1
theorem add_u32m (a b : BitVec 32) : (tn a + tn b) % 4294967296 = tn (a + b) := by rw [← wrap_u32', add_u32]
/-- Shifts as the walk writes them: by a count that is a numeral. -/
theorem shr_u32 (x : BitVec 32) (n : Nat) : tn x / 2 ^ n = tn (shr n x) := by
  unfold tn shr; rw [BitVec.toNat_ushiftRight, Nat.shiftRight_eq_div_pow]; simp
theorem shl_u32 (x : BitVec 32) (n : Nat) : IntKind.u32.wrap (tn x * 2 ^ n) = tn (x <<< n) := by
  rw [wrap_u32']; unfold tn; rw [BitVec.toNat_shiftLeft, Nat.shiftLeft_eq]; simp
theorem shr_u64 (x : BitVec 64) (n : Nat) : t6 x / 2 ^ n = t6 (x >>> n) := by
  unfold t6; rw [BitVec.toNat_ushiftRight, Nat.shiftRight_eq_div_pow]; simp
theorem shl_u64 (x : BitVec 64) (n : Nat) : IntKind.u64.wrap (t6 x * 2 ^ n) = t6 (x <<< n) := by
  rw [wrap_u64']; unfold t6; rw [BitVec.toNat_shiftLeft, Nat.shiftLeft_eq]; simp

theorem zx_shr (x : BitVec 32) (n : Nat) : zx x >>> n = zx (shr n x) := by
  apply BitVec.eq_of_toNat_eq; simp [zx, shr]
theorem zx_xor (x y : BitVec 32) : zx x ^^^ zx y = zx (x ^^^ y) := by unfold zx; rw [BitVec.setWidth_xor]
theorem zx_and (x y : BitVec 32) : zx x &&& zx y = zx (x &&& y) := by unfold zx; rw [BitVec.setWidth_and]
theorem lo_zx (x : BitVec 32) : lo (zx x) = x := by unfold lo zx; simp
theorem lo_add (x y : BitVec 64) : lo (x + y) = lo x + lo y := by unfold lo; exact BitVec.setWidth_add _ _ (by decide)
theorem lo_not (x : BitVec 64) : lo (~~~ x) = ~~~ (lo x) := by
  apply BitVec.eq_of_getElem_eq; intro i hi; simp [lo]

theorem b32_val (b : UInt8) : (b.toNat : Int) = tn (b32 b) := by unfold tn b32; simp
theorem b32_wrap (b : UInt8) : IntKind.u32.wrap (b.toNat : Int) = tn (b32 b) := by rw [wrap_u32', b32_val]; have := tn_lo (b32 b); have := tn_hi (b32 b); omega
theorem turn_u64 (x : BitVec 32) (n : Int) (h1 : 1 ≤ n) (h2 : n ≤ 31) : lo (zx x >>> n.toNat ||| zx x <<< (32 - n.toNat)) = rotr n x := by
  unfold lo zx rotr
  apply BitVec.eq_of_getElem_eq
  intro i hi
  have h : n.toNat + i < 64 := by omega
  simp [h]
theorem rotr_u32 (x : BitVec 32) (n : Int) : x <<< (32 - n.toNat) ||| x >>> n.toNat = rotr n x := by unfold rotr; rw [BitVec.or_comm]
end Sh
end Go.Proofs.YtgenpfhcbopokaaDoor
namespace Go.Proofs.YtgenpfhcbopokaaDoor
namespace Sh
open Go Go.RowKit

/-- Eight words. -/
structure St where
  a : BitVec 32
  b : BitVec 32
  c : BitVec 32
  d : BitVec 32
  e : BitVec 32
  f : BitVec 32
  g : BitVec 32
  h : BitVec 32
deriving DecidableEq

def kList : List Nat := [1116352408, 1899447441, 3049323471, 3921009573, 961987163, 1508970993, 2453635748, 2870763221, 3624381080, 310598401, 607225278, 1426881987, 1925078388, 2162078206, 2614888103, 3248222580, 3835390401, 4022224774, 264347078, 604807628, 770255983, 1249150122, 1555081692, 1996064986, 2554220882, 2821834349, 2952996808, 3210313671, 3336571891, 3584528711, 113926993, 338241895, 666307205, 773529912, 1294757372, 1396182291, 1695183700, 1986661051, 2177026350, 2456956037, 2730485921, 2820302411, 3259730800, 3345764771, 3516065817, 3600352804, 4094571909, 275423344, 430227734, 506948616, 659060556, 883997877, 958139571, 1322822218, 1537002063, 1747873779, 1955562222, 2024104815, 2227730452, 2361852424, 2428436474, 2756734187, 3204031479, 3329325298]
def kAt (i : Nat) : BitVec 32 := BitVec.ofNat 32 (kList.getD i 0)
def iv : St := ⟨1779033703, 3144134277, 1013904242, 2773480762, 1359893119, 2600822924, 528734635, 1541459225⟩
def St.at (s : St) : Nat → BitVec 32
  | 0 => s.a | 1 => s.b | 2 => s.c | 3 => s.d | 4 => s.e | 5 => s.f | 6 => s.g | _ => s.h

def sg0 (x : BitVec 32) : BitVec 32 := rotr 7 x ^^^ rotr 18 x ^^^ shr 3 x
def sg1 (x : BitVec 32) : BitVec 32 := rotr 17 x ^^^ rotr 19 x ^^^ shr 10 x
def T1 (k w : BitVec 32) (s : St) : BitVec 32 := s.h + (rotr 6 s.e ^^^ rotr 11 s.e ^^^ rotr 25 s.e) + ((s.e &&& s.f) ^^^ (~~~s.e &&& s.g)) + k + w
def T2 (s : St) : BitVec 32 := (rotr 2 s.a ^^^ rotr 13 s.a ^^^ rotr 22 s.a) + ((s.a &&& s.b) ^^^ (s.a &&& s.c) ^^^ (s.b &&& s.c))
def rnd (k w : BitVec 32) (s : St) : St := ⟨T1 k w s + T2 s, s.a, s.b, s.c, s.d + T1 k w s, s.e, s.f, s.g⟩
def runs (w : Nat → BitVec 32) (s : St) : Nat → St
  | 0 => s
  | i + 1 => rnd (kAt i) (w i) (runs w s i)
def plusSt (s t : St) : St := ⟨s.a + t.a, s.b + t.b, s.c + t.c, s.d + t.d, s.e + t.e, s.f + t.f, s.g + t.g, s.h + t.h⟩
theorem plusSt_at (s t : St) (i : Nat) : (plusSt s t).at i = s.at i + t.at i := by
  unfold St.at; split <;> rfl

/-- The words of a block and those that come of them, the newest first. -/
def wRow (m : Nat → BitVec 32) : Nat → List (BitVec 32)
  | 0 => []
  | i + 1 => (if i < 16 then m i else (wRow m i).getD 15 0 + sg0 ((wRow m i).getD 14 0) + (wRow m i).getD 6 0 + sg1 ((wRow m i).getD 1 0)) :: wRow m i
def wAt (m : Nat → BitVec 32) (i : Nat) : BitVec 32 := (wRow m (i + 1)).getD 0 0
theorem wRow_get (m : Nat → BitVec 32) (i j : Nat) (h : j < i) : (wRow m i).getD j 0 = wAt m (i - 1 - j) := by
  induction i generalizing j with
  | zero => omega
  | succ i ih =>
    cases j with
    | zero => rfl
    | succ j =>
      have := ih j (by omega)
      simp only [wRow, List.getD_cons_succ]
      rw [this]
      congr 1
      omega
theorem wAt_first (m : Nat → BitVec 32) (i : Nat) (h : i < 16) : wAt m i = m i := by
  unfold wAt; simp only [wRow, List.getD_cons_zero]; rw [if_pos h]
theorem wAt_next (m : Nat → BitVec 32) (i : Nat) (h : 16 ≤ i) : wAt m i = wAt m (i - 16) + sg0 (wAt m (i - 15)) + wAt m (i - 7) + sg1 (wAt m (i - 2)) := by
  conv => lhs; unfold wAt
  simp only [wRow, List.getD_cons_zero]
  rw [if_neg (by omega), wRow_get m i 15 (by omega), wRow_get m i 14 (by omega), wRow_get m i 6 (by omega), wRow_get m i 1 (by omega)]
  have e1 : i - 1 - 15 = i - 16 := by omega
  have e2 : i - 1 - 14 = i - 15 := by omega
  have e3 : i - 1 - 6 = i - 7 := by omega
  have e4 : i - 1 - 1 = i - 2 := by omega
  rw [e1, e2, e3, e4]

/-- The words of 64 bytes, told by a function. -/
def word (b : Nat → UInt8) (i : Nat) : BitVec 32 := be (b (4 * i)) (b (4 * i + 1)) (b (4 * i + 2)) (b (4 * i + 3))
def mixed (s : St) (b : Nat → UInt8) : St := plusSt s (runs (wAt (word b)) s 64)
def blocks (l : Nat → UInt8) : Nat → St
  | 0 => iv
  | n + 1 => mixed (blocks l n) (fun j => l (64 * n + j))

def byteAt (l : List UInt8) (i : Nat) : UInt8 := l.getD i 0
/-- The eight bytes of a number, the highest first. -/
def be8 (n : Nat) : List UInt8 := (List.range 8).map fun i => UInt8.ofNat (n / 2 ^ (8 * (7 - i)))
def zeros (n : Nat) : Nat := (119 - n % 64) % 64
def padded (l : List UInt8) : List UInt8 := l ++ [128] ++ List.replicate (zeros l.length) 0 ++ be8 (8 * l.length)
def sumSt (l : List UInt8) : St := blocks (byteAt (padded l)) ((padded l).length / 64)
def sumByte (s : St) (i : Nat) : UInt8 := UInt8.ofNat ((s.at (i / 4)).toNat / 2 ^ (24 - 8 * (i % 4)))
/-- The sum's 32 bytes. -/
def sum (l : List UInt8) : List UInt8 := (List.range 32).map (sumByte (sumSt l))
theorem sum_length (l : List UInt8) : (sum l).length = 32 := by simp [sum]
theorem be8_length (n : Nat) : (be8 n).length = 8 := by simp [be8]
theorem padded_length (l : List UInt8) : (padded l).length = l.length + 9 + zeros l.length := by simp [padded, be8_length]; omega
theorem padded_mod (l : List UInt8) : (padded l).length % 64 = 0 := by rw [padded_length]; unfold zeros; omega

theorem wRow_congr (m m' : Nat → BitVec 32) (h : ∀ i, i < 16 → m i = m' i) (i : Nat) : wRow m i = wRow m' i := by
  induction i with
  | zero => simp only [wRow]
  | succ i ih =>
    simp only [wRow]
    rw [ih]
    by_cases hi : i < 16
    · rw [if_pos hi, if_pos hi, h i hi]
    · rw [if_neg hi, if_neg hi]
theorem wAt_congr (m m' : Nat → BitVec 32) (h : ∀ i, i < 16 → m i = m' i) : wAt m = wAt m' := by
  funext i; unfold wAt; rw [wRow_congr m m' h]
theorem word_congr (f g : Nat → UInt8) (h : ∀ i, i < 64 → f i = g i) (i : Nat) (hi : i < 16) : word f i = word g i := by
  unfold word; rw [h (4 * i) (by omega), h (4 * i + 1) (by omega), h (4 * i + 2) (by omega), h (4 * i + 3) (by omega)]
theorem mixed_congr (s : St) (f g : Nat → UInt8) (h : ∀ i, i < 64 → f i = g i) : mixed s f = mixed s g := by
  unfold mixed; rw [wAt_congr _ _ (word_congr f g h)]
/-- Blocks hang on their own bytes alone. -/
theorem blocks_congr (f g : Nat → UInt8) (n : Nat) (h : ∀ i, i < 64 * n → f i = g i) : blocks f n = blocks g n := by
  induction n with
  | zero => simp only [blocks]
  | succ n ih =>
    simp only [blocks]
    rw [ih fun i hi => h i (by omega)]
    exact mixed_congr _ _ _ fun j hj => h (64 * n + j) (by omega)
end Sh
end Go.Proofs.YtgenpfhcbopokaaDoor
namespace Go.Proofs.YtgenpfhcbopokaaDoor
open Go.ChangeShapes Go.WideShapes Go.ChangeAt Go.RowKit Sh

theorem and31 (n : Int) (h1 : 1 ≤ n) (h2 : n ≤ 31) : bits .and .u64 (IntKind.u64.wrap (-n)) 31 = 32 - n := by
  obtain ⟨k, rfl⟩ : ∃ k : Nat, n = k := ⟨n.toNat, by omega⟩
  have key : ∀ k : Fin 32, 1 ≤ k.val → bits .and .u64 (IntKind.u64.wrap (-(k.val : Int))) 31 = 32 - (k.val : Int) := by decide
  exact key ⟨k, by omega⟩ (by show 1 ≤ k; omega)
theorem ret_v {k : IntKind} {a b : Int} (h : a = b) : Ending.returned (.int k a) = .returned (.int k b) := by rw [h]
theorem rot_val (x : BitVec 32) (n : Int) (h1 : 1 ≤ n) (h2 : n ≤ 31) : bits .or .u32 (tn x * 2 ^ (32 - n).toNat % 4294967296) (tn x / 2 ^ (32 - (32 - n)).toNat) = tn (rotr n x) := by
  rw [← wrap_u32', shl_u32, shr_u32, or_u32, show (32 - n).toNat = 32 - n.toNat by omega, show (32 - (32 - n)).toNat = n.toNat by omega]
  exact congrArg tn (rotr_u32 x n)
theorem turned_any (x : BitVec 32) (n : Int) (w : World) (h1 : 1 ≤ n) (h2 : n ≤ 31) :
    Calls Tryd.prog 51 #[.int .u32 (tn x), .int .i64 n] w fun e w' => e = .returned (.int .u32 (tn (rotr n x))) ∧ w = w' := by
  have ha := and31 n h1 h2
  have HV := Lib.hid (rot_val x n h1 h2)
  go_enter Tryd.func51, Tryd.ntmps51
  go_wp2
  go_ret
  exact ⟨ret_v HV.out, rfl⟩
theorem turn_val (x : BitVec 32) (n : Int) (h1 : 1 ≤ n) (h2 : n ≤ 31) :
    ∃ y, bits .or .u64 (t6 (zx x) / 2 ^ n.toNat) (IntKind.u64.wrap (t6 (zx x) * 2 ^ (32 - n).toNat)) = t6 y ∧ lo y = rotr n x :=
  ⟨zx x >>> n.toNat ||| zx x <<< (32 - n.toNat), by rw [shl_u64, shr_u64, or_u64, show (32 - n).toNat = 32 - n.toNat by omega], turn_u64 x n h1 h2⟩
end Go.Proofs.YtgenpfhcbopokaaDoor
namespace Go.Proofs.YtgenpfhcbopokaaDoor
open Go.ChangeShapes Go.WideShapes Go.ChangeAt Go.RowKit Sh

/-- What holds while the words are made: nothing that was there has turned; the new words' row holds the first n words. -/
structure Spr (w wr : World) (bt : Nat → UInt8) (n : Nat) : Prop where
  below : Below w.heap.size w wr
  size : wr.heap.size = w.heap.size + 2
  row : wr.rowIs (w.heap.size + 1) 96 64 (fun j => .int .u32 (if j < n then tn (wAt (word bt) j) else 0))
  res : wr.rowIs w.heap.size 96 64 (fun _ => .int .u32 0)

theorem Spr.drew {w wr : World} {bt : Nat → UInt8} {n : Nat} (h : Spr w wr bt n) : Spr w wr.drew bt n := ⟨below_drewN h.below 1, h.size, h.row, h.res⟩
theorem Spr.drewN {w wr : World} {bt : Nat → UInt8} {n : Nat} (h : Spr w wr bt n) (m : Nat) : Spr w (wr.drewN m) bt n := ⟨below_drewN h.below m, h.size, h.row, h.res⟩
theorem Spr.put {w wr : World} {bt : Nat → UInt8} {n : Nat} (h : Spr w wr bt n) {v : Int} (hv : v = tn (wAt (word bt) n)) : Spr w (wr.setCell ⟨w.heap.size + 1, n, none⟩ (.int .u32 v)) bt (n + 1) := by
  refine ⟨h.below.setCell (by show w.heap.size ≤ w.heap.size + 1; omega) _, by simp [h.size], (h.row.set n _).congr fun j _ => ?_, h.res.setOther (by show w.heap.size ≠ w.heap.size + 1; omega) _⟩
  by_cases e : j = n
  · subst e; rw [if_pos rfl, hv, if_pos (by omega)]
  · rw [if_neg e]
    by_cases hlt : j < n
    · rw [if_pos hlt, if_pos (by omega)]
    · rw [if_neg hlt, if_neg (by omega)]
theorem word_val (a b c d : UInt8) : bits .or .u32 (bits .or .u32 (bits .or .u32 (IntKind.u32.wrap (IntKind.u32.wrap (a.toNat : Int) * 16777216)) (IntKind.u32.wrap (IntKind.u32.wrap (b.toNat : Int) * 65536)))
    (IntKind.u32.wrap (IntKind.u32.wrap (c.toNat : Int) * 256))) (IntKind.u32.wrap (d.toNat : Int)) = tn (be a b c d) := by
  have h24 := shl_u32 (b32 a) 24
  have h16 := shl_u32 (b32 b) 16
  have h8 := shl_u32 (b32 c) 8
  rw [show (2 : Int) ^ 24 = 16777216 from rfl] at h24
  rw [show (2 : Int) ^ 16 = 65536 from rfl] at h16
  rw [show (2 : Int) ^ 8 = 256 from rfl] at h8
  rw [b32_wrap, b32_wrap, b32_wrap, b32_wrap, h24, h16, h8, or_u32, or_u32, or_u32]
  rfl

theorem Spr.get {w wr : World} {bt : Nat → UInt8} {n : Nat} (h : Spr w wr bt n) (j : Nat) (hj : j < n) (h6 : j < 64) : wr.cell? ⟨w.heap.size + 1, j, none⟩ = some (.int .u32 (tn (wAt (word bt) j))) := by
  have := h.row.cell h6
  rwa [if_pos hj] at this
theorem sg0_val (x : BitVec 32) : bits .xor .u32 (bits .xor .u32 (tn (rotr 7 x)) (tn (rotr 18 x))) (tn x / 8) = tn (sg0 x) := by
  rw [show (8 : Int) = 2 ^ 3 from rfl, shr_u32, xor_u32, xor_u32]; rfl
theorem sg1_val (x : BitVec 32) : bits .xor .u32 (bits .xor .u32 (tn (rotr 17 x)) (tn (rotr 19 x))) (tn x / 1024) = tn (sg1 x) := by
  rw [show (1024 : Int) = 2 ^ 10 from rfl, shr_u32, xor_u32, xor_u32]; rfl

set_option maxRecDepth 100000 in
set_option maxHeartbeats 800000 in
theorem spread_any (b : Nat) (bt : Nat → UInt8) (w : World) (hc : ∀ j, j < 64 → w.cell? ⟨b, 8 + j, none⟩ = some (.int .u8 ((bt j).toNat : Int))) :
    Calls Tryd.prog 50 #[.pointer (some ⟨b, 8, none⟩)] w fun e w' =>
      e = .returned (.agg (vals 64 fun i => .int .u32 (tn (wAt (word bt) i)))) ∧ Below w.heap.size w w' := by
  have hb : b < w.heap.size := block_lt_of_cell (hc 0 (by omega))
  have HC := Lib.hid hc
  clear hc
  go_enter Tryd.func50, Tryd.ntmps50
  go_wp2
  go_loopw [8] (fun i wr => ∃ k : Nat, k ≤ 16 ∧ i = .int .i64 k ∧ Spr w wr bt k) (fun i _ => 16 - (intOf i).toNat)
  case atStart =>
    refine ⟨0, by omega, rfl, ((Below.refl _ _).alloc (Nat.le_refl _) _).alloc (by simp) _, by simp, ?_, ?_⟩
    · exact row_alloc _ (by simp) (by kernel_rfl)
    · exact (row_alloc _ rfl (by kernel_rfl)).alloc _
  case round =>
    obtain ⟨k, hk, rfl, hs⟩ := hrel
    by_cases hlt : k < 16
    · have c0 := (hs.below.cell (p := ⟨b, 8 + (4 * k), none⟩) hb).trans (HC.out (4 * k) (by omega))
      have c1 := (hs.below.cell (p := ⟨b, 8 + (4 * k + 1), none⟩) hb).trans (HC.out (4 * k + 1) (by omega))
      have c2 := (hs.below.cell (p := ⟨b, 8 + (4 * k + 2), none⟩) hb).trans (HC.out (4 * k + 2) (by omega))
      have c3 := (hs.below.cell (p := ⟨b, 8 + (4 * k + 3), none⟩) hb).trans (HC.out (4 * k + 3) (by omega))
      have HV := Lib.hid (word_val (bt (4 * k)) (bt (4 * k + 1)) (bt (4 * k + 2)) (bt (4 * k + 3)))
      simp only [wrap_u32'] at HV
      have e0 : IntKind.i64.wrap (4 * (k : Int)) = 4 * (k : Int) := IntWalk.i64_in _ (by omega)
      have e1 : IntKind.i64.wrap (4 * (k : Int) + 1) = 4 * (k : Int) + 1 := IntWalk.i64_in _ (by omega)
      have e2 : IntKind.i64.wrap (4 * (k : Int) + 2) = 4 * (k : Int) + 2 := IntWalk.i64_in _ (by omega)
      have e3 : IntKind.i64.wrap (4 * (k : Int) + 3) = 4 * (k : Int) + 3 := IntWalk.i64_in _ (by omega)
      have n0 : (4 * (k : Int)).toNat = 4 * k := by omega
      have n1 : (4 * (k : Int) + 1).toNat = 4 * k + 1 := by omega
      have n2 : (4 * (k : Int) + 2).toNat = 4 * k + 2 := by omega
      have n3 : (4 * (k : Int) + 3).toNat = 4 * k + 3 := by omega
      have l0 : 0 ≤ 4 * (k : Int) := by omega
      have l1 : 0 ≤ 4 * (k : Int) + 1 := by omega
      have l2 : 0 ≤ 4 * (k : Int) + 2 := by omega
      have l3 : 0 ≤ 4 * (k : Int) + 3 := by omega
      have m0 : 4 * (k : Int) < 64 := by omega
      have m1 : 4 * (k : Int) + 1 < 64 := by omega
      have m2 : 4 * (k : Int) + 2 < 64 := by omega
      have m3 : 4 * (k : Int) + 3 < 64 := by omega
      have lk : 0 ≤ (k : Int) := by omega
      have mk : (k : Int) < 64 := by omega
      go_wp2
      go_still_tail 39, (by kernel_rfl)
      change wpList _ _ _ _ _ wr.drew
      have hs' := hs.drew
      clear hs c0 c1 c2 c3 e0 e1 e2 e3 n0 n1 n2 n3 l0 l1 l2 l3 m0 m1 m2 m3
      generalize wr.drew = w2 at hs' ⊢
      have r0 := hs'.row.cell (i := k) (by omega)
      have f0 := hs'.row.frozen k
      go_wp2
      go_roundw
      case rel => exact ⟨k + 1, by omega, by go_num, hs'.put (by rw [HV.out, wAt_first _ _ (by omega)]; rfl)⟩
      case measure => simp [intOf]; omega
    · have HK := Lib.hid (show k = 16 by omega)
      go_wp2
      go_loopw [5] (fun i wr => ∃ k : Nat, 16 ≤ k ∧ k ≤ 64 ∧ i = .int .i64 k ∧ Spr w wr bt k) (fun i _ => 64 - (intOf i).toNat)
      case atStart => exact ⟨16, by omega, by omega, rfl, HK.out ▸ hs⟩
      case round =>
        clear hs hlt hk HK
        obtain ⟨k, h16, hk, rfl, hs⟩ := hrel
        by_cases hlt : k < 64
        · have v0 := sg0_val (wAt (word bt) (k - 15))
          have v1 := sg1_val (wAt (word bt) (k - 2))
          have HN := Lib.hid (wAt_next (word bt) k h16)
          have e0 : IntKind.i64.wrap ((k : Int) - 15) = (k : Int) - 15 := IntWalk.i64_in _ (by omega)
          have e1 : IntKind.i64.wrap ((k : Int) - 2) = (k : Int) - 2 := IntWalk.i64_in _ (by omega)
          have n0 : ((k : Int) - 15).toNat = k - 15 := by omega
          have n1 : ((k : Int) - 2).toNat = k - 2 := by omega
          have l0 : 0 ≤ (k : Int) - 15 := by omega
          have l1 : 0 ≤ (k : Int) - 2 := by omega
          have m0 : (k : Int) - 15 < 64 := by omega
          have m1 : (k : Int) - 2 < 64 := by omega
          have r15 := hs.get (k - 15) (by omega) (by omega)
          go_wp2
          go_quiet ((go_at_call 51; exact quiet_here (turned_any _ _ _ (by omega) (by omega))))
          have hs1 := hs.drewN nq
          clear r15 hs
          generalize wr.drewN nq = wa at hs1 ⊢
          have r2 := hs1.get (k - 2) (by omega) (by omega)
          go_wp2
          go_quiet ((go_at_call 51; exact quiet_here (turned_any _ _ _ (by omega) (by omega))))
          have hs2 := hs1.drewN nq
          clear r2 hs1 v0 v1 e0 e1 n0 n1 l0 l1 m0 m1
          generalize wa.drewN nq = wb at hs2 ⊢
          have r16 := hs2.get (k - 16) (by omega) (by omega)
          have r7 := hs2.get (k - 7) (by omega) (by omega)
          have e0 : IntKind.i64.wrap ((k : Int) - 16) = (k : Int) - 16 := IntWalk.i64_in _ (by omega)
          have e1 : IntKind.i64.wrap ((k : Int) - 7) = (k : Int) - 7 := IntWalk.i64_in _ (by omega)
          have n0 : ((k : Int) - 16).toNat = k - 16 := by omega
          have n1 : ((k : Int) - 7).toNat = k - 7 := by omega
          have l0 : 0 ≤ (k : Int) - 16 := by omega
          have l1 : 0 ≤ (k : Int) - 7 := by omega
          have m0 : (k : Int) - 16 < 64 := by omega
          have m1 : (k : Int) - 7 < 64 := by omega
          have lk : 0 ≤ (k : Int) := by omega
          have mk : (k : Int) < 64 := by omega
          have ka := add_u32
          have x0 : 16 ≤ (k : Int) := by omega
          have x1 : 7 ≤ (k : Int) := by omega
          go_wp2
          go_still_tail 15, (by kernel_rfl)
          change wpList _ _ _ _ _ wb.drew
          have hs3 := hs2.drew
          clear hs2 r16 r7 e0 e1 n0 n1 l0 l1 m0 m1
          generalize wb.drew = wc at hs3 ⊢
          have r0 := hs3.row.cell (i := k) (by omega)
          have f0 := hs3.row.frozen k
          go_wp2
          go_roundw
          case rel => exact ⟨k + 1, by omega, by omega, by go_num, hs3.put (by rw [HN.out])⟩
          case measure => simp [intOf]; omega
        · obtain rfl : k = 64 := by omega
          have hrow : wr.rowIs (w.heap.size + 1) 96 64 (fun i => .int .u32 (tn (wAt (word bt) i))) := hs.row.congr fun j hj => by rw [if_pos hj]
          have h1 := row_block hrow
          have h2 := row_block hs.res
          have hi : ∀ f, (Tryd.prog.info? 96).map (·.size) = some (vals 64 f).size := fun f => info_vals f (by kernel_rfl)
          have ho : (vals 64 fun i => Value.int .u32 (tn (wAt (word bt) i))).all (·.oneCell') = true := vals_one fun _ => rfl
          have hz : (vals 64 fun _ => Value.int .u32 0).size = (vals 64 fun i => Value.int .u32 (tn (wAt (word bt) i))).size := by rw [vals_size, vals_size]
          have hbl := below_setRow' hs.below (Nat.le_refl _) (vals 64 fun i => Value.int .u32 (tn (wAt (word bt) i)))
          have h3 := row_block (row_setRow (g := fun i => Value.int .u32 (tn (wAt (word bt) i))) hs.res)
          clear hs hrow
          have H1 := Lib.hid h1
          have H2 := Lib.hid h2
          have H3 := Lib.hid h3
          have HI := Lib.hid hi
          have HZ := Lib.hid hz
          have HO := Lib.hid ho
          clear h1 h2 h3 hi hz ho
          go_wp2_with (first
            | (with_reducible refine wpList_load_row rfl 96 _ rfl _ rfl 96 _ _ _ H1.out Tryd.underlying96 rfl (HI.out _) ?_)
            | (with_reducible refine wpList_store_row rfl 96 _ _ rfl _ _ rfl rfl 96 _ H2.out (HI.out _) HZ.out HO.out ?_))
          refine bodyPost_ret (results_cell_row rfl _ _ _ 96 _ _ _ rfl H3.out Tryd.underlying96 rfl (HI.out _)) rfl ?_
          exact ⟨rfl, hbl⟩
end Go.Proofs.YtgenpfhcbopokaaDoor
namespace Go.Proofs.YtgenpfhcbopokaaDoor
open Go.ChangeShapes Go.WideShapes Go.ChangeAt Go.RowKit Sh

/-- A sum on its way, cell by cell: eight words, 64 bytes, a count. -/
def runF (s : St) (bt : Nat → UInt8) (n : Int) : Nat → Value := fun j => if j < 8 then .int .u32 (tn (s.at j)) else if j < 72 then .int .u8 ((bt (j - 8)).toNat : Int) else .int .u64 n
/-- The constants lie in the second variable. -/
def KOn (w : World) : Prop := ∀ i, i < 64 → w.cell? ⟨1, i, none⟩ = some (.int .u32 (tn (kAt i)))
theorem KOn.lt {w : World} (h : KOn w) : 1 < w.heap.size := block_lt_of_cell (h 0 (by omega))
theorem KOn.only {w w' : World} {b : Nat} (h : KOn w) (o : Only w w' b) (hb : 1 ≠ b) : KOn w' := fun i hi => (o.cell (a := ⟨1, i, none⟩) h.lt hb).trans (h i hi)
theorem KOn.drewN {w : World} (h : KOn w) (n : Nat) : KOn (w.drewN n) := h

/-- While the rounds go: the sum on its way is as it was, the words' row is made. -/
structure Mx (w wr : World) (b g : Nat) (s : St) (bt : Nat → UInt8) (n : Int) : Prop where
  only : Only w wr b
  row : wr.rowIs b 76 73 (runF s bt n)
  tab : wr.rowIs g 96 64 (fun i => .int .u32 (tn (wAt (word bt) i)))
  kon : KOn wr
theorem Mx.drewN {w wr : World} {b g : Nat} {s : St} {bt : Nat → UInt8} {n : Int} (h : Mx w wr b g s bt n) (m : Nat) : Mx w (wr.drewN m) b g s bt n := ⟨h.only.drewN m, h.row, h.tab, h.kon.drewN m⟩

theorem index8 (t : St) (k : Nat) (hk : k < 8) (w : World) :
    (Instr.index 72 (.agg #[.int .u32 (tn t.a), .int .u32 (tn t.b), .int .u32 (tn t.c), .int .u32 (tn t.d), .int .u32 (tn t.e), .int .u32 (tn t.f), .int .u32 (tn t.g), .int .u32 (tn t.h)]) (.int .i64 (k : Int))).run Tryd.prog w
      = .ok (.int .u32 (tn (t.at k))) w := by
  match k, hk with
  | 0, _ => exact (show (_ : Result Value) = _ by kernel_rfl)
  | 1, _ => exact (show (_ : Result Value) = _ by kernel_rfl)
  | 2, _ => exact (show (_ : Result Value) = _ by kernel_rfl)
  | 3, _ => exact (show (_ : Result Value) = _ by kernel_rfl)
  | 4, _ => exact (show (_ : Result Value) = _ by kernel_rfl)
  | 5, _ => exact (show (_ : Result Value) = _ by kernel_rfl)
  | 6, _ => exact (show (_ : Result Value) = _ by kernel_rfl)
  | 7, _ => exact (show (_ : Result Value) = _ by kernel_rfl)

/-- The first k words are the sums. -/
def addF (s t : St) (bt : Nat → UInt8) (n : Int) (k : Nat) : Nat → Value := fun j => if j < 8 then .int .u32 (tn (if j < k then s.at j + t.at j else s.at j)) else if j < 72 then .int .u8 ((bt (j - 8)).toNat : Int) else .int .u64 n
structure Ax (w wr : World) (b : Nat) (s t : St) (bt : Nat → UInt8) (n : Int) (k : Nat) : Prop where
  only : Only w wr b
  row : wr.rowIs b 76 73 (addF s t bt n k)
theorem Ax.drew {w wr : World} {b : Nat} {s t : St} {bt : Nat → UInt8} {n : Int} {k : Nat} (h : Ax w wr b s t bt n k) : Ax w wr.drew b s t bt n k := ⟨h.only.drew, h.row⟩
theorem Ax.put {w wr : World} {b : Nat} {s t : St} {bt : Nat → UInt8} {n : Int} {k : Nat} (h : Ax w wr b s t bt n k) (hk : k < 8) : Ax w (wr.setCell ⟨b, k, none⟩ (.int .u32 (tn (s.at k + t.at k)))) b s t bt n (k + 1) := by
  refine ⟨h.only.setCell (.inl rfl) _, (h.row.set k _).congr fun j _ => ?_⟩
  unfold addF
  by_cases e : j = k
  · subst e; rw [if_pos rfl, if_pos hk, if_pos (by omega)]
  · rw [if_neg e]
    by_cases h8 : j < 8
    · rw [if_pos h8, if_pos h8]
      by_cases hlt : j < k
      · rw [if_pos hlt, if_pos (by omega)]
      · rw [if_neg hlt, if_neg (by omega)]
    · rw [if_neg h8, if_neg h8]

set_option maxRecDepth 100000 in
set_option maxHeartbeats 800000 in
theorem mix_any (b : Nat) (s : St) (bt : Nat → UInt8) (n : Int) (w : World) (hr : w.rowIs b 76 73 (runF s bt n)) (hk : KOn w) (hb : 1 ≠ b) :
    Calls Tryd.prog 46 #[.pointer (some ⟨b, 0, none⟩)] w fun e w' =>
      e = .returned (.tuple #[]) ∧ w'.rowIs b 76 73 (runF (mixed s bt) bt n) ∧ Only w w' b := by
  have hc : ∀ j, j < 64 → w.cell? ⟨b, 8 + j, none⟩ = some (.int .u8 ((bt j).toNat : Int)) := fun j hj => by
    have := hr.cell (i := 8 + j) (by omega)
    rw [this]
    unfold runF
    rw [if_neg (by omega), if_pos (by omega), show 8 + j - 8 = j by omega]
  have HS := Lib.hid (spread_any b bt w hc)
  clear hc
  have HR := Lib.hid hr
  have HKO := Lib.hid hk
  clear hr hk
  go_enter Tryd.func46, Tryd.ntmps46
  go_wp2_with (fail)
  refine HS.out.mono ?_
  rintro e w1 ⟨rfl, hb1⟩
  have h1 : ∀ old, (w1.alloc (.cells old 96)).heap[w1.heap.size]? = some (.cells old 96 (0, 0)) := fun old => heap_alloc_new w1 _
  have H1 := Lib.hid h1
  clear h1
  have HI := Lib.hid (show ∀ f, (Tryd.prog.info? 96).map (·.size) = some (vals 64 f).size from fun f => info_vals f (by kernel_rfl))
  have HO := Lib.hid (show (vals 64 fun i => Value.int .u32 (tn (wAt (word bt) i))).all (·.oneCell') = true from vals_one fun _ => rfl)
  have HB1 := Lib.hid hb1
  clear hb1
  go_wp2_with (with_reducible refine wpList_store_row rfl 96 _ _ rfl _ _ rfl rfl 96 _ (H1.out _) (HI.out _) ?_ HO.out ?_)
  · exact (vals_size 64 _).symm
  have hM : ∀ old : Array Value, Mx w ((w1.alloc (.cells old 96)).setRow w1.heap.size (vals 64 fun i => Value.int .u32 (tn (wAt (word bt) i)))) b w1.heap.size s bt n := fun old => by
    have hlt := HR.out.lt
    have hs := HB1.out.size
    have o1 : Only w (w1.alloc (.cells old 96)) b := (Only.of_below HB1.out b).alloc _
    have o2 := o1.setRow (g := w1.heap.size) (.inr hs) (vals 64 fun i => Value.int .u32 (tn (wAt (word bt) i)))
    refine ⟨o2, ?_, row_of_block (setRow_heap _ _ old _ _ _ (heap_alloc_new w1 _)), HKO.out.only o2 hb⟩
    have r1 : w1.rowIs b 76 73 (runF s bt n) := HR.out.of_block (HB1.out.block b hlt)
    exact row_setRow_other (r1.alloc _) (by have := r1.lt; omega)
  refine gen_world (fun wr => Mx w wr b w1.heap.size s bt n) (hM _) ?_
  clear hM H1 HI HO HS
  intro wr hM
  have c0 : wr.cell? ⟨b, 0, none⟩ = some (.int .u32 (tn s.a)) := hM.row.cell (i := 0) (by omega)
  have c1 : wr.cell? ⟨b, 1, none⟩ = some (.int .u32 (tn s.b)) := hM.row.cell (i := 1) (by omega)
  have c2 : wr.cell? ⟨b, 2, none⟩ = some (.int .u32 (tn s.c)) := hM.row.cell (i := 2) (by omega)
  have c3 : wr.cell? ⟨b, 3, none⟩ = some (.int .u32 (tn s.d)) := hM.row.cell (i := 3) (by omega)
  have c4 : wr.cell? ⟨b, 4, none⟩ = some (.int .u32 (tn s.e)) := hM.row.cell (i := 4) (by omega)
  have c5 : wr.cell? ⟨b, 5, none⟩ = some (.int .u32 (tn s.f)) := hM.row.cell (i := 5) (by omega)
  have c6 : wr.cell? ⟨b, 6, none⟩ = some (.int .u32 (tn s.g)) := hM.row.cell (i := 6) (by omega)
  have c7 : wr.cell? ⟨b, 7, none⟩ = some (.int .u32 (tn s.h)) := hM.row.cell (i := 7) (by omega)
  go_wp2
  go_quiet (fail)
  go_wp2
  go_quiet (fail)
  go_wp2
  refine gen_world (fun wr => Mx w wr b w1.heap.size s bt n) ((hM.drewN _).drewN _) ?_
  clear hM c0 c1 c2 c3 c4 c5 c6 c7
  intro wr hM
  have hlt1 := HR.out.lt
  clear HR HKO
  go_loopw [3, 4, 5, 6, 7, 8, 9, 10, 60] (fun v3 v4 v5 v6 v7 v8 v9 v10 i wr => ∃ k : Nat, k ≤ 64 ∧ i = .int .i64 k ∧ Mx w wr b w1.heap.size s bt n ∧
      v3 = .int .u32 (tn (runs (wAt (word bt)) s k).a) ∧ v4 = .int .u32 (tn (runs (wAt (word bt)) s k).b) ∧ v5 = .int .u32 (tn (runs (wAt (word bt)) s k).c) ∧ v6 = .int .u32 (tn (runs (wAt (word bt)) s k).d) ∧
      v7 = .int .u32 (tn (runs (wAt (word bt)) s k).e) ∧ v8 = .int .u32 (tn (runs (wAt (word bt)) s k).f) ∧ v9 = .int .u32 (tn (runs (wAt (word bt)) s k).g) ∧ v10 = .int .u32 (tn (runs (wAt (word bt)) s k).h))
    (fun _ _ _ _ _ _ _ _ i _ => 64 - (intOf i).toNat)
  case atStart => exact ⟨0, by omega, rfl, hM, rfl, rfl, rfl, rfl, rfl, rfl, rfl, rfl⟩
  case round =>
    clear hM
    obtain ⟨k, hk, rfl, hM, rfl, rfl, rfl, rfl, rfl, rfl, rfl, rfl⟩ := hrel
    have HT := Lib.hid (show runs (wAt (word bt)) s (k + 1) = rnd (kAt k) (wAt (word bt) k) (runs (wAt (word bt)) s k) from rfl)
    have HTk := Lib.hid (show k = 64 → mixed s bt = plusSt s (runs (wAt (word bt)) s k) from fun e => by rw [e]; rfl)
    generalize runs (wAt (word bt)) s k = t at HT HTk ⊢
    by_cases hlt : k < 64
    · have cK := hM.kon k hlt
      have cW := hM.tab.cell hlt
      have lk : 0 ≤ (k : Int) := by omega
      have mk : (k : Int) < 64 := by omega
      have kx := xor_u32
      have kn := and_u32
      have ka := add_u32
      have km := add_u32m
      have kt := not_u32 t.e
      go_wp2
      go_quiet ((go_at_call 51; exact quiet_here (turned_any _ _ _ (by omega) (by omega))))
      have hM2 := hM.drewN nq
      clear cK cW hM kt
      generalize wr.drewN nq = wx at hM2 ⊢
      go_wp2_with (go_at_call 51; refine (turned_any _ _ _ (by omega) (by omega)).mono ?_; rintro e w' ⟨rfl, rfl⟩)
      go_roundw
      case rel => exact ⟨k + 1, by omega, by go_num, hM2, by rw [HT.out]; rfl, by rw [HT.out]; rfl, by rw [HT.out]; rfl, by rw [HT.out]; rfl, by rw [HT.out]; rfl, by rw [HT.out]; rfl, by rw [HT.out]; rfl, by rw [HT.out]; rfl⟩
      case measure => simp [intOf]; omega
    · have HK := Lib.hid (show k = 64 by omega)
      have hA : Ax w wr b s t bt n 0 := ⟨hM.only, hM.row.congr fun j _ => by unfold runF addF; simp⟩
      have hI := fun k hk => index8 t k hk
      have HI := Lib.hid hI
      clear hI hM
      go_wp2
      go_loopw [132] (fun i wr => ∃ k : Nat, k ≤ 8 ∧ i = .int .i64 k ∧ Ax w wr b s t bt n k) (fun i _ => 8 - (intOf i).toNat)
      case atStart => exact ⟨0, by omega, rfl, hA⟩
      case round =>
        clear hA hlt hk
        obtain ⟨k, hk, rfl, hA⟩ := hrel
        by_cases hlt : k < 8
        · have hix := HI.out k hlt
          have lk : 0 ≤ (k : Int) := by omega
          have mk : (k : Int) < 8 := by omega
          have c0 : wr.cell? ⟨b, k, none⟩ = some (.int .u32 (tn (s.at k))) := by
            have := hA.row.cell (i := k) (by omega)
            unfold addF at this
            rwa [if_pos hlt, if_neg (by omega)] at this
          have ka := add_u32
          go_wp2
          go_still_tail 11, (by kernel_rfl)
          have hA2 := hA.drew
          clear hA c0
          refine gen_list (fun wr => Ax w wr b s t bt n k) hA2 ?_
          clear hA2
          intro wx hA
          have c0 : wx.cell? ⟨b, k, none⟩ = some (.int .u32 (tn (s.at k))) := by
            have := hA.row.cell (i := k) (by omega)
            unfold addF at this
            rwa [if_pos hlt, if_neg (by omega)] at this
          have f0 := hA.row.frozen k
          go_wp2
          go_roundw
          case rel => exact ⟨k + 1, by omega, by go_num, hA.put hlt⟩
          case measure => simp [intOf]; omega
        · have HK8 := Lib.hid (show k = 8 by omega)
          go_wp2
          go_end0
          refine ⟨rfl, hA.row.congr fun j _ => ?_, hA.only⟩
          have e1 := HTk.out HK.out
          have e2 := HK8.out
          unfold addF runF
          by_cases h8 : j < 8
          · rw [if_pos h8, if_pos h8, if_pos (by omega), e1, plusSt_at]
          · rw [if_neg h8, if_neg h8]
end Go.Proofs.YtgenpfhcbopokaaDoor
namespace Go.Proofs.YtgenpfhcbopokaaDoor
open Go.ChangeShapes Go.WideShapes Go.ChangeAt Go.RowKit Sh

/-- m bytes of L are in the sum on its way. -/
def Run (w : World) (b : Nat) (L : Nat → UInt8) (m : Nat) : Prop :=
  ∃ bt : Nat → UInt8, w.rowIs b 76 73 (runF (blocks L (m / 64)) bt (m : Int)) ∧ ∀ j, j < m % 64 → bt j = L (64 * (m / 64) + j)
/-- The next bytes of L are q's. -/
def Next (L : Nat → UInt8) (m : Nat) (q : ByteArray) : Prop := ∀ i, i < q.size → q.data.toList.getD i 0 = L (m + i)

def strSize : Value → Nat
  | .string q => q.size
  | _ => 0
theorem size_list (q : ByteArray) : q.data.toList.length = q.size := rfl

/-- The bytes of the block behind a copy. -/
def btSet (bt : Nat → UInt8) (c n : Nat) (q : ByteArray) : Nat → UInt8 := fun j => if c ≤ j ∧ j < c + n then q.data.toList.getD (j - c) 0 else bt j
theorem spliced_run (s : St) (bt : Nat → UInt8) (cnt : Int) (c n : Nat) (q : ByteArray) (hn : n ≤ q.size) (hc : c + n ≤ 64) (j : Nat) (_ : j < 73) :
    spliced (8 + c) ((q.data.toList.take n).map fun x => Value.int .u8 (x.toNat : Int)) (runF s bt cnt) j = runF s (btSet bt c n q) cnt j := by
  unfold spliced
  have hl : ((q.data.toList.take n).map fun x => Value.int .u8 (x.toNat : Int)).length = n := by simp; omega
  rw [hl]
  by_cases h : 8 + c ≤ j ∧ j < 8 + c + n
  · rw [if_pos h]
    unfold runF btSet
    rw [if_neg (by omega), if_pos (by omega), if_pos (by omega)]
    rw [List.getD_eq_getElem?_getD, List.getElem?_map, List.getElem?_take, if_pos (by omega), List.getElem?_eq_getElem (by rw [size_list]; omega), List.getD_eq_getElem?_getD, List.getElem?_eq_getElem (by rw [size_list]; omega)]
    simp only [Option.map_some, Option.getD_some]
    congr 3
    simp only [show j - (8 + c) = j - 8 - c by omega]
  · rw [if_neg h]
    unfold runF btSet
    by_cases h8 : j < 8
    · rw [if_pos h8, if_pos h8]
    · rw [if_neg h8, if_neg h8]
      by_cases h72 : j < 72
      · rw [if_pos h72, if_pos h72, if_neg (by omega)]
      · rw [if_neg h72, if_neg h72]
theorem runF_count (s : St) (bt : Nat → UInt8) (cnt cnt' : Int) (j : Nat) (h : j < 73) : (if j = 72 then Value.int .u64 cnt' else runF s bt cnt j) = runF s bt cnt' j := by
  unfold runF
  by_cases e : j = 72
  · subst e; simp
  · rw [if_neg e]
    by_cases h8 : j < 8
    · rw [if_pos h8, if_pos h8]
    · rw [if_neg h8, if_neg h8, if_pos (by omega), if_pos (by omega)]

/-- The state of the inner loop: so many bytes are in, the part that is left comes next. -/
structure In (w wr : World) (b : Nat) (L : Nat → UInt8) (M : Nat) (q : ByteArray) (m : Nat) : Prop where
  only : Only w wr b
  run : Run wr b L m
  next : Next L m q
  all : m + q.size = M
  kon : KOn wr

theorem bt_set (L : Nat → UInt8) (bt : Nat → UInt8) (m n : Nat) (q : ByteArray) (_ : n ≤ q.size) (_ : m % 64 + n ≤ 64) (hbt : ∀ j, j < m % 64 → bt j = L (64 * (m / 64) + j)) (hq : Next L m q) (j : Nat) (hj : j < m % 64 + n) :
    btSet bt (m % 64) n q j = L (64 * (m / 64) + j) := by
  unfold btSet
  by_cases h : m % 64 ≤ j ∧ j < m % 64 + n
  · rw [if_pos h, hq (j - m % 64) (by omega)]
    congr 1
    omega
  · rw [if_neg h]
    exact hbt j (by omega)
theorem run_part {w : World} {b : Nat} {L : Nat → UInt8} {bt : Nat → UInt8} {m n : Nat} {q : ByteArray} (hn : n ≤ q.size) (hc : m % 64 + n < 64) (hbt : ∀ j, j < m % 64 → bt j = L (64 * (m / 64) + j)) (hq : Next L m q)
    (hr : w.rowIs b 76 73 (runF (blocks L (m / 64)) (btSet bt (m % 64) n q) ((m + n : Nat) : Int))) : Run w b L (m + n) := by
  refine ⟨btSet bt (m % 64) n q, ?_, fun j hj => ?_⟩
  · rw [show (m + n) / 64 = m / 64 by omega]; exact hr
  · rw [show (m + n) / 64 = m / 64 by omega]; exact bt_set L bt m n q hn (by omega) hbt hq j (by omega)
theorem run_full {w : World} {b : Nat} {L : Nat → UInt8} {bt : Nat → UInt8} {m n : Nat} {q : ByteArray} (hn : n ≤ q.size) (hc : m % 64 + n = 64) (hbt : ∀ j, j < m % 64 → bt j = L (64 * (m / 64) + j)) (hq : Next L m q)
    (hr : w.rowIs b 76 73 (runF (mixed (blocks L (m / 64)) (btSet bt (m % 64) n q)) (btSet bt (m % 64) n q) ((m + n : Nat) : Int))) : Run w b L (m + n) := by
  refine ⟨btSet bt (m % 64) n q, ?_, fun j hj => by omega⟩
  rw [show (m + n) / 64 = m / 64 + 1 by omega]
  have e : mixed (blocks L (m / 64)) (btSet bt (m % 64) n q) = blocks L (m / 64 + 1) := by
    simp only [blocks]
    exact mixed_congr _ _ _ fun j hj => bt_set L bt m n q hn (by omega) hbt hq j (by omega)
  rw [← e]; exact hr
theorem next_rest {L : Nat → UInt8} {m n : Nat} {q : ByteArray} (hq : Next L m q) : Next L (m + n) (q.extract n q.size) := by
  intro i hi
  rw [ByteArray.size_extract] at hi
  have h := hq (n + i) (by omega)
  rw [← Nat.add_assoc] at h
  rw [← h]
  simp only [List.getD_eq_getElem?_getD, ByteArray.data_extract, Array.getElem?_toList]
  rw [Array.getElem?_extract]
  simp only [ByteArray.size] at hi ⊢
  rw [if_pos (by omega)]
theorem copy_step {w wx : World} {b : Nat} {s : St} {bt : Nat → UInt8} {cnt : Int} {c n : Nat} {q : ByteArray} (ho : Only w wx b) (hr : wx.rowIs b 76 73 (runF s bt cnt)) (hk : KOn wx) (hb : 1 ≠ b)
    (hn : n = min q.size (64 - c)) (hc : c < 64) :
    ∃ wy, (∀ ty, (Builtin.copy_ #[83, 9] ty #[.slice (some ⟨b, 8 + c, none⟩) (64 - c) (64 - c), .string q]).run Tryd.prog wx = .ok (goInt n) wy) ∧
      wy.rowIs b 76 73 (runF s (btSet bt c n q) cnt) ∧ Only w wy b ∧ KOn wy := by
  have hl : ((q.data.toList.take n).map fun x => Value.int .u8 (x.toNat : Int)).length = n := by simp; omega
  have hy := Only.setRow (.refl wx b) (g := b) (.inl rfl) (vals 73 (spliced (8 + c) ((q.data.toList.take n).map fun x => Value.int .u8 (x.toNat : Int)) (runF s bt cnt)))
  refine ⟨_, fun ty => run_copy_str wx _ _ ty 5 b (8 + c) (64 - c) (64 - c) q ((q.data.toList.take n).map fun x => Value.int .u8 (x.toNat : Int)) _ 73 _ Tryd.underlying83 (fun _ => by kernel_rfl) hr (by rw [hn]) (by rw [hl]; omega) n hn, ?_, ho.trans hy, hk.only hy hb⟩
  exact (row_setRow hr).congr fun j hj => spliced_run s bt cnt c n q (by omega) (by omega) j hj

/-- All bytes of these texts, one behind the other. -/
def flat (ss : List ByteArray) : List UInt8 := ss.flatMap fun q => q.data.toList
theorem flat_next (ss : List ByteArray) (k : Nat) (h : k < ss.length) : flat (ss.take (k + 1)) = flat (ss.take k) ++ (ss.getD k ByteArray.empty).data.toList := by
  unfold flat
  rw [List.take_succ_eq_append_getElem h, List.flatMap_append]
  simp [List.getD_eq_getElem?_getD, h]
theorem flat_step (ss : List ByteArray) (k : Nat) (h : k < ss.length) : (flat (ss.take (k + 1))).length = (flat (ss.take k)).length + (ss.getD k ByteArray.empty).size := by
  rw [flat_next ss k h, List.length_append]; rfl
theorem flat_take_le (ss : List ByteArray) (k : Nat) : (flat (ss.take k)).length ≤ (flat ss).length := by
  have e : flat ss = flat (ss.take k) ++ flat (ss.drop k) := by unfold flat; rw [← List.flatMap_append, List.take_append_drop]
  rw [e, List.length_append]; omega
/-- The next bytes of L are these texts'. -/
def Feeds (L : Nat → UInt8) (m : Nat) (l : List UInt8) : Prop := ∀ i, i < l.length → l.getD i 0 = L (m + i)
theorem feeds_part {L : Nat → UInt8} {m : Nat} {ss : List ByteArray} (h : Feeds L m (flat ss)) (k : Nat) (hk : k < ss.length) : Next L (m + (flat (ss.take k)).length) (ss.getD k ByteArray.empty) := by
  have e : flat ss = flat (ss.take (k + 1)) ++ flat (ss.drop (k + 1)) := by unfold flat; rw [← List.flatMap_append, List.take_append_drop]
  rw [flat_next ss k hk] at e
  generalize ss.getD k ByteArray.empty = q at e
  intro i hi
  have hl : i < q.data.toList.length := hi
  have h1 := h ((flat (ss.take k)).length + i) (by rw [e]; simp only [List.length_append]; omega)
  have h2 : (flat ss)[(flat (ss.take k)).length + i]? = q.data.toList[i]? := by
    rw [e, List.append_assoc, List.getElem?_append_right (by omega), Nat.add_sub_cancel_left, List.getElem?_append_left hl]
  rw [Nat.add_assoc, ← h1, List.getD_eq_getElem?_getD, List.getD_eq_getElem?_getD, h2]

set_option maxRecDepth 100000 in
set_option maxHeartbeats 1600000 in
theorem add_any (b : Nat) (L : Nat → UInt8) (m0 : Nat) (ss : List ByteArray) (w : World) (A : Option Addr) (n cap : Nat) (hn : n = ss.length) (hnb : n ≤ 1152921504606846976)
    (hA : 0 < n → ∃ pb po, A = some ⟨pb, po, none⟩ ∧ pb ≠ b ∧ ∀ k, k < n → w.cell? ⟨pb, po + k, none⟩ = some (.string (ss.getD k ByteArray.empty)))
    (hrun : Run w b L m0) (hkon : KOn w) (hb : 1 ≠ b) (hM : m0 + (flat ss).length < 1152921504606846976) (hF : Feeds L m0 (flat ss)) :
    Calls Tryd.prog 32 #[.pointer (some ⟨b, 0, none⟩), .slice A n cap] w fun e w' => e = .returned (.tuple #[]) ∧ Run w' b L (m0 + (flat ss).length) ∧ Only w w' b := by
  have HN := Lib.hid hn
  have HA := Lib.hid hA
  have HF := Lib.hid hF
  clear hn hA hF
  go_enter Tryd.func32, Tryd.ntmps32
  go_wp2
  go_loopw [9] (fun i wr => ∃ k : Nat, k ≤ n ∧ i = .int .i64 k ∧ Only w wr b ∧ KOn wr ∧ Run wr b L (m0 + (flat (ss.take k)).length)) (fun i _ => n - (intOf i).toNat)
  case atStart => exact ⟨0, Nat.zero_le _, rfl, .refl _ _, hkon, by simpa [flat] using hrun⟩
  case round =>
    clear hrun hkon
    obtain ⟨k, hk, rfl, ho, hkn, hrun⟩ := hrel
    by_cases hlt1 : k < n
    · obtain ⟨pb, po, rfl, hpb, hcell⟩ := HA.out (by omega)
      have hlt0 : b < wr.heap.size := by obtain ⟨bt, h, _⟩ := hrun; exact h.lt
      have hq := (ho.cell (a := ⟨pb, po + k, none⟩) (block_lt_of_cell (hcell k hlt1)) hpb).trans (hcell k hlt1)
      have hst := flat_step ss k (by have := HN.out; omega)
      have hle := flat_take_le ss (k + 1)
      have hnext := feeds_part HF.out k (by have := HN.out; omega)
      generalize ss.getD k ByteArray.empty = q at hq hst hnext
      have hIn : In w wr b L (m0 + (flat (ss.take (k + 1))).length) q (m0 + (flat (ss.take k)).length) := ⟨ho, hrun, hnext, by omega, hkn⟩
      have hMM : m0 + (flat (ss.take (k + 1))).length < 1152921504606846976 := by omega
      obtain ⟨M, hM2⟩ : ∃ M, M = m0 + (flat (ss.take (k + 1))).length := ⟨_, rfl⟩
      rw [← hM2] at hIn hMM
      have HM := Lib.hid hM2
      clear hM2
      clear hcell hst hle hnext HA
      go_wp2
      go_loopw [5] (fun v wr => ∃ q m, v = .string q ∧ In w wr b L M q m) (fun v _ => strSize v)
      case atStart => exact ⟨q, _, rfl, hIn⟩
      case round =>
        clear ho hkn hq hIn hrun
        obtain ⟨q, m, rfl, hIn⟩ := hrel
        obtain ⟨bt, hrow, hbt⟩ := hIn.run
        by_cases h0 : 0 < q.size
        · obtain ⟨c, hc⟩ : ∃ c, c = m % 64 := ⟨_, rfl⟩
          have hcm : ((m : Int) % 64) = (c : Int) := by omega
          have htm : (m : Int).tmod 64 = (c : Int) := by rw [Int.tmod_eq_emod_of_nonneg (by omega)]; exact hcm
          have hc64 : c < 64 := by omega
          have hn64 : ¬ 64 = c := by omega
          have cc : wr.cell? ⟨b, 72, none⟩ = some (.int .u64 (m : Int)) := hrow.cell (i := 72) (by omega)
          have lm : 0 ≤ (m : Int) := by omega
          have lc : 0 ≤ (c : Int) := by omega
          have lc64 : (c : Int) ≤ 64 := by omega
          have lc65 : (c : Int) < 64 := by omega
          have HC := Lib.hid hc
          clear hc
          go_wp2
          go_still_tail 10, (by kernel_rfl)
          refine gen_list (fun wx => In w wx b L M q m ∧ wx.rowIs b 76 73 (runF (blocks L (m / 64)) bt (m : Int))) ⟨⟨hIn.only.drew, ⟨bt, hrow, hbt⟩, hIn.next, hIn.all, hIn.kon⟩, hrow⟩ ?_
          clear cc hrow hIn lc lc64 lc65 htm hcm
          intro wx hx
          obtain ⟨hIn, hrow⟩ := hx
          obtain ⟨d, hd⟩ : ∃ d, d = min q.size (64 - c) := ⟨_, rfl⟩
          obtain ⟨wy, hcopy, hyrow, hyonly, hykon⟩ := copy_step hIn.only hrow hIn.kon hb hd hc64
          have cy : wy.cell? ⟨b, 72, none⟩ = some (.int .u64 (m : Int)) := hyrow.cell (i := 72) (by omega)
          have fy := hyrow.frozen 72
          have hall := hIn.all
          have d1 : 1 ≤ d := by omega
          have d2 : d ≤ q.size := by omega
          have d3 : c + d ≤ 64 := by omega
          have d4 : m + d ≤ M := by omega
          have HD := Lib.hid hd
          have HA2 := Lib.hid hall
          clear hd hall
          by_cases hB : c + d = 64
          · have ht : (((m : Int) + (d : Int)) % 64 == 0) = true := by have := HC.out; rw [beq_iff_eq]; omega
            have HB := Lib.hid hB
            clear hB
            go_wp2_with (fail)
            have hr2 : (wy.setCell ⟨b, 72, none⟩ (.int .u64 ((m : Int) + (d : Int)))).rowIs b 76 73 (runF (blocks L (m / 64)) (btSet bt c d q) ((m : Int) + (d : Int))) := (hyrow.set 72 _).congr fun j hj => runF_count _ _ _ _ j hj
            have ho2 := hyonly.setCell (a := ⟨b, 72, none⟩) (.inl rfl) (.int .u64 ((m : Int) + (d : Int)))
            have hk2 := hykon.only (Only.setCell (.refl wy b) (a := ⟨b, 72, none⟩) (.inl rfl) (.int .u64 ((m : Int) + (d : Int)))) hb
            refine (mix_any b _ _ _ _ hr2 hk2 hb).mono ?_
            rintro e w3 ⟨rfl, hr3, ho3⟩
            clear hr2 cy fy hcopy hyrow hrow
            go_wp2
            go_roundw
            case rel =>
              have e1 := HC.out
              have e2 := HB.out
              subst e1
              exact ⟨_, m + d, rfl, ho2.trans ho3, run_full d2 (by omega) hbt hIn.next (by rw [Int.natCast_add]; exact hr3), next_rest hIn.next, by have := HA2.out; rw [ByteArray.size_extract]; omega, hk2.only ho3 hb⟩
            case measure => simp [strSize, ByteArray.size_extract]; omega
          · have ht : (((m : Int) + (d : Int)) % 64 == 0) = false := by have := HC.out; rw [beq_eq_false_iff_ne]; omega
            have HB := Lib.hid hB
            clear hB
            have hr2 : (wy.setCell ⟨b, 72, none⟩ (.int .u64 ((m : Int) + (d : Int)))).rowIs b 76 73 (runF (blocks L (m / 64)) (btSet bt c d q) ((m : Int) + (d : Int))) := (hyrow.set 72 _).congr fun j hj => runF_count _ _ _ _ j hj
            have ho2 := hyonly.setCell (a := ⟨b, 72, none⟩) (.inl rfl) (.int .u64 ((m : Int) + (d : Int)))
            have hk2 := hykon.only (Only.setCell (.refl wy b) (a := ⟨b, 72, none⟩) (.inl rfl) (.int .u64 ((m : Int) + (d : Int)))) hb
            clear hyrow hrow
            go_wp2
            go_roundw
            case rel =>
              have e1 := HC.out
              have e2 := HB.out
              subst e1
              exact ⟨_, m + d, rfl, ho2, run_part d2 (by omega) hbt hIn.next (by rw [Int.natCast_add]; exact hr2), next_rest hIn.next, by have := HA2.out; rw [ByteArray.size_extract]; omega, hk2⟩
            case measure => simp [strSize, ByteArray.size_extract]; omega
        · have HZ := Lib.hid (show q.size = 0 by omega)
          go_wp2
          go_roundw
          case rel =>
            have e1 := HZ.out
            have e2 := hIn.all
            have e3 := HM.out
            exact ⟨k + 1, by omega, by go_num, hIn.only, hIn.kon, by rw [← e3, ← e2, e1]; exact hIn.run⟩
          case measure => simp [intOf]; omega
    · go_wp2
      go_end0
      have e1 := HN.out
      have e2 : ss.take k = ss := List.take_of_length_le (by omega)
      rw [e2] at hrun
      exact ⟨rfl, hrun, ho⟩
end Go.Proofs.YtgenpfhcbopokaaDoor
namespace Go.Proofs.YtgenpfhcbopokaaDoor
open Go.ChangeShapes Go.WideShapes Go.ChangeAt Go.RowKit Sh

/-- The j-th byte of words, the highest of each first. -/
def wbyte (W : Nat → BitVec 32) (j : Nat) : UInt8 := UInt8.ofNat ((W (j / 4)).toNat / 2 ^ (24 - 8 * (j % 4)))
/-- A slice of n new bytes. -/
def ByteSlice (w : World) (n : Nat) (f : Nat → UInt8) (e : Ending) (w' : World) : Prop :=
  ∃ g, e = .returned (.slice (some ⟨g, 0, none⟩) n n) ∧ w.heap.size ≤ g ∧ (∀ j, j < n → w'.cell? ⟨g, j, none⟩ = some (.int .u8 ((f j).toNat : Int))) ∧ Below w.heap.size w w'
theorem wbyte_val (W : Nat → BitVec 32) (k i : Nat) (hi : i < 4) : ((wbyte W (4 * k + i)).toNat : Int) = tn (W k) / ((2 ^ (24 - 8 * i) : Nat) : Int) % 256 := by
  unfold wbyte tn
  rw [show (4 * k + i) / 4 = k by omega, show (4 * k + i) % 4 = i by omega, UInt8.toNat_ofNat']
  rw [← Int.natCast_ediv]
  omega
theorem wbyte0 (W : Nat → BitVec 32) (k : Nat) : tn (W k) / 16777216 % 256 = ((wbyte W (4 * k)).toNat : Int) := (wbyte_val W k 0 (by omega)).symm
theorem wbyte1 (W : Nat → BitVec 32) (k : Nat) : tn (W k) / 65536 % 256 = ((wbyte W (4 * k + 1)).toNat : Int) := (wbyte_val W k 1 (by omega)).symm
theorem wbyte2 (W : Nat → BitVec 32) (k : Nat) : tn (W k) / 256 % 256 = ((wbyte W (4 * k + 2)).toNat : Int) := (wbyte_val W k 2 (by omega)).symm
theorem wbyte3 (W : Nat → BitVec 32) (k : Nat) : tn (W k) % 256 = ((wbyte W (4 * k + 3)).toNat : Int) := by
  rw [wbyte_val W k 3 (by omega)]; simp
theorem range_four (f : Nat → Value) (k : Nat) : (List.range (4 * (k + 1))).map f = (List.range (4 * k)).map f ++ [f (4 * k), f (4 * k + 1), f (4 * k + 2), f (4 * k + 3)] := by
  rw [show 4 * (k + 1) = 4 * k + 1 + 1 + 1 + 1 by omega]
  simp [List.range_succ]
theorem info5 : (Tryd.prog.info? 5).map (fun i => (i.zero, i.size, i.bytes)) = some (some (.int .u8 0), 1, 1) := by kernel_rfl

set_option maxRecDepth 100000 in
set_option maxHeartbeats 1000000 in
theorem bytesOf_any (W : Nat → BitVec 32) (pb po n : Nat) (w : World) (hcell : ∀ k, k < n → w.cell? ⟨pb, po + k, none⟩ = some (.int .u32 (tn (W k)))) (hn0 : 0 < n) (hn : n ≤ 1000) (cap : Nat) :
    Calls Tryd.prog 48 #[.slice (some ⟨pb, po, none⟩) n cap] w (ByteSlice w (4 * n) (wbyte W)) := by
  have hlt0 := block_lt_of_cell (hcell 0 hn0)
  have HC := Lib.hid hcell
  clear hcell
  obtain ⟨i0, hi, hz0, hz1, hz2⟩ := info_parts info5
  have HI := Lib.hid hi
  have HZ0 := Lib.hid hz0
  have HZ1 := Lib.hid hz1
  have HZ2 := Lib.hid hz2
  clear hi hz0 hz1 hz2
  go_enter Tryd.func48, Tryd.ntmps48
  go_wp2_with (at_make; refine wpList_make_own _ rfl _ _ 83 rfl w.heap.size 5 i0 _ 1 Tryd.underlying83 HI.out HZ0.out HZ1.out .i64 .i64 _ (4 * n) rfl rfl (by omega) (by rw [HZ2.out]; omega) (by unfold maxLen; omega) (Nat.le_refl _) ?_)
  intro w1 hown hg1
  have hb1 : Below w.heap.size w w1 := (Below.refl _ _).grown hg1 (Nat.le_refl _) (fun k hk => by cases hk)
  clear hg1
  go_wp2
  go_loopw [3, 12] (fun v i wr => ∃ k : Nat, k ≤ n ∧ i = .int .i64 k ∧ v = .slice (some ⟨w.heap.size, 0, none⟩) (4 * k) (4 * n) ∧ wr.ownsRow w.heap.size 5 1 (.slice (some ⟨w.heap.size, 0, none⟩) (4 * k) (4 * n)) (4 * k) ((List.range (4 * k)).map fun j => .int .u8 ((wbyte W j).toNat : Int)) ∧ Below w.heap.size w wr) (fun _ i _ => n - (intOf i).toNat)
  case atStart => exact ⟨0, Nat.zero_le _, rfl, rfl, hown, hb1⟩
  case round =>
    clear hown hb1
    obtain ⟨k, hk, rfl, rfl, hown, hb1⟩ := hrel
    by_cases hlt : k < n
    · have hc := (hb1.cell (p := ⟨pb, po + k, none⟩) hlt0).trans (HC.out k hlt)
      have hs := hb1.size
      go_wp2_with (at_builtin; refine wpList_append_own_spare _ rfl (.tmp 16) (.tmp 28) 83 rfl w.heap.size 5 i0 1 Tryd.underlying83 HI.out HZ1.out w.heap.size (4 * k) (4 * n) _ rfl (hown.alloc _) ⟨wr.heap.size, 0, none⟩ 4 4 [.int .u8 (tn (W k) / 16777216 % 256), .int .u8 (tn (W k) / 65536 % 256), .int .u8 (tn (W k) / 256 % 256), .int .u8 (tn (W k) % 256)] rfl rfl ?c1 ?c2 (by omega) ?_)
      case c1 =>
        intro j u hj
        match j, hj with
        | 0, hj => simp at hj; subst hj; simp [Addr.add]
        | 1, hj => simp at hj; subst hj; simp [Addr.add]
        | 2, hj => simp at hj; subst hj; simp [Addr.add]
        | 3, hj => simp at hj; subst hj; simp [Addr.add]
      case c2 =>
        intro u hu
        simp only [List.mem_cons, List.not_mem_nil, or_false] at hu
        rcases hu with rfl | rfl | rfl | rfl <;> rfl
      intro w2 hown2 hg2
      have hb2 : Below w.heap.size w w2 := (hb1.alloc hs _).grown hg2 (by simp; omega) (fun j hj => by injection hj with hj; omega)
      rw [wbyte0, wbyte1, wbyte2, wbyte3, ← range_four (fun j => Value.int .u8 ((wbyte W j).toNat : Int))] at hown2
      clear hown hb1 hg2 hc
      go_wp2
      go_roundw
      case rel => exact ⟨k + 1, by omega, by go_num, by rw [Nat.mul_succ], by rw [Nat.mul_succ] at hown2 ⊢; exact hown2, hb2⟩
      case measure => simp [intOf]; omega
    · have HK := Lib.hid (show k = n by omega)
      go_wp2
      go_ret
      have e := HK.out
      subst e
      refine ⟨w.heap.size, rfl, Nat.le_refl _, fun j hj => ?_, hb1⟩
      rw [hown.cellAt j (by omega)]
      simp [hj]
end Go.Proofs.YtgenpfhcbopokaaDoor
namespace Go.Proofs
open Go.Shelf
def Tryd.lays105_ren : Go.Shelf.Ren := ⟨fun | 105 => 47 | 212 => 52 | 99 => 53 | 165 => 54 | 166 => 55 | 170 => 56 | 169 => 57 | 263 => 59 | 264 => 60 | 206 => 61 | 240 => 62 | 241 => 63 | 276 => 64 | 277 => 65 | n => n, fun | 9 => 9 | 3 => 3 | 4 => 4 | 20 => 20 | 0 => 0 | 46 => 91 | 109 => 100 | 5 => 5 | 72 => 105 | 76 => 109 | 51 => 71 | 146 => 111 | 53 => 74 | 148 => 113 | 70 => 103 | 37 => 83 | 75 => 108 | 127 => 115 | 164 => 116 | 80 => 29 | n => n, fun | n => n⟩
theorem Tryd.lays105 : Go.Proofs.Lays.n105 Tryd.prog Tryd.lays105_ren := {
  mixed := by kernel_rfl
  f99 := Tryd.func53.trans (congrArg some (by kernel_rfl))
  f105 := Tryd.func47.trans (congrArg some (by kernel_rfl))
  f165 := Tryd.func54.trans (congrArg some (by kernel_rfl))
  f166 := Tryd.func55.trans (congrArg some (by kernel_rfl))
  f169 := Tryd.func57.trans (congrArg some (by kernel_rfl))
  f170 := Tryd.func56.trans (congrArg some (by kernel_rfl))
  f206 := Tryd.func61.trans (congrArg some (by kernel_rfl))
  f212 := Tryd.func52.trans (congrArg some (by kernel_rfl))
  f240 := Tryd.func62.trans (congrArg some (by kernel_rfl))
  f241 := Tryd.func63.trans (congrArg some (by kernel_rfl))
  f263 := Tryd.func59.trans (congrArg some (by kernel_rfl))
  f264 := Tryd.func60.trans (congrArg some (by kernel_rfl))
  f276 := Tryd.func64.trans (congrArg some (by kernel_rfl))
  f277 := Tryd.func65.trans (congrArg some (by kernel_rfl))
  t0 := Tryd.underlying0
  a0 := Tryd.isAgg0
  z0 := Tryd.sizeOf0
  v0 := Tryd.zeroValue0
  t3 := Tryd.underlying3
  a3 := Tryd.isAgg3
  z3 := Tryd.sizeOf3
  v3 := Tryd.zeroValue3
  t4 := Tryd.underlying4
  a4 := Tryd.isAgg4
  z4 := Tryd.sizeOf4
  v4 := Tryd.zeroValue4
  t5 := Tryd.underlying5
  a5 := Tryd.isAgg5
  z5 := Tryd.sizeOf5
  v5 := Tryd.zeroValue5
  t9 := Tryd.underlying9
  a9 := Tryd.isAgg9
  z9 := Tryd.sizeOf9
  v9 := Tryd.zeroValue9
  t20 := Tryd.underlying20
  a20 := Tryd.isAgg20
  z20 := Tryd.sizeOf20
  v20 := Tryd.zeroValue20
  t37 := Tryd.underlying83
  a37 := Tryd.isAgg83
  z37 := Tryd.sizeOf83
  v37 := Tryd.zeroValue83
  t46 := Tryd.underlying91
  a46 := Tryd.isAgg91
  z46 := Tryd.sizeOf91
  v46 := Tryd.zeroValue91
  t51 := Tryd.underlying71
  a51 := Tryd.isAgg71
  z51 := Tryd.sizeOf71
  v51 := Tryd.zeroValue71
  t53 := Tryd.underlying74
  a53 := Tryd.isAgg74
  z53 := Tryd.sizeOf74
  v53 := Tryd.zeroValue74
  t70 := Tryd.underlying103
  a70 := Tryd.isAgg103
  z70 := Tryd.sizeOf103
  v70 := Tryd.zeroValue103
  t72 := Tryd.underlying105
  a72 := Tryd.isAgg105
  z72 := Tryd.sizeOf105
  v72 := Tryd.zeroValue105
  t75 := Tryd.underlying108
  a75 := Tryd.isAgg108
  z75 := Tryd.sizeOf108
  v75 := Tryd.zeroValue108
  t76 := Tryd.underlying109
  a76 := Tryd.isAgg109
  z76 := Tryd.sizeOf109
  v76 := Tryd.zeroValue109
  t109 := Tryd.underlying100
  a109 := Tryd.isAgg100
  z109 := Tryd.sizeOf100
  v109 := Tryd.zeroValue100
  t127 := Tryd.underlying115
  a127 := Tryd.isAgg115
  z127 := Tryd.sizeOf115
  v127 := Tryd.zeroValue115
  t146 := Tryd.underlying111
  a146 := Tryd.isAgg111
  z146 := Tryd.sizeOf111
  v146 := Tryd.zeroValue111
  t148 := Tryd.underlying113
  a148 := Tryd.isAgg113
  z148 := Tryd.sizeOf113
  v148 := Tryd.zeroValue113
  t164 := Tryd.underlying116
  a164 := Tryd.isAgg116
  z164 := Tryd.sizeOf116
  v164 := Tryd.zeroValue116 }
theorem Tryd.Builder_Extra_105 : Builder.Extra Tryd.prog Tryd.lays105_ren := {
  sizeBuilder := by kernel_rfl
  liesBuilder := by kernel_rfl
  t5 := Tryd.underlying5
  a5 := Tryd.isAgg5
  z5 := Tryd.sizeOf5
  v5 := Tryd.zeroValue5
  infoByte := by kernel_rfl
  cellsByte := by kernel_rfl
  sizeByte := by kernel_rfl
  neB5 := by decide }
open Go.RowKit Go.Lib in
theorem Tryd.strings_Repeat (s : ByteArray) (c : Nat) (w : World) (hc : c ≤ 9223372036854775807) (hlen : s.size * c ≤ 140737488355328) :
    Calls Tryd.prog 47 #[.string s, .int .i64 c] w fun e w' => e = .returned (.string ⟨(Lib.repeatL s.data.toList c).toArray⟩) ∧ Below w.heap.size w w' := Any.strings_Repeat Tryd.lays105 Tryd.Builder_Extra_105 s c w hc hlen
end Go.Proofs
namespace Go.Proofs.YtgenpfhcbopokaaDoor
open Go.ChangeShapes Go.WideShapes Go.ChangeAt Go.RowKit Sh

theorem addr_add0 (g j : Nat) : (⟨g, 0, none⟩ : Addr).add j = ⟨g, j, none⟩ := by unfold Addr.add; split <;> simp_all
theorem foldl_push (ns : List UInt8) : ∀ r : ByteArray, ns.foldl (fun r b => r.push b) r = ⟨(r.data.toList ++ ns).toArray⟩ := by
  induction ns with
  | nil => intro r; simp
  | cons a ns ih =>
    intro r
    rw [List.foldl_cons, ih]
    simp [ByteArray.push]
theorem foldl_push_int (ns : List UInt8) (r : ByteArray) : (ns.map fun b => (b.toNat : Int)).foldl (fun r n => r.push (UInt8.ofNat n.toNat)) r = ns.foldl (fun r b => r.push b) r := by
  rw [List.foldl_map]
  congr 1
  funext r b
  rw [Int.toNat_natCast, UInt8.ofNat_toNat]
/-- A slice of bytes as a string. -/
theorem run_bytes_string (w : World) (a : Addr) (n cap : Nat) (f : Nat → UInt8) (h : ∀ j, j < n → w.cell? (a.add j) = some (.int .u8 ((f j).toNat : Int))) :
    (convert 83 9 (.slice (some a) n cap)).run Tryd.prog w = .ok (.string ⟨((List.range n).map f).toArray⟩) w := by
  rw [run_convert_bytes_string w _ _ 5 _ n cap Tryd.underlying83 Tryd.underlying5 Tryd.underlying9]
  have hl := run_loadCells_list (P := Tryd.prog) w a ((List.range n).map fun j => Value.int .u8 ((f j).toNat : Int)) (fun j v hv => by
    rw [List.getElem?_map] at hv
    by_cases hj : j < n
    · rw [List.getElem?_range hj] at hv
      simp only [Option.map_some, Option.some.injEq] at hv
      rw [← hv]; exact h j hj
    · rw [List.getElem?_eq_none (by simp; omega)] at hv; cases hv)
  have e : ((List.range n).map fun j => Value.int .u8 ((f j).toNat : Int)) = (((List.range n).map f).map fun b => (b.toNat : Int)).map (Value.int .u8) := by simp [List.map_map, Function.comp_def]
  rw [e] at hl
  have hlen : ((((List.range n).map f).map fun b => (b.toNat : Int)).map (Value.int .u8)).length = n := by simp
  rw [hlen] at hl
  rw [run_bytesToString w a n cap (((List.range n).map f).map fun b => (b.toNat : Int)) hl, foldl_push_int, foldl_push]
  simp

/-- The bytes of a count. -/
theorem be8_words (n : Nat) (hn : n < 18446744073709551616) : (List.range 8).map (wbyte fun i => if i = 0 then BitVec.ofNat 32 (n / 4294967296) else BitVec.ofNat 32 n) = be8 n := by
  unfold be8
  apply List.map_congr_left
  intro j hj
  have hj8 : j < 8 := List.mem_range.1 hj
  unfold wbyte
  apply UInt8.toNat_inj.1
  rw [UInt8.toNat_ofNat', UInt8.toNat_ofNat']
  match j, hj8 with
  | 0, _ => simp; omega
  | 1, _ => simp; omega
  | 2, _ => simp; omega
  | 3, _ => simp
  | 4, _ => simp; omega
  | 5, _ => simp; omega
  | 6, _ => simp; omega
  | 7, _ => simp

theorem byteAt_padded_old (l : List UInt8) (i : Nat) (h : i < l.length) : byteAt (padded l) i = l.getD i 0 := by
  unfold byteAt padded
  rw [List.getD_eq_getElem?_getD, List.getD_eq_getElem?_getD, List.append_assoc, List.append_assoc, List.getElem?_append_left h]
/-- What comes behind the text: the byte 80, nothings, the count. -/
theorem feeds_tail (l : List UInt8) : Feeds (byteAt (padded l)) l.length ([128] ++ List.replicate (zeros l.length) 0 ++ be8 (8 * l.length)) := by
  intro i hi
  have e : padded l = l ++ ([128] ++ List.replicate (zeros l.length) 0 ++ be8 (8 * l.length)) := by unfold padded; simp
  unfold byteAt
  rw [e]
  generalize [128] ++ List.replicate (zeros l.length) 0 ++ be8 (8 * l.length) = t
  rw [List.getD_eq_getElem?_getD, List.getD_eq_getElem?_getD, List.getElem?_append_right (by omega), Nat.add_sub_cancel_left]

theorem Run.below {w w' : World} {b : Nat} {L : Nat → UInt8} {m : Nat} (h : Run w b L m) {B : Nat} (hB : b < B) (k : Below B w w') : Run w' b L m := by
  obtain ⟨bt, hr, hbt⟩ := h
  exact ⟨bt, hr.of_block (k.block b hB), hbt⟩
theorem KOn.below {w w' : World} (h : KOn w) {B : Nat} (hB : 1 < B) (k : Below B w w') : KOn w' := fun i hi => (k.cell (p := ⟨1, i, none⟩) hB).trans (h i hi)
/-- Ahead of the last copy: the sum on its way is whole; two places for the result are laid. -/
structure Fin (w wr : World) (b p q : Nat) (s : St) (bt : Nat → UInt8) (n : Int) : Prop where
  only : Only w wr b
  row : wr.rowIs b 76 73 (runF s bt n)
  res : wr.rowIs p 33 32 (fun _ => .int .u8 0)
  dig : wr.rowIs q 33 32 (fun _ => .int .u8 0)
theorem Fin.drew {w wr : World} {b p q : Nat} {s : St} {bt : Nat → UInt8} {n : Int} (h : Fin w wr b p q s bt n) : Fin w wr.drew b p q s bt n := ⟨h.only.drew, h.row, h.res, h.dig⟩
theorem copy_digest {w w5 : World} {b p q g : Nat} {f : Nat → UInt8} (ho : Only w w5 b) (hp : w5.rowIs p 33 32 (fun _ => .int .u8 0)) (hq : w5.rowIs q 33 32 (fun _ => .int .u8 0)) (hpq : p ≠ q) (hlt : w.heap.size ≤ q)
    (hb : ∀ j, j < 32 → w5.cell? ⟨g, j, none⟩ = some (.int .u8 ((f j).toNat : Int))) :
    ∃ wy, (∀ ty, (Builtin.copy_ #[83, 83] ty #[.slice (some ⟨q, 0, none⟩) 32 32, .slice (some ⟨g, 0, none⟩) 32 32]).run Tryd.prog w5 = .ok (.int .i64 32) wy) ∧
      wy.rowIs q 33 32 (fun j => .int .u8 ((f j).toNat : Int)) ∧ wy.rowIs p 33 32 (fun _ => .int .u8 0) ∧ Only w wy b := by
  have hl : ((List.range 32).map fun j => Value.int .u8 ((f j).toNat : Int)).length = 32 := by simp
  refine ⟨_, fun ty => run_copy_bytes w5 _ _ ty 5 q 0 32 32 ⟨g, 0, none⟩ 32 32 ((List.range 32).map fun j => Value.int .u8 ((f j).toNat : Int)) _ 32 _ Tryd.underlying83 (by kernel_rfl) hq (by rw [hl]; rfl) (fun j v hv => ?_) (by rw [hl]; omega) (fun v hv => ?_), ?_, row_setRow_other hp hpq, ho.setRow (.inr hlt) _⟩
  · rw [addr_add0]
    rw [List.getElem?_map] at hv
    by_cases hj : j < 32
    · rw [List.getElem?_range hj] at hv
      simp only [Option.map_some, Option.some.injEq] at hv
      rw [← hv]; exact hb j hj
    · rw [List.getElem?_eq_none (by simp; omega)] at hv; cases hv
  · obtain ⟨x, _, rfl⟩ := List.mem_map.1 hv
    rfl
  · refine (row_setRow hq).congr fun j hj => ?_
    unfold spliced
    rw [hl, if_pos (by omega)]
    simp [List.getD_eq_getElem?_getD, hj]
def cnt2 (n : Nat) : Nat → BitVec 32 := fun i => if i = 0 then BitVec.ofNat 32 (8 * n / 4294967296) else BitVec.ofNat 32 (8 * n)
theorem cnt2_0 (n : Nat) (hn : n < 72057594037927936) : 8 * (n : Int) / 4294967296 = tn (cnt2 n 0) := by
  unfold tn cnt2; simp; omega
theorem cnt2_1 (n : Nat) : 8 * (n : Int) % 4294967296 = tn (cnt2 n 1) := by
  unfold tn cnt2; simp

set_option maxRecDepth 100000 in
set_option maxHeartbeats 1600000 in
theorem end_any (b : Nat) (l : List UInt8) (w : World) (hrun : Run w b (byteAt (padded l)) l.length) (hkon : KOn w) (hb : 1 ≠ b) (hl : l.length < 72057594037927936) :
    Calls Tryd.prog 33 #[.pointer (some ⟨b, 0, none⟩)] w fun e w' => e = .returned (.agg (vals 32 fun j => .int .u8 ((sumByte (sumSt l) j).toNat : Int))) ∧ Only w w' b := by
  obtain ⟨bt, hrow, hbt⟩ := hrun
  have cc : w.cell? ⟨b, 72, none⟩ = some (.int .u64 (l.length : Int)) := hrow.cell (i := 72) (by omega)
  have hlt := hrow.lt
  have HR := Lib.hid hrow
  have HBT := Lib.hid hbt
  have HKN := Lib.hid hkon
  clear hrow hbt hkon
  obtain ⟨n, hn⟩ : ∃ n, n = l.length := ⟨_, rfl⟩
  rw [← hn] at cc hl
  have HN := Lib.hid hn
  clear hn
  obtain ⟨z, hz⟩ : ∃ z, z = zeros n := ⟨_, rfl⟩
  have hz2 : ((119 - (n : Int) % 64) % 64) = (z : Int) := by rw [hz]; unfold zeros; omega
  have hz3 : z < 64 := by rw [hz]; unfold zeros; omega
  have HZ := Lib.hid hz
  clear hz
  go_enter Tryd.func33, Tryd.ntmps33
  go_wp2_with (fail)
  refine (Tryd.strings_Repeat ⟨#[0]⟩ z _ (by omega) (by show 1 * z ≤ _; omega)).mono ?_
  rintro e w1 ⟨rfl, hb1⟩
  have hs1 : w.heap.size + 1 ≤ w1.heap.size := by have := hb1.size; simpa using this
  have B1 : Below w.heap.size w w1 := ((Below.refl _ _).alloc (Nat.le_refl _) _).trans (hb1.mono (by simp))
  have hD1 : w1.rowIs w.heap.size 33 32 (fun _ => .int .u8 0) := by
    have h := hb1.block w.heap.size (by simp)
    rw [heap_alloc_new] at h
    exact row_of_block (h.trans (by kernel_rfl))
  have HD1 := Lib.hid hD1
  clear hD1 hb1 cc
  go_wp2_with (fail)
  have hcell : ∀ k, k < 2 → (w1.alloc (.cells #[.int .u32 (8 * (n : Int) / 4294967296), .int .u32 (8 * (n : Int) % 4294967296)] 71)).cell? ⟨w1.heap.size, 0 + k, none⟩ = some (.int .u32 (tn (cnt2 n k))) := by
    intro k hk
    match k, hk with
    | 0, _ => rw [cell_of_row _ _ _ _ _ _ (heap_alloc_new w1 _), ← cnt2_0 n hl]; rfl
    | 1, _ => rw [cell_of_row _ _ _ _ _ _ (heap_alloc_new w1 _), ← cnt2_1 n]; rfl
  refine (bytesOf_any (cnt2 n) _ _ 2 _ hcell (by omega) (by omega) 2).mono ?_
  clear hcell
  rintro e w2 ⟨g, rfl, hg, hbytes, hb2⟩
  have hs2 : w1.heap.size + 1 ≤ w2.heap.size := by have := hb2.size; simpa using this
  have B2 : Below w.heap.size w w2 := (B1.alloc (by omega) _).trans (hb2.mono (by simp; omega))
  have hD2 : w2.rowIs w.heap.size 33 32 (fun _ => .int .u8 0) := (HD1.out.alloc _).of_block (hb2.block _ (by simp; omega))
  have hconv := run_bytes_string w2 ⟨g, 0, none⟩ 8 8 (wbyte (cnt2 n)) (fun j hj => by rw [addr_add0]; exact hbytes j hj)
  have hbe : (List.range 8).map (wbyte (cnt2 n)) = be8 (8 * n) := be8_words (8 * n) (by omega)
  rw [hbe] at hconv
  have HD2 := Lib.hid hD2
  clear hD2 hbytes hb2 HD1 hbe B1
  go_wp2_with (fail)
  have hfl : flat [⟨#[128]⟩, ⟨(Lib.repeatL [0] z).toArray⟩, ⟨(be8 (8 * n)).toArray⟩] = [128] ++ List.replicate (zeros l.length) 0 ++ be8 (8 * l.length) := by
    have e1 := Lib.repeatL_replicate 0 1 z
    rw [Nat.mul_one] at e1
    have e2 : Lib.repeatL [0] z = List.replicate z 0 := e1
    rw [e2, ← HN.out, ← HZ.out]
    simp [flat]
  have hflen : (flat [⟨#[128]⟩, ⟨(Lib.repeatL [0] z).toArray⟩, ⟨(be8 (8 * n)).toArray⟩]).length = 9 + z := by
    rw [hfl, ← HN.out, ← HZ.out]; simp [be8_length]; omega
  have hrun : Run w b (byteAt (padded l)) n := ⟨bt, by rw [HN.out]; exact HR.out, by rw [HN.out]; exact HBT.out⟩
  have B3 := B2.alloc (by omega) (.cells #[.string ⟨#[128]⟩, .string ⟨(Lib.repeatL [0] z).toArray⟩, .string ⟨(be8 (8 * n)).toArray⟩] 9)
  refine (add_any b (byteAt (padded l)) n [⟨#[128]⟩, ⟨(Lib.repeatL [0] z).toArray⟩, ⟨(be8 (8 * n)).toArray⟩] _ _ 3 3 rfl (by omega) (fun _ => ⟨w2.heap.size, 0, rfl, by omega, ?_⟩) (hrun.below hlt B3) (HKN.out.below HKN.out.lt B3) hb (by rw [hflen]; omega) (by rw [hfl, HN.out]; exact feeds_tail l)).mono ?_
  · intro k hk
    match k, hk with
    | 0, _ => rw [cell_of_row _ _ _ _ _ _ (heap_alloc_new w2 _)]; rfl
    | 1, _ => rw [cell_of_row _ _ _ _ _ _ (heap_alloc_new w2 _)]; rfl
    | 2, _ => rw [cell_of_row _ _ _ _ _ _ (heap_alloc_new w2 _)]; rfl
  rintro e w3 ⟨rfl, hrun3, ho3⟩
  have hD3 : w3.rowIs w.heap.size 33 32 (fun _ => .int .u8 0) := ho3.row (HD2.out.alloc _) (by omega)
  have hs3 : w2.heap.size + 1 ≤ w3.heap.size := by have := ho3.size; simpa using this
  have o3 : Only w w3 b := ((Only.of_below B2 b).alloc _).trans ho3
  have hk3 : KOn w3 := HKN.out.only o3 hb
  have hm : n + (flat [⟨#[128]⟩, ⟨(Lib.repeatL [0] z).toArray⟩, ⟨(be8 (8 * n)).toArray⟩]).length = (padded l).length := by
    rw [hflen, padded_length, ← HN.out, HZ.out]; omega
  rw [hm] at hrun3
  obtain ⟨bt3, hrow3, _⟩ := hrun3
  have hsum : blocks (byteAt (padded l)) ((padded l).length / 64) = sumSt l := rfl
  rw [hsum] at hrow3
  have HD3 := Lib.hid hD3
  have HR3 := Lib.hid hrow3
  have HO3 := Lib.hid o3
  clear hD3 hrow3 o3 hk3 hm hsum ho3 B3 hrun hflen hfl HD2 hconv hg B2
  go_wp2
  refine gen_world (fun wr => Fin w wr b w.heap.size w3.heap.size (sumSt l) bt3 ((padded l).length : Int)) ⟨HO3.out.alloc _, HR3.out.alloc _, HD3.out.alloc _, row_alloc _ rfl (by kernel_rfl)⟩ ?_
  intro wr hF
  have hne : w.heap.size ≠ w3.heap.size := by omega
  have hq : w.heap.size ≤ w3.heap.size := by omega
  clear HO3 HR3 HD3 HR HBT HKN
  generalize w3.heap.size = q at hF hne hq ⊢
  have hcell : ∀ k, k < 8 → wr.drew.cell? ⟨b, 0 + k, none⟩ = some (.int .u32 (tn ((sumSt l).at k))) := fun k hk => by
    have := hF.drew.row.cell (i := k) (by omega)
    unfold runF at this
    rw [if_pos hk] at this
    rw [Nat.zero_add]; exact this
  have HB := Lib.hid (bytesOf_any (sumSt l).at b 0 8 wr.drew hcell (by omega) (by omega) 8)
  have HF := Lib.hid hF.drew
  clear hcell hF
  go_region_with ((go_at_call 48; refine HB.out.mono ?_; rintro e w5 ⟨g5, rfl, hg5, hby5, hb5⟩; obtain ⟨wy, hcopy, hyq, hyp, hyo⟩ := copy_digest (HF.out.only.then_below hb5) (HF.out.res.of_block (hb5.block _ HF.out.res.lt)) (HF.out.dig.of_block (hb5.block _ HF.out.dig.lt)) hne hq hby5))
  have hI : ∀ f, (Tryd.prog.info? 33).map (·.size) = some (vals 32 f).size := fun f => info_vals f (by kernel_rfl)
  have HI := Lib.hid hI
  have HO := Lib.hid (show (vals 32 fun j => Value.int .u8 ((wbyte (sumSt l).at j).toNat : Int)).all (·.oneCell') = true from vals_one fun _ => rfl)
  have H1 := Lib.hid (row_block hyq)
  have H2 := Lib.hid (row_block hyp)
  have HZ2 := Lib.hid (show (vals 32 fun _ => Value.int .u8 0).size = (vals 32 fun j => Value.int .u8 ((wbyte (sumSt l).at j).toNat : Int)).size by rw [vals_size, vals_size])
  have H3 := Lib.hid (row_block (row_setRow (g := fun j => Value.int .u8 ((wbyte (sumSt l).at j).toNat : Int)) hyp))
  have hfin := hyo.setRow (g := w.heap.size) (.inr (Nat.le_refl _)) (vals 32 fun j => Value.int .u8 ((wbyte (sumSt l).at j).toNat : Int))
  clear hI hyq hyp hyo hb5 hg5 hby5 hcopy HB HF
  go_wp2_with (first
    | (with_reducible refine wpList_load_row rfl 33 _ rfl _ rfl 33 _ _ _ H1.out Tryd.underlying33 rfl (HI.out _) ?_)
    | (with_reducible refine wpList_store_row rfl 33 _ _ rfl _ _ rfl rfl 33 _ H2.out (HI.out _) HZ2.out HO.out ?_))
  refine bodyPost_ret (results_cell_row rfl _ _ _ 33 _ _ _ rfl H3.out Tryd.underlying33 rfl (HI.out _)) rfl ?_
  exact ⟨rfl, hfin⟩
end Go.Proofs.YtgenpfhcbopokaaDoor
namespace Go.Proofs.YtgenpfhcbopokaaDoor
open Go.ChangeShapes Go.WideShapes Go.ChangeAt Go.RowKit Sh

/-- A sum as the program hands it on. -/
def digV (l : List UInt8) : Array Value := vals 32 fun j => .int .u8 ((sumByte (sumSt l) j).toNat : Int)
/-- An empty sum on its way, all of it nothing. -/
def zeroF : Nat → Value := fun j => if j < 8 then .int .u32 0 else if j < 72 then .int .u8 0 else .int .u64 0
/-- The first words lie in the first variable. -/
def FOn (w : World) : Prop := ∃ t fr, w.heap[0]? = some (.cells (vals 8 fun i => .int .u32 (tn (iv.at i))) t fr)
theorem FOn.lt {w : World} (h : FOn w) : 0 < w.heap.size := by obtain ⟨t, fr, h⟩ := h; exact (Array.getElem?_eq_some_iff.1 h).1
theorem FOn.below {w w' : World} (h : FOn w) (k : Below w.heap.size w w') : FOn w' := by
  have hl := h.lt
  obtain ⟨t, fr, h'⟩ := h
  exact ⟨t, fr, (k.block _ hl).trans h'⟩

set_option maxRecDepth 100000 in
set_option maxHeartbeats 1600000 in
theorem of_any (ss : List ByteArray) (w : World) (A : Option Addr) (n cap : Nat) (hn : n = ss.length) (hnb : n ≤ 1152921504606846976)
    (hA : 0 < n → ∃ pb po, A = some ⟨pb, po, none⟩ ∧ ∀ k, k < n → w.cell? ⟨pb, po + k, none⟩ = some (.string (ss.getD k ByteArray.empty)))
    (hF : FOn w) (hK : KOn w) (hM : (flat ss).length < 72057594037927936) :
    Calls Tryd.prog 19 #[.slice A n cap] w fun e w' => e = .returned (.agg (digV (flat ss))) ∧ Below w.heap.size w w' := by
  have hlt := hF.lt
  obtain ⟨tf, fr, hF0⟩ := hF
  have HF := Lib.hid hF0
  have HKN := Lib.hid hK
  have HN := Lib.hid hn
  have HA := Lib.hid hA
  clear hF0 hK hn hA
  go_enter Tryd.func19, Tryd.ntmps19
  have HB := Lib.hid (show Tryd.prog.built 76 [(0, .agg (vals 8 fun i => .int .u32 (tn (iv.at i))))] = some (vals 73 (runF iv (fun _ => 0) 0)) by kernel_rfl)
  have H1 := Lib.hid (show ∀ o1 old, ((w.alloc o1).alloc (.cells old 76)).heap[w.heap.size + 1]? = some (.cells old 76 (0, 0)) from fun o1 old => heap_alloc2_new w _ _)
  have HI := Lib.hid (show ∀ f, (Tryd.prog.info? 76).map (·.size) = some (vals 73 f).size from fun f => info_vals f (by kernel_rfl))
  have hone : ∀ i, (runF iv (fun _ => 0) 0 i).oneCell' = true := fun i => by
    unfold runF; split
    · rfl
    · split <;> rfl
  have HO := Lib.hid (show (vals 73 (runF iv (fun _ => 0) 0)).all (·.oneCell') = true from vals_one hone)
  clear hone
  have hzv : ∀ w, (zeroValue 76).run Tryd.prog w = .ok (.agg (vals 73 zeroF)) w := fun _ => by kernel_rfl
  have HI8 := Lib.hid (show (Tryd.prog.info? 72).map (·.size) = some (vals 8 fun i => Value.int .u32 (tn (iv.at i))).size from info_vals _ (by kernel_rfl))
  go_wp2_with (first
    | (refine wpList_load_row rfl 72 (.global 0) rfl 0 rfl tf _ fr _ ((heap_alloc_old _ _ hlt).trans HF.out) Tryd.underlying72 rfl HI8.out ?_)
    | (refine wpList_build_to rfl 76 #[(0, .tmp 4)] rfl [(0, .agg (vals 8 fun i => .int .u32 (tn (iv.at i))))] rfl _ HB.out ?_)
    | (with_reducible refine wpList_store_row rfl 76 _ _ rfl _ _ rfl rfl 76 _ (H1.out _ _) (HI.out _) ?_ HO.out ?_))
  · rw [vals_size, vals_size]
  have hB2 : ∀ o, Below w.heap.size w (((w.alloc o).alloc (.cells (vals 73 zeroF) 76)).setRow (w.heap.size + 1) (vals 73 (runF iv (fun _ => 0) 0))) := fun o =>
    below_setRow' (((Below.refl _ _).alloc (Nat.le_refl _) _).alloc (by simp) _) (by omega) _
  have hrun0 : ∀ o, Run (((w.alloc o).alloc (.cells (vals 73 zeroF) 76)).setRow (w.heap.size + 1) (vals 73 (runF iv (fun _ => 0) 0))) (w.heap.size + 1) (byteAt (padded (flat ss))) 0 := fun o =>
    ⟨fun _ => 0, row_setRow (row_of_block (heap_alloc2_new w _ _)), fun j hj => by omega⟩
  have hfeed : Feeds (byteAt (padded (flat ss))) 0 (flat ss) := fun i hi => by rw [Nat.zero_add, byteAt_padded_old _ _ hi]
  refine (add_any (w.heap.size + 1) (byteAt (padded (flat ss))) 0 ss _ A n cap HN.out hnb ?_ (hrun0 _) (HKN.out.below HKN.out.lt (hB2 _)) (by have := HKN.out.lt; omega) (by omega) hfeed).mono ?_
  · intro h0
    obtain ⟨pb, po, e, hc⟩ := HA.out h0
    have hl := block_lt_of_cell (hc 0 h0)
    exact ⟨pb, po, e, by have : pb < w.heap.size := hl; omega, fun k hk => ((hB2 _).cell (p := ⟨pb, po + k, none⟩) hl).trans (hc k hk)⟩
  rintro e w3 ⟨rfl, hrun3, ho3⟩
  rw [Nat.zero_add] at hrun3
  have hres3 : w3.rowIs w.heap.size 33 32 (fun _ => .int .u8 0) := ho3.row (row_setRow_other ((row_alloc _ rfl (by kernel_rfl)).alloc _) (by omega)) (by omega)
  have hB3 : Below w.heap.size w w3 := (hB2 _).trans (ho3.below (by omega) (by simp; omega))
  have HR3 := Lib.hid hres3
  have HB3 := Lib.hid hB3
  have HRun := Lib.hid hrun3
  have hs3 := hrun3.choose_spec.1.lt
  clear hres3 hB3 hrun3 ho3 hrun0 hB2 hfeed HI8 HB H1 HO HI
  go_wp2_with (fail)
  refine (end_any (w.heap.size + 1) (flat ss) w3 HRun.out (HKN.out.below HKN.out.lt HB3.out) (by have := HKN.out.lt; omega) hM).mono ?_
  rintro e w4 ⟨rfl, ho4⟩
  have hres4 : w4.rowIs w.heap.size 33 32 (fun _ => .int .u8 0) := ho4.row HR3.out (by omega)
  have hB4 := below_setRow' (HB3.out.trans (ho4.below (B := w.heap.size) (by omega) (by omega))) (Nat.le_refl _) (digV (flat ss))
  have HI := Lib.hid (show ∀ f, (Tryd.prog.info? 33).map (·.size) = some (vals 32 f).size from fun f => info_vals f (by kernel_rfl))
  have HO := Lib.hid (show (vals 32 fun j => Value.int .u8 ((sumByte (sumSt (flat ss)) j).toNat : Int)).all (·.oneCell') = true from vals_one fun _ => rfl)
  have HZ := Lib.hid (show (vals 32 fun _ => Value.int .u8 0).size = (vals 32 fun j => Value.int .u8 ((sumByte (sumSt (flat ss)) j).toNat : Int)).size by rw [vals_size, vals_size])
  have H2 := Lib.hid (row_block hres4)
  have H3 := Lib.hid (row_block (row_setRow (g := fun j => Value.int .u8 ((sumByte (sumSt (flat ss)) j).toNat : Int)) hres4))
  clear hres4 ho4
  go_wp2_with (with_reducible refine wpList_store_row rfl 33 _ _ rfl _ _ rfl rfl 33 _ H2.out (HI.out _) HZ.out HO.out ?_)
  refine bodyPost_ret (results_cell_row rfl _ _ _ 33 _ _ _ rfl H3.out Tryd.underlying33 rfl (HI.out _)) rfl ?_
  exact ⟨rfl, hB4⟩
end Go.Proofs.YtgenpfhcbopokaaDoor
namespace Go.Proofs.YtgenpfhcbopokaaDoor
open Go.ChangeShapes Go.WideShapes Go.ChangeAt Go.RowKit Sh

/-- 32 bytes as the program hands them on. -/
def digF (f : Nat → UInt8) : Array Value := vals 32 fun j => .int .u8 ((f j).toNat : Int)
def hexL : List UInt8 := [48, 49, 50, 51, 52, 53, 54, 55, 56, 57, 97, 98, 99, 100, 101, 102]
def hexd (n : Nat) : UInt8 := hexL.getD n 0
def textOf (f : Nat → UInt8) (n : Nat) : List UInt8 := (List.range n).flatMap fun i => [hexd ((f i).toNat / 16), hexd ((f i).toNat % 16)]
theorem textOf_next (f : Nat → UInt8) (n : Nat) : textOf f (n + 1) = textOf f n ++ [hexd ((f n).toNat / 16), hexd ((f n).toNat % 16)] := by
  unfold textOf; rw [List.range_succ, List.flatMap_append]; simp
theorem textOf_length (f : Nat → UInt8) (n : Nat) : (textOf f n).length = 2 * n := by
  induction n with
  | zero => rfl
  | succ n ih => rw [textOf_next, List.length_append, ih]; simp; omega
theorem textOf_at (f : Nat → UInt8) (n k : Nat) (h : k < n) : (textOf f n).getD (2 * k) 0 = hexd ((f k).toNat / 16) ∧ (textOf f n).getD (2 * k + 1) 0 = hexd ((f k).toNat % 16) := by
  induction n with
  | zero => omega
  | succ n ih =>
    rw [textOf_next]
    simp only [List.getD_eq_getElem?_getD]
    by_cases e : k = n
    · subst e
      rw [List.getElem?_append_right (by rw [textOf_length]; omega), List.getElem?_append_right (by rw [textOf_length]; omega), textOf_length]
      simp
    · have h2 := ih (by omega)
      simp only [List.getD_eq_getElem?_getD] at h2
      rw [List.getElem?_append_left (by rw [textOf_length]; omega), List.getElem?_append_left (by rw [textOf_length]; omega)]
      exact h2
theorem row_of_owns {w : World} {base g cap : Nat} {e : TypeId} (h : w.ownsRow base e 1 (.slice (some ⟨g, 0, none⟩) 0 cap) 0 []) : ∃ F, w.rowIs g e cap F := by
  rcases h.2 with ⟨h', _⟩ | ⟨g', cap', cur, h', _, hg, _, _, hsz, _⟩
  · cases h'
  · injection h' with h1 h2 h3
    injection h1 with h1
    injection h1 with h1
    subst h1 h3
    exact ⟨fun i => cur.getD i undef, cur, hg, by omega, fun i hi => by simp [Array.getD, show i < cur.size by omega]⟩
theorem hex_at (n : Nat) (h : n < 16) : (⟨#[48, 49, 50, 51, 52, 53, 54, 55, 56, 57, 97, 98, 99, 100, 101, 102]⟩ : ByteArray)[n]? = some (hexd n) := by
  have key : ∀ k : _root_.Fin 16, (⟨#[48, 49, 50, 51, 52, 53, 54, 55, 56, 57, 97, 98, 99, 100, 101, 102]⟩ : ByteArray)[k.val]? = some (hexd k.val) := by decide
  exact key ⟨n, h⟩
theorem index_hex (n : Nat) (h : n < 16) (w : World) : (Instr.index 9 (.string ⟨#[48, 49, 50, 51, 52, 53, 54, 55, 56, 57, 97, 98, 99, 100, 101, 102]⟩) (.int .u8 (n : Int))).run Tryd.prog w = .ok (.int .u8 ((hexd n).toNat : Int)) w := by
  have hu := Tryd.underlying9
  have hb := hex_at n h
  simp [Instr.index, run_underlying hu, go_sem]
  rw [hb]
  rfl
theorem index_dig (f : Nat → UInt8) (k : Nat) (h : k < 32) (w : World) : (Instr.index 33 (.agg (digF f)) (.int .i64 (k : Int))).run Tryd.prog w = .ok (.int .u8 ((f k).toNat : Int)) w := by
  have hu := Tryd.underlying33
  have hk : (k : Int) < 32 := by omega
  have hg : (digF f)[k]? = some (.int .u8 ((f k).toNat : Int)) := vals_get _ _ k h
  simp [Instr.index, run_underlying hu, go_sem]
  rw [if_pos h, hg]
  rfl
set_option maxRecDepth 100000 in
theorem low4 (b : UInt8) : bits .and .u8 (b.toNat : Int) 15 = ((b.toNat % 16 : Nat) : Int) := by
  have key : ∀ k : _root_.Fin 256, bits .and .u8 (k.val : Int) 15 = ((k.val % 16 : Nat) : Int) := by decide
  exact key ⟨b.toNat, b.toNat_lt⟩
end Go.Proofs.YtgenpfhcbopokaaDoor
namespace Go.Proofs.YtgenpfhcbopokaaDoor
open Go.ChangeShapes Go.WideShapes Go.ChangeAt Go.RowKit Sh

theorem run_part5 (f : Nat → UInt8) (i : Nat) (h : i < 32) (w : World) : (part 5 (digF f) (i * 1)).run Tryd.prog w = .ok (.int .u8 ((f i).toNat : Int)) w := by
  have hg : (digF f)[i]? = some (.int .u8 ((f i).toNat : Int)) := vals_get _ _ i h
  simp [part, go_sem, hg]
theorem byte_beq (a b : UInt8) : ((a.toNat : Int) == (b.toNat : Int)) = (a == b) := by
  rw [Bool.eq_iff_iff, beq_iff_eq, beq_iff_eq]
  constructor
  · intro h; exact UInt8.toNat_inj.1 (by omega)
  · intro h; rw [h]
theorem run_items (f g : Nat → UInt8) (w : World) : ∀ is : List Nat, (∀ i ∈ is, i < 32) → (Op.eqItems 9999 5 1 (digF f) (digF g) is).run Tryd.prog w = .ok (is.all fun i => f i == g i) w := by
  intro is
  induction is with
  | nil => intro _; rfl
  | cons i is ih =>
    intro h
    have hi := h i (by simp)
    have h2 := ih fun j hj => h j (by simp [hj])
    have h3 := run_equalIn_int (P := Tryd.prog) (w := w) 9998 5 .u8 .u8 ((f i).toNat : Int) ((g i).toNat : Int) Tryd.underlying5
    rw [byte_beq] at h3
    simp only [Op.eqItems, Sem.run_bind, run_part5 f i hi, run_part5 g i hi, Result.andThen_ok, h3]
    cases hb : (f i == g i)
    · simp [hb]
    · simp [hb, h2]
/-- Whether 32 bytes are the same. -/
def same (f g : Nat → UInt8) : Bool := (List.range 32).all fun i => f i == g i
theorem same_refl (f : Nat → UInt8) : same f f = true := by unfold same; simp
theorem same_iff (f g : Nat → UInt8) : same f g = true ↔ ∀ i, i < 32 → f i = g i := by unfold same; simp
theorem same_dig {f g : Nat → UInt8} (h : same f g = true) : digF f = digF g := vals_congr fun i hi => by rw [(same_iff f g).1 h i hi]
theorem run_eql_dig (f g : Nat → UInt8) (w : World) : (binOp .eql 33 (.agg (digF f)) (.agg (digF g))).run Tryd.prog w = .ok (.bool (same f g)) w := by
  obtain ⟨i0, hi, _⟩ := info_parts info5
  rw [run_eql_struct, run_equalIn_array (P := Tryd.prog) (w := w) 9999 (digF f) (digF g) Tryd.underlying33 hi]
  have hc : Tryd.prog.cellsOf 5 = 1 := by kernel_rfl
  rw [hc, run_items f g w (List.range 32) (fun i hi => List.mem_range.1 hi)]
  rfl
theorem run_neq_dig (f g : Nat → UInt8) (w : World) : (binOp .neq 33 (.agg (digF f)) (.agg (digF g))).run Tryd.prog w = .ok (.bool (!same f g)) w := by
  obtain ⟨i0, hi, _⟩ := info_parts info5
  rw [run_neq_struct, run_equalIn_array (P := Tryd.prog) (w := w) 9999 (digF f) (digF g) Tryd.underlying33 hi]
  have hc : Tryd.prog.cellsOf 5 = 1 := by kernel_rfl
  rw [hc, run_items f g w (List.range 32) (fun i hi => List.mem_range.1 hi)]
  rfl
theorem digV_dig (l : List UInt8) : digV l = digF (sumByte (sumSt l)) := rfl
/-- The sum's bytes. -/
def sumF (l : List UInt8) : Nat → UInt8 := sumByte (sumSt l)
end Go.Proofs.YtgenpfhcbopokaaDoor
namespace Go.Proofs.YtgenpfhcbopokaaDoor
open Go.ChangeShapes Go.WideShapes Go.ChangeAt Go.RowKit Sh

theorem of_here (ss : List ByteArray) (l : List UInt8) (hl : flat ss = l) (w : World) (A : Option Addr) (n cap : Nat) (hn : n = ss.length) (hnb : n ≤ 1152921504606846976)
    (hA : 0 < n → ∃ pb po, A = some ⟨pb, po, none⟩ ∧ ∀ k, k < n → w.cell? ⟨pb, po + k, none⟩ = some (.string (ss.getD k ByteArray.empty)))
    (hF : FOn w) (hK : KOn w) (hM : l.length < 72057594037927936) :
    Calls Tryd.prog 19 #[.slice A n cap] w fun e w' => e = .returned (.agg (digF (sumF l))) ∧ Below w.heap.size w w' := by
  subst hl
  exact of_any ss w A n cap hn hnb hA hF hK hM
theorem hiDig : ∀ f, (Tryd.prog.info? 33).map (·.size) = some (vals 32 f).size := fun f => info_vals f (by kernel_rfl)
theorem hoDig (f : Nat → UInt8) : (digF f).all (·.oneCell') = true := vals_one fun _ => rfl
theorem hzDig (f : Nat → UInt8) : (vals 32 fun _ => Value.int .u8 0).size = (digF f).size := by unfold digF; rw [vals_size, vals_size]
theorem hiDigF (f : Nat → UInt8) : (Tryd.prog.info? 33).map (·.size) = some (digF f).size := hiDig _
end Go.Proofs.YtgenpfhcbopokaaDoor
namespace Go.Proofs.YtgenpfhcbopokaaDoor
open Go.ChangeShapes Go.WideShapes Go.ChangeAt Go.RowKit Sh

/-- Both tables lie where the program looks. -/
structure Tabs (w : World) : Prop where
  f : FOn w
  k : KOn w
theorem Tabs.below {w w' : World} (h : Tabs w) (b : Below w.heap.size w w') : Tabs w' := ⟨h.f.below b, h.k.below h.k.lt b⟩
end Go.Proofs.YtgenpfhcbopokaaDoor
namespace Go.Proofs.YtgenpfhcbopokaaDoor
open Go.ChangeShapes Go.WideShapes Go.ChangeAt Go.RowKit Sh

def shaLaid : List (String × DataW Unit) := [("coadjutor/sha.firstWords", Rows.laid_coadjutor_sha_firstWords), ("coadjutor/sha.constants", Rows.laid_coadjutor_sha_constants)]
theorem gFirst : Tryd.prog.globalNamed "coadjutor/sha.firstWords" = some 0 := by kernel_rfl
theorem gConst : Tryd.prog.globalNamed "coadjutor/sha.constants" = some 1 := by kernel_rfl
theorem tFirst : (Tryd.prog.globals[0]?).map (·.type) = some 72 := by kernel_rfl
theorem tConst : (Tryd.prog.globals[1]?).map (·.type) = some 96 := by kernel_rfl

theorem sha_met (os : Os) (args : Array Value) : laidMetH Tryd.prog shaLaid ((World.doorLaid Tryd.prog 19 os).forCall (fun _ _ => 0) ⟨#[], args, []⟩).memory :=
  laidMetH_of_parts3 (fuel := 8) (laidMet_of_run' 8 (by kernel_rfl) (by kernel_rfl)) (by kernel_rfl) (by kernel_rfl)

theorem tabs_of {W : World} (h : laidMetH Tryd.prog shaLaid W) : Tabs W := by
  rw [MakeChecks.laidMetH_plain _ _ _ (by kernel_rfl)] at h
  obtain ⟨ps, ⟨g0, t0, cs0, f0, p0, q0, hg0, ht0, hv0, hd0, ⟨g1, t1, cs1, f1, p1, q1, hg1, ht1, hv1, hd1, _, _⟩, _⟩, _, _⟩ := h
  obtain rfl := Option.some.inj (gFirst.symm.trans hg0)
  obtain rfl := Option.some.inj (gConst.symm.trans hg1)
  obtain rfl := Option.some.inj (tFirst.symm.trans ht0)
  obtain rfl := Option.some.inj (tConst.symm.trans ht1)
  have e0 : cs0.toList = ((List.range 8).map fun i => tn (iv.at i)).map fun z => Value.int .u32 z :=
    Lib.cells_of_tab (zs := (List.range 8).map fun i => tn (iv.at i)) Tryd.underlying72 Tryd.underlying71 (by kernel_rfl) (by kernel_rfl) (hd0.trans (congrArg (fun d => some (d, p0)) (by kernel_rfl)))
  have e1 : cs1.toList = ((List.range 64).map fun i => tn (kAt i)).map fun z => Value.int .u32 z :=
    Lib.cells_of_tab (zs := (List.range 64).map fun i => tn (kAt i)) Tryd.underlying96 Tryd.underlying71 (by kernel_rfl) (by kernel_rfl) (hd1.trans (congrArg (fun d => some (d, p1)) (by kernel_rfl)))
  refine ⟨?_, fun i hi => ?_⟩
  · have h := hv0
    simp only [World.var?, hg0, Option.bind_some] at h
    split at h
    · rename_i cs t fr hb
      injection h with h
      subst h
      refine ⟨t, fr, ?_⟩
      rw [hb]
      have : cs = vals 8 fun i => .int .u32 (tn (iv.at i)) := by
        apply Array.ext'
        rw [e0]
        simp [vals, List.map_map, Function.comp_def]
      rw [this]
    · cases h
  · rw [World.var?_cell hg1 hv1 i, ← Array.getElem?_toList, e1]
    simp [hi]
end Go.Proofs.YtgenpfhcbopokaaDoor
