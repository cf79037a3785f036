/-
  Words of 32 and 64 bits as whole numbers: what sums, shifts and the bitwise operations come to. No program here. No conditions.
-/
import Derived.Laws.Entries
import Derived.RowKit
namespace Go.Proofs.YthmpmpofhpkmjaaDoor
namespace Sh
open Go Go.RowKit

def tn (x : BitVec 32) : Int := (x.toNat : Int)
def t6 (x : BitVec 64) : Int := (x.toNat : Int)
def zx (x : BitVec 32) : BitVec 64 := x.setWidth 64
def lo (x : BitVec 64) : BitVec 32 := x.setWidth 32
def rotr (n : Int) (x : BitVec 32) : BitVec 32 := x >>> n.toNat ||| x <<< (32 - n.toNat)
def shr (n : Nat) (x : BitVec 32) : BitVec 32 := x >>> n
def b32 (b : UInt8) : BitVec 32 := b.toBitVec.setWidth 32
def be (a b c d : UInt8) : BitVec 32 := ((b32 a <<< 24 ||| b32 b <<< 16) ||| b32 c <<< 8) ||| b32 d

theorem tn_lo (x : BitVec 32) : 0 ≤ tn x := by unfold tn; omega
theorem tn_hi (x : BitVec 32) : tn x ≤ 4294967295 := by unfold tn; have := x.isLt; omega
theorem t6_lo (x : BitVec 64) : 0 ≤ t6 x := by unfold t6; omega
theorem t6_hi (x : BitVec 64) : t6 x ≤ 18446744073709551615 := by unfold t6; have := x.isLt; omega
theorem tn_zx (x : BitVec 32) : t6 (zx x) = tn x := by unfold t6 zx tn; simp; omega
theorem zx_hi (x : BitVec 32) : t6 (zx x) ≤ 4294967295 := by rw [tn_zx]; exact tn_hi x
theorem tn_inj {x y : BitVec 32} (h : tn x = tn y) : x = y := BitVec.eq_of_toNat_eq (by unfold tn at h; omega)

theorem ofInt_tn (x : BitVec 32) : BitVec.ofInt 32 (tn x) = x := by unfold tn; rw [BitVec.ofInt_natCast, BitVec.ofNat_toNat, BitVec.setWidth_eq]
theorem ofInt_t6 (x : BitVec 64) : BitVec.ofInt 64 (t6 x) = x := by unfold t6; rw [BitVec.ofInt_natCast, BitVec.ofNat_toNat, BitVec.setWidth_eq]
theorem wrap_u32' (n : Int) : IntKind.u32.wrap n = n % 4294967296 := by simp [IntKind.wrap, IntKind.bits, IntKind.signed]
theorem wrap_u64' (n : Int) : IntKind.u64.wrap n = n % 18446744073709551616 := by simp [IntKind.wrap, IntKind.bits, IntKind.signed]
theorem wrap_tn (x : BitVec 32) : IntKind.u32.wrap (x.toNat : Int) = tn x := by
  rw [wrap_u32']; unfold tn; have := x.isLt; omega
theorem wrap_t6 (x : BitVec 64) : IntKind.u64.wrap (x.toNat : Int) = t6 x := by
  rw [wrap_u64']; unfold t6; have := x.isLt; omega

theorem xor_u32 (a b : BitVec 32) : bits .xor .u32 (tn a) (tn b) = tn (a ^^^ b) := by
  show IntKind.u32.wrap ((BitVec.ofInt 32 (tn a) ^^^ BitVec.ofInt 32 (tn b)).toNat : Int) = _
  rw [ofInt_tn, ofInt_tn, wrap_tn]
theorem and_u32 (a b : BitVec 32) : bits .and .u32 (tn a) (tn b) = tn (a &&& b) := by
  show IntKind.u32.wrap ((BitVec.ofInt 32 (tn a) &&& BitVec.ofInt 32 (tn b)).toNat : Int) = _
  rw [ofInt_tn, ofInt_tn, wrap_tn]
theorem or_u32 (a b : BitVec 32) : bits .or .u32 (tn a) (tn b) = tn (a ||| b) := by
  show IntKind.u32.wrap ((BitVec.ofInt 32 (tn a) ||| BitVec.ofInt 32 (tn b)).toNat : Int) = _
  rw [ofInt_tn, ofInt_tn, wrap_tn]
theorem xor_u64 (a b : BitVec 64) : bits .xor .u64 (t6 a) (t6 b) = t6 (a ^^^ b) := by
  show IntKind.u64.wrap ((BitVec.ofInt 64 (t6 a) ^^^ BitVec.ofInt 64 (t6 b)).toNat : Int) = _
  rw [ofInt_t6, ofInt_t6, wrap_t6]
theorem and_u64 (a b : BitVec 64) : bits .and .u64 (t6 a) (t6 b) = t6 (a &&& b) := by
  show IntKind.u64.wrap ((BitVec.ofInt 64 (t6 a) &&& BitVec.ofInt 64 (t6 b)).toNat : Int) = _
  rw [ofInt_t6, ofInt_t6, wrap_t6]
theorem or_u64 (a b : BitVec 64) : bits .or .u64 (t6 a) (t6 b) = t6 (a ||| b) := by
  show IntKind.u64.wrap ((BitVec.ofInt 64 (t6 a) ||| BitVec.ofInt 64 (t6 b)).toNat : Int) = _
  rw [ofInt_t6, ofInt_t6, wrap_t6]
theorem add_u32 (a b : BitVec 32) : IntKind.u32.wrap (tn a + tn b) = tn (a + b) := by
  rw [wrap_u32']; unfold tn; rw [BitVec.toNat_add]; omega
theorem add_u64 (a b : BitVec 64) : IntKind.u64.wrap (t6 a + t6 b) = t6 (a + b) := by
  rw [wrap_u64']; unfold t6; rw [BitVec.toNat_add]; omega
theorem lo_u64 (a : BitVec 64) : bits .and .u64 (t6 a) 4294967295 = t6 (zx (lo a)) := by
  have e : (4294967295 : Int) = t6 4294967295#64 := rfl
  rw [e, and_u64]
  congr 1
  apply BitVec.eq_of_toNat_eq
  have h := Nat.and_two_pow_sub_one_eq_mod a.toNat 32
  simp [zx, lo] at h ⊢
  omega

theorem not_u32 (a : BitVec 32) : bits .xor .u32 (if IntKind.u32.signed = true then -1 else IntKind.u32.max) (tn a) = tn (~~~ a) := by
  have e : (if IntKind.u32.signed = true then (-1 : Int) else IntKind.u32.max) = tn (BitVec.allOnes 32) := by decide
  rw [e, xor_u32]
  congr 1
theorem not_u64 (a : BitVec 64) : bits .xor .u64 (if IntKind.u64.signed = true then -1 else IntKind.u64.max) (t6 a) = t6 (~~~ a) := by
  have e : (if IntKind.u64.signed = true then (-1 : Int) else IntKind.u64.max) = t6 (BitVec.allOnes 64) := by decide
  rw [e, xor_u64]
  congr 1
theorem add_u32m (a b : BitVec 32) : (tn a + tn b) % 4294967296 = tn (a + b) := by rw [← wrap_u32', add_u32]
/-- Shifts as the walk writes them: by a count that is a numeral. -/
theorem shr_u32 (x : BitVec 32) (n : Nat) : tn x / 2 ^ n = tn (shr n x) := by
  unfold tn shr; rw [BitVec.toNat_ushiftRight, Nat.shiftRight_eq_div_pow]; simp
theorem shl_u32 (x : BitVec 32) (n : Nat) : IntKind.u32.wrap (tn x * 2 ^ n) = tn (x <<< n) := by
  rw [wrap_u32']; unfold tn; rw [BitVec.toNat_shiftLeft, Nat.shiftLeft_eq]; simp
theorem shr_u64 (x : BitVec 64) (n : Nat) : t6 x / 2 ^ n = t6 (x >>> n) := by
  unfold t6; rw [BitVec.toNat_ushiftRight, Nat.shiftRight_eq_div_pow]; simp
theorem shl_u64 (x : BitVec 64) (n : Nat) : IntKind.u64.wrap (t6 x * 2 ^ n) = t6 (x <<< n) := by
  rw [wrap_u64']; unfold t6; rw [BitVec.toNat_shiftLeft, Nat.shiftLeft_eq]; simp

theorem zx_shr (x : BitVec 32) (n : Nat) : zx x >>> n = zx (shr n x) := by
  apply BitVec.eq_of_toNat_eq; simp [zx, shr]
theorem zx_xor (x y : BitVec 32) : zx x ^^^ zx y = zx (x ^^^ y) := by unfold zx; rw [BitVec.setWidth_xor]
theorem zx_and (x y : BitVec 32) : zx x &&& zx y = zx (x &&& y) := by unfold zx; rw [BitVec.setWidth_and]
theorem lo_zx (x : BitVec 32) : lo (zx x) = x := by unfold lo zx; simp
theorem lo_add (x y : BitVec 64) : lo (x + y) = lo x + lo y := by unfold lo; exact BitVec.setWidth_add _ _ (by decide)
theorem lo_not (x : BitVec 64) : lo (~~~ x) = ~~~ (lo x) := by
  apply BitVec.eq_of_getElem_eq; intro i hi; simp [lo]

theorem b32_val (b : UInt8) : (b.toNat : Int) = tn (b32 b) := by unfold tn b32; simp
theorem b32_wrap (b : UInt8) : IntKind.u32.wrap (b.toNat : Int) = tn (b32 b) := by rw [wrap_u32', b32_val]; have := tn_lo (b32 b); have := tn_hi (b32 b); omega
theorem turn_u64 (x : BitVec 32) (n : Int) (h1 : 1 ≤ n) (h2 : n ≤ 31) : lo (zx x >>> n.toNat ||| zx x <<< (32 - n.toNat)) = rotr n x := by
  unfold lo zx rotr
  apply BitVec.eq_of_getElem_eq
  intro i hi
  have h : n.toNat + i < 64 := by omega
  simp [h]
theorem rotr_u32 (x : BitVec 32) (n : Int) : x <<< (32 - n.toNat) ||| x >>> n.toNat = rotr n x := by unfold rotr; rw [BitVec.or_comm]
end Sh
end Go.Proofs.YthmpmpofhpkmjaaDoor
