/-
  Numbers, texts and sums as bytes, and what a reader of them answers, in plain words. No program here. No conditions.
-/
import Derived.Test.YtiehpaffbaafcaaShaRow
import Derived.Laws.BitsAllLaws
import Derived.IntWalk
namespace Go.Proofs.Ytiehpaffbaafcaa
open Go Go.RowKit
namespace Pn

def byAt (r : ByteArray) (k : Nat) : UInt8 := r.data.toList.getD k 0
/-- The number that four bytes tell, the lowest first. -/
def le4 (r : ByteArray) : Nat := (byAt r 0).toNat + 256 * (byAt r 1).toNat + 65536 * (byAt r 2).toNat + 16777216 * (byAt r 3).toNat
theorem le4_lt (r : ByteArray) : le4 r < 4294967296 := by
  unfold le4
  have h0 := (byAt r 0).toNat_lt
  have h1 := (byAt r 1).toNat_lt
  have h2 := (byAt r 2).toNat_lt
  have h3 := (byAt r 3).toNat_lt
  omega
theorem i64_or_nat (a b : Nat) (ha : a < 9223372036854775808) (hb : b < 9223372036854775808) : bits .or .i64 (a : Int) (b : Int) = ((a ||| b : Nat) : Int) := by
  have hx : a ||| b < 2 ^ 63 := Nat.or_lt_two_pow (by omega) (by omega)
  show IntKind.i64.wrap ((BitVec.ofInt 64 (a : Int) ||| BitVec.ofInt 64 (b : Int)).toNat : Int) = _
  rw [BitVec.toNat_or, ofInt_u64 a (by omega), ofInt_u64 b (by omega)]
  exact IntWalk.i64_in _ (by omega)
theorem or_val (a b : Nat) (ha : a < 9223372036854775808) (hb : b < 9223372036854775808) (i c : Nat) (hc : b = 2 ^ i * c) (hi : a < 2 ^ i) : bits .or .i64 (a : Int) (b : Int) = ((a + b : Nat) : Int) := by
  rw [i64_or_nat a b ha hb, hc, Nat.or_comm, ← Nat.two_pow_add_eq_or_of_lt hi, Nat.add_comm]

/-- So many bytes, and what is left; nothing, if they aren't all there. -/
def tkOut (r : ByteArray) (n : Nat) : ByteArray := if n ≤ r.size then r.extract 0 n else ⟨#[]⟩
def tkRest (r : ByteArray) (n : Nat) : ByteArray := if n ≤ r.size then r.extract n r.size else ⟨#[]⟩
def tkBad (r : ByteArray) (bad : Bool) (n : Nat) : Bool := bad || decide (r.size < n)
theorem tk_out_yes {r : ByteArray} {n : Nat} (h : n ≤ r.size) : tkOut r n = r.extract 0 n := if_pos h
theorem tk_rest_yes {r : ByteArray} {n : Nat} (h : n ≤ r.size) : tkRest r n = r.extract n r.size := if_pos h
theorem tk_bad_yes {r : ByteArray} {n : Nat} (b : Bool) (h : n ≤ r.size) : tkBad r b n = b := by unfold tkBad; rw [decide_eq_false (by omega), Bool.or_false]
theorem tk_out_no {r : ByteArray} {n : Nat} (h : r.size < n) : tkOut r n = ⟨#[]⟩ := if_neg (by omega)
theorem tk_rest_no {r : ByteArray} {n : Nat} (h : r.size < n) : tkRest r n = ⟨#[]⟩ := if_neg (by omega)
theorem tk_bad_no {r : ByteArray} {n : Nat} (b : Bool) (h : r.size < n) : tkBad r b n = true := by unfold tkBad; rw [decide_eq_true h, Bool.or_true]
theorem extract_size (r : ByteArray) (i j : Nat) (h : j ≤ r.size) : (r.extract i j).size = j - i := by
  rw [ByteArray.size_extract, Nat.min_eq_left h]
theorem empty_of_size {r : ByteArray} (h : r.size = 0) : r = ⟨#[]⟩ := by
  apply ByteArray.ext
  exact Array.eq_empty_of_size_eq_zero h
theorem tk_rest_size (r : ByteArray) (n : Nat) : (tkRest r n).size ≤ r.size := by
  unfold tkRest
  split
  · rw [extract_size _ _ _ (Nat.le_refl _)]; omega
  · exact Nat.zero_le _
theorem tk_out_size (r : ByteArray) (n : Nat) : (tkOut r n).size ≤ r.size := by
  unfold tkOut
  split
  · rename_i h; rw [extract_size _ _ _ h]; omega
  · exact Nat.zero_le _
/-- Once wrong, nothing is left. -/
def Sane (r : ByteArray) (bad : Bool) : Prop := bad = true → r.size = 0
theorem tk_sane {r : ByteArray} {bad : Bool} (h : Sane r bad) (n : Nat) : Sane (tkRest r n) (tkBad r bad n) := by
  intro hb
  by_cases hn : n ≤ r.size
  · rw [tk_bad_yes _ hn] at hb
    have := tk_rest_size r n
    have := h hb
    omega
  · rw [tk_rest_no (by omega)]; rfl

/-- A number of at most so much. -/
def nmOk (r : ByteArray) (most : Int) : Bool := decide (4 ≤ r.size) && decide ((le4 r : Int) ≤ most)
def nmOut (r : ByteArray) (most : Int) : Nat := if nmOk r most then le4 r else 0
def nmRest (r : ByteArray) (most : Int) : ByteArray := if nmOk r most then r.extract 4 r.size else ⟨#[]⟩
def nmBad (r : ByteArray) (bad : Bool) (most : Int) : Bool := bad || !nmOk r most
theorem nm_ok {r : ByteArray} {most : Int} (h4 : 4 ≤ r.size) (h : (le4 r : Int) ≤ most) : nmOk r most = true := by unfold nmOk; rw [decide_eq_true h4, decide_eq_true h]; rfl
theorem nm_short {r : ByteArray} {most : Int} (h4 : ¬ 4 ≤ r.size) : nmOk r most = false := by unfold nmOk; rw [decide_eq_false h4]; rfl
theorem nm_great {r : ByteArray} {most : Int} (h : ¬ (le4 r : Int) ≤ most) : nmOk r most = false := by unfold nmOk; rw [decide_eq_false h, Bool.and_false]
theorem nm_out_yes {r : ByteArray} {most : Int} (h : nmOk r most = true) : nmOut r most = le4 r := if_pos h
theorem nm_rest_yes {r : ByteArray} {most : Int} (h : nmOk r most = true) : nmRest r most = r.extract 4 r.size := if_pos h
theorem nm_bad_yes {r : ByteArray} {most : Int} (b : Bool) (h : nmOk r most = true) : nmBad r b most = b := by unfold nmBad; rw [h]; simp
theorem nm_out_no {r : ByteArray} {most : Int} (h : nmOk r most = false) : nmOut r most = 0 := if_neg (by rw [h]; exact Bool.false_ne_true)
theorem nm_rest_no {r : ByteArray} {most : Int} (h : nmOk r most = false) : nmRest r most = ⟨#[]⟩ := if_neg (by rw [h]; exact Bool.false_ne_true)
theorem nm_bad_no {r : ByteArray} {most : Int} (b : Bool) (h : nmOk r most = false) : nmBad r b most = true := by unfold nmBad; rw [h]; simp
theorem nm_out_lt (r : ByteArray) (most : Int) : nmOut r most < 4294967296 := by
  unfold nmOut
  split
  · exact le4_lt r
  · omega
theorem nm_rest_size (r : ByteArray) (most : Int) : (nmRest r most).size ≤ r.size := by
  unfold nmRest
  split
  · rw [extract_size _ _ _ (Nat.le_refl _)]; omega
  · exact Nat.zero_le _
theorem nm_sane {r : ByteArray} {bad : Bool} (h : Sane r bad) (most : Int) : Sane (nmRest r most) (nmBad r bad most) := by
  intro hb
  cases ho : nmOk r most with
  | true =>
    rw [nm_bad_yes _ ho] at hb
    have := nm_rest_size r most
    have := h hb
    omega
  | false => rw [nm_rest_no ho]; rfl
/-- A text of at most so many bytes. -/
def txOut (r : ByteArray) (most : Int) : ByteArray := tkOut (nmRest r most) (nmOut r most)
def txRest (r : ByteArray) (most : Int) : ByteArray := tkRest (nmRest r most) (nmOut r most)
def txBad (r : ByteArray) (bad : Bool) (most : Int) : Bool := tkBad (nmRest r most) (nmBad r bad most) (nmOut r most)
theorem tx_sane {r : ByteArray} {bad : Bool} (h : Sane r bad) (most : Int) : Sane (txRest r most) (txBad r bad most) := tk_sane (nm_sane h most) _
theorem tx_out_size (r : ByteArray) (most : Int) : (txOut r most).size ≤ r.size := Nat.le_trans (tk_out_size _ _) (nm_rest_size _ _)
theorem tx_rest_size (r : ByteArray) (most : Int) : (txRest r most).size ≤ r.size := Nat.le_trans (tk_rest_size _ _) (nm_rest_size _ _)
/-- A sum's bytes. -/
def dgOut (r : ByteArray) (j : Nat) : UInt8 := if 32 ≤ r.size then byAt r j else 0
end Pn
end Go.Proofs.Ytiehpaffbaafcaa
