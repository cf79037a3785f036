/-
  Numbers, texts and sums as bytes, and what a reader of them answers, in plain words. No program here. No conditions.
  The library's strings.Clone, which the program calls, by its contract at this translation. No conditions of ours but a text's size.
  Package pen's reader: what each call answers, and what is left. Conditions: the eye stands in a block of its own; once wrong, nothing is left.
  Package pen's pen: what it wrote lies in pieces, the newest first. Conditions: the pen stands in a block of its own; fewer than 2^40 bytes.
  A row of bytes of one's own, kept by calls that turn one other block alone; read as a text. No program's function here. No conditions.
  Package pen's pen: numbers are written. Conditions: the pen stands in a block of its own; the numbers stand where it looks; fewer than 2^40 bytes.
  Package pen's pen: texts and bytes are written. Conditions: the pen stands in a block of its own; the texts stand where it looks, each of at most a million bytes; fewer than 2^40 bytes.
  What was written is read as it was: numbers and texts, in plain words. No program here. No conditions.
-/
import Derived.Test.YtlapinecmiacoaaMe1
import Derived.Laws.BitsAllLaws
import Derived.IntWalk
import Derived.Shelf.Pu.Clone
import Derived.Laws.Strings
import Derived.Laws.BytesString
import Derived.StillTailTactics
import Derived.Lib.AppendStr
import Derived.OwnWalk
import Derived.Laws.OwnMore
import Derived.Deep.Cut
set_option maxRecDepth 100000
namespace Go.Proofs.Ytlapinecmiacoaa
open Go Go.RowKit
namespace Pn

def byAt (r : ByteArray) (k : Nat) : UInt8 := r.data.toList.getD k 0
/-- The number that four bytes tell, the lowest first. -/
def le4 (r : ByteArray) : Nat := (byAt r 0).toNat + 256 * (byAt r 1).toNat + 65536 * (byAt r 2).toNat + 16777216 * (byAt r 3).toNat
theorem le4_lt (r : ByteArray) : le4 r < 4294967296 := by
  unfold le4
  have h0 := (byAt r 0).toNat_lt
  have h1 := (byAt r 1).toNat_lt
  have h2 := (byAt r 2).toNat_lt
  have h3 := (byAt r 3).toNat_lt
  omega
theorem i64_or_nat (a b : Nat) (ha : a < 9223372036854775808) (hb : b < 9223372036854775808) : bits .or .i64 (a : Int) (b : Int) = ((a ||| b : Nat) : Int) := by
  have hx : a ||| b < 2 ^ 63 := Nat.or_lt_two_pow (by omega) (by omega)
  show IntKind.i64.wrap ((BitVec.ofInt 64 (a : Int) ||| BitVec.ofInt 64 (b : Int)).toNat : Int) = _
  rw [BitVec.toNat_or, ofInt_u64 a (by omega), ofInt_u64 b (by omega)]
  exact IntWalk.i64_in _ (by omega)
theorem or_val (a b : Nat) (ha : a < 9223372036854775808) (hb : b < 9223372036854775808) (i c : Nat) (hc : b = 2 ^ i * c) (hi : a < 2 ^ i) : bits .or .i64 (a : Int) (b : Int) = ((a + b : Nat) : Int) := by
  rw [i64_or_nat a b ha hb, hc, Nat.or_comm, ← Nat.two_pow_add_eq_or_of_lt hi, Nat.add_comm]

/-- So many bytes, and what is left; nothing, if they aren't all there. -/
def tkOut (r : ByteArray) (n : Nat) : ByteArray := if n ≤ r.size then r.extract 0 n else ⟨#[]⟩
def tkRest (r : ByteArray) (n : Nat) : ByteArray := if n ≤ r.size then r.extract n r.size else ⟨#[]⟩
def tkBad (r : ByteArray) (bad : Bool) (n : Nat) : Bool := bad || decide (r.size < n)
theorem tk_out_yes {r : ByteArray} {n : Nat} (h : n ≤ r.size) : tkOut r n = r.extract 0 n := if_pos h
theorem tk_rest_yes {r : ByteArray} {n : Nat} (h : n ≤ r.size) : tkRest r n = r.extract n r.size := if_pos h
theorem tk_bad_yes {r : ByteArray} {n : Nat} (b : Bool) (h : n ≤ r.size) : tkBad r b n = b := by unfold tkBad; rw [decide_eq_false (by omega), Bool.or_false]
theorem tk_out_no {r : ByteArray} {n : Nat} (h : r.size < n) : tkOut r n = ⟨#[]⟩ := if_neg (by omega)
theorem tk_rest_no {r : ByteArray} {n : Nat} (h : r.size < n) : tkRest r n = ⟨#[]⟩ := if_neg (by omega)
theorem tk_bad_no {r : ByteArray} {n : Nat} (b : Bool) (h : r.size < n) : tkBad r b n = true := by unfold tkBad; rw [decide_eq_true h, Bool.or_true]
theorem extract_size (r : ByteArray) (i j : Nat) (h : j ≤ r.size) : (r.extract i j).size = j - i := by
  rw [ByteArray.size_extract, Nat.min_eq_left h]
theorem empty_of_size {r : ByteArray} (h : r.size = 0) : r = ⟨#[]⟩ := by
  apply ByteArray.ext
  exact Array.eq_empty_of_size_eq_zero h
theorem tk_rest_size (r : ByteArray) (n : Nat) : (tkRest r n).size ≤ r.size := by
  unfold tkRest
  split
  · rw [extract_size _ _ _ (Nat.le_refl _)]; omega
  · exact Nat.zero_le _
theorem tk_out_size (r : ByteArray) (n : Nat) : (tkOut r n).size ≤ r.size := by
  unfold tkOut
  split
  · rename_i h; rw [extract_size _ _ _ h]; omega
  · exact Nat.zero_le _
/-- Once wrong, nothing is left. -/
def Sane (r : ByteArray) (bad : Bool) : Prop := bad = true → r.size = 0
theorem tk_sane {r : ByteArray} {bad : Bool} (h : Sane r bad) (n : Nat) : Sane (tkRest r n) (tkBad r bad n) := by
  intro hb
  by_cases hn : n ≤ r.size
  · rw [tk_bad_yes _ hn] at hb
    have := tk_rest_size r n
    have := h hb
    omega
  · rw [tk_rest_no (by omega)]; rfl

/-- A number of at most so much. -/
def nmOk (r : ByteArray) (most : Int) : Bool := decide (4 ≤ r.size) && decide ((le4 r : Int) ≤ most)
def nmOut (r : ByteArray) (most : Int) : Nat := if nmOk r most then le4 r else 0
def nmRest (r : ByteArray) (most : Int) : ByteArray := if nmOk r most then r.extract 4 r.size else ⟨#[]⟩
def nmBad (r : ByteArray) (bad : Bool) (most : Int) : Bool := bad || !nmOk r most
theorem nm_ok {r : ByteArray} {most : Int} (h4 : 4 ≤ r.size) (h : (le4 r : Int) ≤ most) : nmOk r most = true := by unfold nmOk; rw [decide_eq_true h4, decide_eq_true h]; rfl
theorem nm_short {r : ByteArray} {most : Int} (h4 : ¬ 4 ≤ r.size) : nmOk r most = false := by unfold nmOk; rw [decide_eq_false h4]; rfl
theorem nm_great {r : ByteArray} {most : Int} (h : ¬ (le4 r : Int) ≤ most) : nmOk r most = false := by unfold nmOk; rw [decide_eq_false h, Bool.and_false]
theorem nm_out_yes {r : ByteArray} {most : Int} (h : nmOk r most = true) : nmOut r most = le4 r := if_pos h
theorem nm_rest_yes {r : ByteArray} {most : Int} (h : nmOk r most = true) : nmRest r most = r.extract 4 r.size := if_pos h
theorem nm_bad_yes {r : ByteArray} {most : Int} (b : Bool) (h : nmOk r most = true) : nmBad r b most = b := by unfold nmBad; rw [h]; simp
theorem nm_out_no {r : ByteArray} {most : Int} (h : nmOk r most = false) : nmOut r most = 0 := if_neg (by rw [h]; exact Bool.false_ne_true)
theorem nm_rest_no {r : ByteArray} {most : Int} (h : nmOk r most = false) : nmRest r most = ⟨#[]⟩ := if_neg (by rw [h]; exact Bool.false_ne_true)
theorem nm_bad_no {r : ByteArray} {most : Int} (b : Bool) (h : nmOk r most = false) : nmBad r b most = true := by unfold nmBad; rw [h]; simp
theorem nm_out_lt (r : ByteArray) (most : Int) : nmOut r most < 4294967296 := by
  unfold nmOut
  split
  · exact le4_lt r
  · omega
theorem nm_rest_size (r : ByteArray) (most : Int) : (nmRest r most).size ≤ r.size := by
  unfold nmRest
  split
  · rw [extract_size _ _ _ (Nat.le_refl _)]; omega
  · exact Nat.zero_le _
theorem nm_sane {r : ByteArray} {bad : Bool} (h : Sane r bad) (most : Int) : Sane (nmRest r most) (nmBad r bad most) := by
  intro hb
  cases ho : nmOk r most with
  | true =>
    rw [nm_bad_yes _ ho] at hb
    have := nm_rest_size r most
    have := h hb
    omega
  | false => rw [nm_rest_no ho]; rfl
/-- A text of at most so many bytes. -/
def txOut (r : ByteArray) (most : Int) : ByteArray := tkOut (nmRest r most) (nmOut r most)
def txRest (r : ByteArray) (most : Int) : ByteArray := tkRest (nmRest r most) (nmOut r most)
def txBad (r : ByteArray) (bad : Bool) (most : Int) : Bool := tkBad (nmRest r most) (nmBad r bad most) (nmOut r most)
theorem tx_sane {r : ByteArray} {bad : Bool} (h : Sane r bad) (most : Int) : Sane (txRest r most) (txBad r bad most) := tk_sane (nm_sane h most) _
theorem tx_out_size (r : ByteArray) (most : Int) : (txOut r most).size ≤ r.size := Nat.le_trans (tk_out_size _ _) (nm_rest_size _ _)
theorem tx_rest_size (r : ByteArray) (most : Int) : (txRest r most).size ≤ r.size := Nat.le_trans (tk_rest_size _ _) (nm_rest_size _ _)
/-- A sum's bytes. -/
def dgOut (r : ByteArray) (j : Nat) : UInt8 := if 32 ≤ r.size then byAt r j else 0
end Pn
end Go.Proofs.Ytlapinecmiacoaa
namespace Go.Proofs.Ytlapinecmiacoaa
open Go.Shelf Go.RowKit

end Go.Proofs.Ytlapinecmiacoaa
namespace Go.Proofs.Ytlapinecmiacoaa
open Go.ChangeShapes Go.WideShapes Go.ChangeAt Go.RowKit Pn

def errOf (bad : Bool) : Int := if bad then 5 else 0
namespace EyeAt
variable {w w' : World} {b : Nat} {r : ByteArray} {bad : Bool}
end EyeAt
theorem size_pos {r : ByteArray} {n : Nat} (h : n ≤ r.size) (hn : 0 < n) : (tkOut r n).size = n := by rw [tk_out_yes h, extract_size _ _ _ h]; omega
theorem byAt_take (r : ByteArray) (n k : Nat) (h : k < n) : byAt (r.extract 0 n) k = byAt r k := by
  unfold byAt
  rw [ByteArray.data_extract, Array.toList_extract, List.extract_eq_take_drop, List.drop_zero]
  rw [List.getD_eq_getElem?_getD, List.getD_eq_getElem?_getD, List.getElem?_take, if_pos (by omega)]
theorem index_by (q : ByteArray) (k : Nat) (h : k < q.size) (n : Int) (hn : n = (k : Int)) (w : World) : (Instr.index 9 (.string q) (.int .i64 n)).run Try.prog w = .ok (.int .u8 ((byAt q k).toNat : Int)) w := by
  subst hn
  have hu := Try.underlying9
  have hb : q[k]? = some (byAt q k) := by
    unfold byAt
    rw [getElem?_pos q k h, List.getD_eq_getElem?_getD, List.getElem?_eq_getElem (show k < q.data.toList.length from h)]
    rfl
  simp [Instr.index, run_underlying hu, go_sem]
  rw [hb]
  rfl
theorem not_empty {q : ByteArray} (h : 0 < q.size) : q.toList.isEmpty = false := by
  rw [ByteArray.toList_eq]
  have : 0 < q.data.toList.length := h
  cases e : q.data.toList with
  | nil => rw [e] at this; cases this
  | cons => rfl
theorem val_u8 {a b : UInt8} (h : a = b) : Value.int .u8 (a.toNat : Int) = .int .u8 (b.toNat : Int) := by rw [h]
/-- The law's own spelling of a number in four bytes. -/
theorem le4_or (a b c d : Nat) (ha : a < 256) (hb : b < 256) (hc : c < 256) (hd : d < 256) :
    bits .or .i64 (bits .or .i64 (bits .or .i64 (a : Int) ((b : Int) * 256)) ((c : Int) * 65536)) ((d : Int) * 16777216) = ((a + 256 * b + 65536 * c + 16777216 * d : Nat) : Int) := by
  have e1 := or_val a (b * 256) (by omega) (by omega) 8 b (by omega) (by omega)
  have e2 := or_val (a + b * 256) (c * 65536) (by omega) (by omega) 16 c (by omega) (by omega)
  have e3 := or_val (a + b * 256 + c * 65536) (d * 16777216) (by omega) (by omega) 24 d (by omega) (by omega)
  simp only [Int.natCast_mul, Int.natCast_add, Int.cast_ofNat_Int] at e1 e2 e3 ⊢
  rw [e1, e2, e3]
  omega
def endOf (r : ByteArray) (bad : Bool) : Int := if 0 < r.size then 5 else errOf bad
end Go.Proofs.Ytlapinecmiacoaa
namespace Go.Proofs.Ytlapinecmiacoaa
open Go.ChangeShapes Go.WideShapes Go.ChangeAt Go.RowKit Pn

namespace Pn
/-- How many bytes the pieces have. -/
def total : List ByteArray → Nat
  | [] => 0
  | q :: r => q.size + total r
/-- The bytes of pieces, the newest of which is the first. -/
def penL : List ByteArray → List UInt8
  | [] => []
  | q :: r => penL r ++ q.data.toList
theorem penL_length (l : List ByteArray) : (penL l).length = total l := by
  induction l with
  | nil => rfl
  | cons q r ih =>
    have : q.data.toList.length = q.size := rfl
    simp only [penL, total, List.length_append, ih, this]
    omega
end Pn
namespace PenHd
variable {w w' : World} {p : Nat} {last : Option Addr} {bad : Bool}
end PenHd
namespace PenAt
variable {w w' : World} {p : Nat} {l : List ByteArray} {bad : Bool}
end PenAt
namespace Pn
/-- Whether a number can be; the one whose bytes are written; its bytes. -/
def numOk (n : Int) : Bool := decide (0 ≤ n) && decide (n ≤ 4294967295)
def numV (n : Int) : Nat := if numOk n then n.toNat else 0
def numF (n : Int) (j : Nat) : UInt8 := UInt8.ofNat (numV n / 256 ^ j)
def numL (n : Int) : List UInt8 := (List.range 4).map (numF n)
theorem num_ok {n : Int} (h0 : 0 ≤ n) (h1 : n ≤ 4294967295) : numOk n = true := by unfold numOk; rw [decide_eq_true h0, decide_eq_true h1]; rfl
theorem num_neg {n : Int} (h0 : ¬ 0 ≤ n) : numOk n = false := by unfold numOk; rw [decide_eq_false h0]; rfl
theorem num_great {n : Int} (h1 : ¬ n ≤ 4294967295) : numOk n = false := by unfold numOk; rw [decide_eq_false h1, Bool.and_false]
theorem numV_ok {n : Int} (h : numOk n = true) : (numV n : Int) = n := by
  have : 0 ≤ n := by unfold numOk at h; simp at h; exact h.1
  unfold numV; rw [if_pos h]; omega
theorem numV_no {n : Int} (h : numOk n = false) : numV n = 0 := by unfold numV; rw [h]; rfl
theorem numL_length (n : Int) : (numL n).length = 4 := by simp [numL]
theorem numF_val (n : Int) (j : Nat) : ((numF n j).toNat : Int) = (numV n : Int) / ((256 ^ j : Nat) : Int) % 256 := by
  unfold numF
  rw [UInt8.toNat_ofNat', ← Int.natCast_ediv]
  omega
end Pn
/-- Four new bytes. -/
def Four (w : World) (f : Nat → UInt8) (e : Ending) (w' : World) : Prop :=
  ∃ g, e = .returned (.slice (some ⟨g, 0, none⟩) 4 4) ∧ w.heap.size ≤ g ∧ w'.heap[g]? = some (.cells #[.int .u8 ((f 0).toNat : Int), .int .u8 ((f 1).toNat : Int), .int .u8 ((f 2).toNat : Int), .int .u8 ((f 3).toNat : Int)] 5 (0, 0))
end Go.Proofs.Ytlapinecmiacoaa
namespace Go.Proofs.Ytlapinecmiacoaa
open Go.ChangeShapes Go.WideShapes Go.ChangeAt Go.RowKit Pn

theorem infoB : (Try.prog.info? 5).map (fun i => (i.zero, i.size, i.bytes)) = some (some (.int .u8 0), 1, 1) := by kernel_rfl
def bcells (l : List UInt8) : List Value := l.map fun b => Value.int .u8 (b.toNat : Int)
theorem bcells_length (l : List UInt8) : (bcells l).length = l.length := by simp [bcells]
theorem bcells_append (l m : List UInt8) : bcells (l ++ m) = bcells l ++ bcells m := by simp [bcells]
theorem bcells_one (l : List UInt8) : ∀ u ∈ bcells l, u.oneCell' = true := by
  intro u hu
  obtain ⟨b, _, rfl⟩ := List.mem_map.1 hu
  rfl
theorem bcells_text (s : ByteArray) : Lib.strCells s = bcells s.data.toList := rfl
theorem bcells_get (l : List UInt8) (j : Nat) (h : j < l.length) : (bcells l)[j]? = some (.int .u8 ((l.getD j 0).toNat : Int)) := by
  unfold bcells
  rw [List.getElem?_map, List.getElem?_eq_getElem h, List.getD_eq_getElem?_getD, List.getElem?_eq_getElem h]
  rfl
theorem Only.grown {w w1 w2 : World} {p : Nat} {row : Option Nat} (h : Only w w1 p) (hg : w1.grownBy w2 row) (hr : ∀ k, row = some k → w.heap.size ≤ k) : Only w w2 p :=
  ⟨hg.os.trans h.os, hg.tape.trans h.tape, hg.output.trans h.output, Nat.le_trans h.size hg.size, fun i hi hp =>
    (hg.block i (Nat.lt_of_lt_of_le hi h.size) (fun e => by have := hr i e.symm; omega)).trans (h.block i hi hp)⟩
theorem own_only {w w' : World} {base : Nat} {e : TypeId} {size n : Nat} {v : Value} {xs : List Value} {p : Nat} (h : w.ownsRow base e size v n xs) (ho : Only w w' p) (hp : p < base) : w'.ownsRow base e size v n xs := by
  refine ⟨h.1, ?_⟩
  rcases h.2 with hn | ⟨g, cap, cur, hv, hb, hg, r⟩
  · exact .inl hn
  · exact .inr ⟨g, cap, cur, hv, hb, (ho.block g (Array.getElem?_eq_some_iff.1 hg).1 (by omega)).trans hg, r⟩
theorem own_form {w : World} {base : Nat} {e : TypeId} {size n : Nat} {v : Value} {xs : List Value} (h : w.ownsRow base e size v n xs) (hv : v ≠ .slice none 0 0) : ∃ g cap, v = .slice (some ⟨g, 0, none⟩) n cap ∧ base ≤ g := by
  rcases h.2 with ⟨hn, _⟩ | ⟨g, cap, cur, rfl, hb, _⟩
  · exact absurd hn hv
  · exact ⟨g, cap, rfl, hb⟩
theorem foldl_pushP (ns : List UInt8) : ∀ r : ByteArray, ns.foldl (fun r b => r.push b) r = ⟨(r.data.toList ++ ns).toArray⟩ := by
  induction ns with
  | nil => intro r; simp
  | cons a ns ih =>
    intro r
    rw [List.foldl_cons, ih]
    simp [ByteArray.push]
theorem foldl_pushP_int (ns : List UInt8) (r : ByteArray) : (ns.map fun b => (b.toNat : Int)).foldl (fun r n => r.push (UInt8.ofNat n.toNat)) r = ns.foldl (fun r b => r.push b) r := by
  rw [List.foldl_map]
  congr 1
  funext r b
  rw [Int.toNat_natCast, UInt8.ofNat_toNat]
end Go.Proofs.Ytlapinecmiacoaa
namespace Go.Proofs.Ytlapinecmiacoaa
open Go.ChangeShapes Go.WideShapes Go.ChangeAt Go.RowKit Pn

namespace Pn
def numsL (xs : Nat → Int) (n : Nat) : List UInt8 := (List.range n).flatMap fun k => numL (xs k)
def numsOk (xs : Nat → Int) (n : Nat) : Bool := (List.range n).all fun k => numOk (xs k)
theorem numsL_next (xs : Nat → Int) (n : Nat) : numsL xs (n + 1) = numsL xs n ++ numL (xs n) := by
  unfold numsL; rw [List.range_succ, List.flatMap_append]; simp
theorem numsOk_next (xs : Nat → Int) (n : Nat) : numsOk xs (n + 1) = (numsOk xs n && numOk (xs n)) := by
  unfold numsOk; rw [List.range_succ, List.all_append]; simp
theorem numsL_length (xs : Nat → Int) (n : Nat) : (numsL xs n).length = 4 * n := by
  induction n with
  | zero => rfl
  | succ n ih => rw [numsL_next, List.length_append, ih, numL_length]; omega
theorem bad_next (bad : Bool) (xs : Nat → Int) (n : Nat) : (bad || !numsOk xs n || !numOk (xs n)) = (bad || !numsOk xs (n + 1)) := by
  rw [numsOk_next]; cases bad <;> cases numsOk xs n <;> cases numOk (xs n) <;> rfl
end Pn
theorem four_cells (n : Int) : bcells (numL n) = [.int .u8 ((numF n 0).toNat : Int), .int .u8 ((numF n 1).toNat : Int), .int .u8 ((numF n 2).toNat : Int), .int .u8 ((numF n 3).toNat : Int)] := rfl

end Go.Proofs.Ytlapinecmiacoaa
namespace Go.Proofs.Ytlapinecmiacoaa
open Go.ChangeShapes Go.WideShapes Go.ChangeAt Go.RowKit Pn

namespace Pn
def textL (s : ByteArray) : List UInt8 := numL (s.size : Int) ++ s.data.toList
def textsL (ss : Nat → ByteArray) (n : Nat) : List UInt8 := (List.range n).flatMap fun k => textL (ss k)
theorem textsL_next (ss : Nat → ByteArray) (n : Nat) : textsL ss (n + 1) = textsL ss n ++ textL (ss n) := by
  unfold textsL; rw [List.range_succ, List.flatMap_append]; simp
theorem textL_length (s : ByteArray) : (textL s).length = 4 + s.size := by
  unfold textL
  rw [List.length_append, numL_length]
  rfl
theorem textsL_le (ss : Nat → ByteArray) (n : Nat) (h : ∀ k, k < n → (ss k).size ≤ 1000000) : (textsL ss n).length ≤ 1000004 * n := by
  induction n with
  | zero => exact Nat.zero_le _
  | succ n ih =>
    rw [textsL_next, List.length_append, textL_length]
    have := ih fun k hk => h k (by omega)
    have := h n (by omega)
    omega
end Pn

end Go.Proofs.Ytlapinecmiacoaa
namespace Go.Proofs.Ytlapinecmiacoaa
open Go Go.RowKit Pn
namespace Pn

theorem byAt_list (l : List UInt8) (k : Nat) : byAt ⟨l.toArray⟩ k = l.getD k 0 := rfl
theorem numL_four (x : Int) : numL x = [numF x 0, numF x 1, numF x 2, numF x 3] := rfl
theorem le4_num (x : Int) (h : numOk x = true) (T : List UInt8) : (le4 ⟨(numL x ++ T).toArray⟩ : Int) = x := by
  have hx := numV_ok h
  have hb : 0 ≤ x ∧ x ≤ 4294967295 := by unfold numOk at h; simpa using h
  have v0 := numF_val x 0
  have v1 := numF_val x 1
  have v2 := numF_val x 2
  have v3 := numF_val x 3
  simp only [Nat.pow_zero, Nat.pow_one, Int.ediv_one, Nat.reducePow, Int.cast_ofNat_Int] at v0 v1 v2 v3
  unfold le4
  rw [byAt_list, byAt_list, byAt_list, byAt_list, numL_four]
  show (((numF x 0).toNat + 256 * (numF x 1).toNat + 65536 * (numF x 2).toNat + 16777216 * (numF x 3).toNat : Nat) : Int) = x
  omega
theorem size_list (l : List UInt8) : (⟨l.toArray⟩ : ByteArray).size = l.length := by show l.toArray.size = _; rw [List.size_toArray]
theorem extract_list (l m : List UInt8) (n : Nat) (h : n = l.length) : (⟨(l ++ m).toArray⟩ : ByteArray).extract n (⟨(l ++ m).toArray⟩ : ByteArray).size = ⟨m.toArray⟩ := by
  subst h
  apply ByteArray.ext
  rw [ByteArray.data_extract, size_list]
  apply Array.ext'
  rw [Array.toList_extract, List.extract_eq_take_drop, List.length_append]
  simp
theorem extract_head (l m : List UInt8) (n : Nat) (h : n = l.length) : (⟨(l ++ m).toArray⟩ : ByteArray).extract 0 n = ⟨l.toArray⟩ := by
  subst h
  apply ByteArray.ext
  rw [ByteArray.data_extract]
  apply Array.ext'
  rw [Array.toList_extract, List.extract_eq_take_drop]
  simp
theorem nm_num (x : Int) (h : numOk x = true) (T : List UInt8) (most : Int) (hm : x ≤ most) : nmOk ⟨(numL x ++ T).toArray⟩ most = true :=
  nm_ok (by rw [size_list, List.length_append, numL_length]; omega) (by rw [le4_num x h]; exact hm)
theorem nm_num_out (x : Int) (h : numOk x = true) (T : List UInt8) (most : Int) (hm : x ≤ most) : (nmOut ⟨(numL x ++ T).toArray⟩ most : Int) = x := by
  rw [nm_out_yes (nm_num x h T most hm), le4_num x h]
theorem nm_num_rest (x : Int) (h : numOk x = true) (T : List UInt8) (most : Int) (hm : x ≤ most) : nmRest ⟨(numL x ++ T).toArray⟩ most = ⟨T.toArray⟩ := by
  rw [nm_rest_yes (nm_num x h T most hm)]
  exact extract_list (numL x) T 4 (numL_length x).symm
theorem nm_num_bad (x : Int) (h : numOk x = true) (T : List UInt8) (most : Int) (hm : x ≤ most) : nmBad ⟨(numL x ++ T).toArray⟩ false most = false := nm_bad_yes _ (nm_num x h T most hm)
theorem tx_text (s : ByteArray) (hs : s.size ≤ 1000000) (T : List UInt8) :
    txOut ⟨(textL s ++ T).toArray⟩ (s.size : Int) = s ∧ txRest ⟨(textL s ++ T).toArray⟩ (s.size : Int) = ⟨T.toArray⟩ ∧ txBad ⟨(textL s ++ T).toArray⟩ false (s.size : Int) = false := by
  have hok : numOk (s.size : Int) = true := num_ok (by omega) (by omega)
  have e : textL s ++ T = numL (s.size : Int) ++ (s.data.toList ++ T) := by unfold textL; rw [List.append_assoc]
  have h1 := nm_num_out (s.size : Int) hok (s.data.toList ++ T) (s.size : Int) (Int.le_refl _)
  have h2 := nm_num_rest (s.size : Int) hok (s.data.toList ++ T) (s.size : Int) (Int.le_refl _)
  have h3 := nm_num_bad (s.size : Int) hok (s.data.toList ++ T) (s.size : Int) (Int.le_refl _)
  have h1' : nmOut ⟨(numL (s.size : Int) ++ (s.data.toList ++ T)).toArray⟩ (s.size : Int) = s.size := by omega
  have hl : s.data.toList.length = s.size := rfl
  have hle : s.size ≤ (⟨(s.data.toList ++ T).toArray⟩ : ByteArray).size := by
    have h5 := size_list (s.data.toList ++ T)
    rw [List.length_append] at h5
    omega
  rw [e]
  unfold txOut txRest txBad
  rw [h1', h2, h3, tk_out_yes hle, tk_rest_yes hle, tk_bad_yes _ hle]
  refine ⟨?_, ?_, rfl⟩
  · rw [extract_head _ _ _ hl.symm]
  · exact extract_list _ _ _ hl.symm
/-- Numbers, and texts, from one place on. -/
def numsFrom (xs : Nat → Int) (k n : Nat) : List UInt8 := (List.range (n - k)).flatMap fun i => numL (xs (k + i))
def textsFrom (ss : Nat → ByteArray) (k n : Nat) : List UInt8 := (List.range (n - k)).flatMap fun i => textL (ss (k + i))
theorem numsFrom_zero (xs : Nat → Int) (n : Nat) : numsFrom xs 0 n = numsL xs n := by unfold numsFrom numsL; simp
theorem textsFrom_zero (ss : Nat → ByteArray) (n : Nat) : textsFrom ss 0 n = textsL ss n := by unfold textsFrom textsL; simp
theorem numsFrom_end (xs : Nat → Int) (n : Nat) : numsFrom xs n n = [] := by unfold numsFrom; simp
theorem textsFrom_end (ss : Nat → ByteArray) (n : Nat) : textsFrom ss n n = [] := by unfold textsFrom; simp
theorem numsFrom_step (xs : Nat → Int) (k n : Nat) (h : k < n) : numsFrom xs k n = numL (xs k) ++ numsFrom xs (k + 1) n := by
  unfold numsFrom
  rw [show n - k = n - (k + 1) + 1 by omega, List.range_succ_eq_map, List.flatMap_cons, List.flatMap_map]
  congr 1
  congr 1
  funext i
  rw [show k + (i + 1) = k + 1 + i by omega]
theorem textsFrom_step (ss : Nat → ByteArray) (k n : Nat) (h : k < n) : textsFrom ss k n = textL (ss k) ++ textsFrom ss (k + 1) n := by
  unfold textsFrom
  rw [show n - k = n - (k + 1) + 1 by omega, List.range_succ_eq_map, List.flatMap_cons, List.flatMap_map]
  congr 1
  congr 1
  funext i
  rw [show k + (i + 1) = k + 1 + i by omega]
theorem numL_inj (x y : Int) (hx : numOk x = true) (hy : numOk y = true) (h : numL x = numL y) : x = y := by
  have h1 := le4_num x hx []
  have h2 := le4_num y hy []
  rw [h] at h1
  exact h1.symm.trans h2
theorem numsL_inj (xs ys : Nat → Int) : ∀ n, (∀ i, i < n → numOk (xs i) = true) → (∀ i, i < n → numOk (ys i) = true) → numsL xs n = numsL ys n → ∀ i, i < n → xs i = ys i := by
  intro n
  induction n with
  | zero => intro _ _ _ i hi; omega
  | succ n ih =>
    intro hx hy h i hi
    rw [numsL_next, numsL_next] at h
    have hl : (numsL xs n).length = (numsL ys n).length := by rw [numsL_length, numsL_length]
    obtain ⟨h1, h2⟩ := List.append_inj h hl
    by_cases e : i = n
    · subst e; exact numL_inj _ _ (hx i (by omega)) (hy i (by omega)) h2
    · exact ih (fun j hj => hx j (by omega)) (fun j hj => hy j (by omega)) h1 i (by omega)
theorem numsL_congr (xs ys : Nat → Int) (n : Nat) (h : ∀ i, i < n → xs i = ys i) : numsL xs n = numsL ys n := by
  induction n with
  | zero => rfl
  | succ n ih => rw [numsL_next, numsL_next, ih fun i hi => h i (by omega), h n (by omega)]
/-- Whether both rows are the same up to place j. -/
def sameK (xs ys : Nat → Int) (n m : Nat) : Nat → Bool
  | 0 => ((n : Int) == (m : Int))
  | j + 1 => sameK xs ys n m j && (xs j == ys j)
theorem sameK_len (xs ys : Nat → Int) (n m : Nat) (j : Nat) (h : sameK xs ys n m j = true) : n = m := by
  induction j with
  | zero => have := beq_iff_eq.1 h; omega
  | succ j ih => simp only [sameK, Bool.and_eq_true] at h; exact ih h.1
theorem sameK_iff (xs ys : Nat → Int) (n m : Nat) (j : Nat) : sameK xs ys n m j = true ↔ n = m ∧ ∀ i, i < j → xs i = ys i := by
  induction j with
  | zero => exact ⟨fun h => ⟨by have := beq_iff_eq.1 h; omega, fun i hi => by omega⟩, fun h => beq_iff_eq.2 (by rw [h.1])⟩
  | succ j ih =>
    simp only [sameK, Bool.and_eq_true, ih, beq_iff_eq]
    constructor
    · rintro ⟨⟨h1, h2⟩, h3⟩
      refine ⟨h1, fun i hi => ?_⟩
      by_cases e : i = j
      · rw [e]; exact h3
      · exact h2 i (by omega)
    · rintro ⟨h1, h2⟩
      exact ⟨⟨h1, fun i hi => h2 i (by omega)⟩, h2 j (by omega)⟩
theorem same_bytes (xs ys : Nat → Int) (n m : Nat) (hx : ∀ i, numOk (xs i) = true) (hy : ∀ i, numOk (ys i) = true) : ((⟨(numsL xs n).toArray⟩ : ByteArray) = ⟨(numsL ys m).toArray⟩) ↔ sameK xs ys n m m = true := by
  rw [sameK_iff]
  constructor
  · intro h
    have hl : numsL xs n = numsL ys m := by
      have := congrArg (fun q : ByteArray => q.data.toList) h
      exact this
    have hn : n = m := by
      have := congrArg List.length hl
      rw [numsL_length, numsL_length] at this
      omega
    subst hn
    exact ⟨rfl, numsL_inj xs ys n (fun i _ => hx i) (fun i _ => hy i) hl⟩
  · rintro ⟨rfl, h⟩
    rw [numsL_congr xs ys n h]
/-- A number of 32 bits. -/
def cut32 (x : Int) : Int := x % 4294967296
theorem cut32_ok (x : Int) : numOk (cut32 x) = true := num_ok (by unfold cut32; omega) (by unfold cut32; omega)
end Pn
end Go.Proofs.Ytlapinecmiacoaa
