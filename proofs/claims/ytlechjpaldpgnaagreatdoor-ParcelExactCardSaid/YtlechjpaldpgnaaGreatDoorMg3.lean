/-
  Numbers, texts and sums as bytes, and what a reader of them answers, in plain words. No program here. No conditions.
  The library's strings.Clone, which the program calls, by its contract at this translation. No conditions of ours but a text's size.
  Package pen's reader: what each call answers, and what is left. Conditions: the eye stands in a block of its own; once wrong, nothing is left.
  Package pen's pen: what it wrote lies in pieces, the newest first. Conditions: the pen stands in a block of its own; fewer than 2^40 bytes.
  A row of bytes of one's own, kept by calls that turn one other block alone; read as a text. No program's function here. No conditions.
  Package pen's pen: numbers are written. Conditions: the pen stands in a block of its own; the numbers stand where it looks; fewer than 2^40 bytes.
  Package pen's pen: texts and bytes are written. Conditions: the pen stands in a block of its own; the texts stand where it looks, each of at most a million bytes; fewer than 2^40 bytes.
  Package pen's pen: of nil nothing is written. Conditions: what is to be written stands where it looks.
  A sum's 32 bytes as values. No program's function here. No conditions.
  Package pen's pen: sums are written. Conditions: the pen stands in a block of its own, or is nil; the sums stand where it looks.
  What was written is read as it was: numbers and texts, in plain words. No program here. No conditions.
-/
import Derived.Test.YtlechjpaldpgnaaGreatDoorMg1
import Derived.Laws.BitsAllLaws
import Derived.IntWalk
import Derived.Shelf.Pu.Clone
import Derived.Laws.Strings
import Derived.Laws.BytesString
import Derived.StillTailTactics
import Derived.Lib.AppendStr
import Derived.OwnWalk
import Derived.Laws.OwnMore
import Derived.Deep.Cut
import Derived.Deep.MidRow
set_option maxRecDepth 100000
namespace Go.Proofs.YtlechjpaldpgnaaGreatDoor
open Go Go.RowKit
namespace Pn

def byAt (r : ByteArray) (k : Nat) : UInt8 := r.data.toList.getD k 0
/-- The number that four bytes tell, the lowest first. -/
def le4 (r : ByteArray) : Nat := (byAt r 0).toNat + 256 * (byAt r 1).toNat + 65536 * (byAt r 2).toNat + 16777216 * (byAt r 3).toNat
theorem le4_lt (r : ByteArray) : le4 r < 4294967296 := by
  unfold le4
  have h0 := (byAt r 0).toNat_lt
  have h1 := (byAt r 1).toNat_lt
  have h2 := (byAt r 2).toNat_lt
  have h3 := (byAt r 3).toNat_lt
  omega
theorem i64_or_nat (a b : Nat) (ha : a < 9223372036854775808) (hb : b < 9223372036854775808) : bits .or .i64 (a : Int) (b : Int) = ((a ||| b : Nat) : Int) := by
  have hx : a ||| b < 2 ^ 63 := Nat.or_lt_two_pow (by omega) (by omega)
  show IntKind.i64.wrap ((BitVec.ofInt 64 (a : Int) ||| BitVec.ofInt 64 (b : Int)).toNat : Int) = _
  rw [BitVec.toNat_or, ofInt_u64 a (by omega), ofInt_u64 b (by omega)]
  exact IntWalk.i64_in _ (by omega)
theorem or_val (a b : Nat) (ha : a < 9223372036854775808) (hb : b < 9223372036854775808) (i c : Nat) (hc : b = 2 ^ i * c) (hi : a < 2 ^ i) : bits .or .i64 (a : Int) (b : Int) = ((a + b : Nat) : Int) := by
  rw [i64_or_nat a b ha hb, hc, Nat.or_comm, ← Nat.two_pow_add_eq_or_of_lt hi, Nat.add_comm]

/-- So many bytes, and what is left; nothing, if they aren't all there. -/
def tkOut (r : ByteArray) (n : Nat) : ByteArray := if n ≤ r.size then r.extract 0 n else ⟨#[]⟩
def tkRest (r : ByteArray) (n : Nat) : ByteArray := if n ≤ r.size then r.extract n r.size else ⟨#[]⟩
def tkBad (r : ByteArray) (bad : Bool) (n : Nat) : Bool := bad || decide (r.size < n)
theorem tk_out_yes {r : ByteArray} {n : Nat} (h : n ≤ r.size) : tkOut r n = r.extract 0 n := if_pos h
theorem tk_rest_yes {r : ByteArray} {n : Nat} (h : n ≤ r.size) : tkRest r n = r.extract n r.size := if_pos h
theorem tk_bad_yes {r : ByteArray} {n : Nat} (b : Bool) (h : n ≤ r.size) : tkBad r b n = b := by unfold tkBad; rw [decide_eq_false (by omega), Bool.or_false]
theorem tk_out_no {r : ByteArray} {n : Nat} (h : r.size < n) : tkOut r n = ⟨#[]⟩ := if_neg (by omega)
theorem tk_rest_no {r : ByteArray} {n : Nat} (h : r.size < n) : tkRest r n = ⟨#[]⟩ := if_neg (by omega)
theorem tk_bad_no {r : ByteArray} {n : Nat} (b : Bool) (h : r.size < n) : tkBad r b n = true := by unfold tkBad; rw [decide_eq_true h, Bool.or_true]
theorem extract_size (r : ByteArray) (i j : Nat) (h : j ≤ r.size) : (r.extract i j).size = j - i := by
  rw [ByteArray.size_extract, Nat.min_eq_left h]
theorem empty_of_size {r : ByteArray} (h : r.size = 0) : r = ⟨#[]⟩ := by
  apply ByteArray.ext
  exact Array.eq_empty_of_size_eq_zero h
theorem tk_rest_size (r : ByteArray) (n : Nat) : (tkRest r n).size ≤ r.size := by
  unfold tkRest
  split
  · rw [extract_size _ _ _ (Nat.le_refl _)]; omega
  · exact Nat.zero_le _
theorem tk_out_size (r : ByteArray) (n : Nat) : (tkOut r n).size ≤ r.size := by
  unfold tkOut
  split
  · rename_i h; rw [extract_size _ _ _ h]; omega
  · exact Nat.zero_le _
/-- Once wrong, nothing is left. -/
def Sane (r : ByteArray) (bad : Bool) : Prop := bad = true → r.size = 0
theorem tk_sane {r : ByteArray} {bad : Bool} (h : Sane r bad) (n : Nat) : Sane (tkRest r n) (tkBad r bad n) := by
  intro hb
  by_cases hn : n ≤ r.size
  · rw [tk_bad_yes _ hn] at hb
    have := tk_rest_size r n
    have := h hb
    omega
  · rw [tk_rest_no (by omega)]; rfl

/-- A number of at most so much. -/
def nmOk (r : ByteArray) (most : Int) : Bool := decide (4 ≤ r.size) && decide ((le4 r : Int) ≤ most)
def nmOut (r : ByteArray) (most : Int) : Nat := if nmOk r most then le4 r else 0
def nmRest (r : ByteArray) (most : Int) : ByteArray := if nmOk r most then r.extract 4 r.size else ⟨#[]⟩
def nmBad (r : ByteArray) (bad : Bool) (most : Int) : Bool := bad || !nmOk r most
theorem nm_ok {r : ByteArray} {most : Int} (h4 : 4 ≤ r.size) (h : (le4 r : Int) ≤ most) : nmOk r most = true := by unfold nmOk; rw [decide_eq_true h4, decide_eq_true h]; rfl
theorem nm_short {r : ByteArray} {most : Int} (h4 : ¬ 4 ≤ r.size) : nmOk r most = false := by unfold nmOk; rw [decide_eq_false h4]; rfl
theorem nm_great {r : ByteArray} {most : Int} (h : ¬ (le4 r : Int) ≤ most) : nmOk r most = false := by unfold nmOk; rw [decide_eq_false h, Bool.and_false]
theorem nm_out_yes {r : ByteArray} {most : Int} (h : nmOk r most = true) : nmOut r most = le4 r := if_pos h
theorem nm_rest_yes {r : ByteArray} {most : Int} (h : nmOk r most = true) : nmRest r most = r.extract 4 r.size := if_pos h
theorem nm_bad_yes {r : ByteArray} {most : Int} (b : Bool) (h : nmOk r most = true) : nmBad r b most = b := by unfold nmBad; rw [h]; simp
theorem nm_out_no {r : ByteArray} {most : Int} (h : nmOk r most = false) : nmOut r most = 0 := if_neg (by rw [h]; exact Bool.false_ne_true)
theorem nm_rest_no {r : ByteArray} {most : Int} (h : nmOk r most = false) : nmRest r most = ⟨#[]⟩ := if_neg (by rw [h]; exact Bool.false_ne_true)
theorem nm_bad_no {r : ByteArray} {most : Int} (b : Bool) (h : nmOk r most = false) : nmBad r b most = true := by unfold nmBad; rw [h]; simp
theorem nm_out_lt (r : ByteArray) (most : Int) : nmOut r most < 4294967296 := by
  unfold nmOut
  split
  · exact le4_lt r
  · omega
theorem nm_rest_size (r : ByteArray) (most : Int) : (nmRest r most).size ≤ r.size := by
  unfold nmRest
  split
  · rw [extract_size _ _ _ (Nat.le_refl _)]; omega
  · exact Nat.zero_le _
theorem nm_sane {r : ByteArray} {bad : Bool} (h : Sane r bad) (most : Int) : Sane (nmRest r most) (nmBad r bad most) := by
  intro hb
  cases ho : nmOk r most with
  | true =>
    rw [nm_bad_yes _ ho] at hb
    have := nm_rest_size r most
    have := h hb
    omega
  | false => rw [nm_rest_no ho]; rfl
/-- A text of at most so many bytes. -/
def txOut (r : ByteArray) (most : Int) : ByteArray := tkOut (nmRest r most) (nmOut r most)
def txRest (r : ByteArray) (most : Int) : ByteArray := tkRest (nmRest r most) (nmOut r most)
def txBad (r : ByteArray) (bad : Bool) (most : Int) : Bool := tkBad (nmRest r most) (nmBad r bad most) (nmOut r most)
theorem tx_sane {r : ByteArray} {bad : Bool} (h : Sane r bad) (most : Int) : Sane (txRest r most) (txBad r bad most) := tk_sane (nm_sane h most) _
theorem tx_out_size (r : ByteArray) (most : Int) : (txOut r most).size ≤ r.size := Nat.le_trans (tk_out_size _ _) (nm_rest_size _ _)
theorem tx_rest_size (r : ByteArray) (most : Int) : (txRest r most).size ≤ r.size := Nat.le_trans (tk_rest_size _ _) (nm_rest_size _ _)
/-- A sum's bytes. -/
def dgOut (r : ByteArray) (j : Nat) : UInt8 := if 32 ≤ r.size then byAt r j else 0
end Pn
end Go.Proofs.YtlechjpaldpgnaaGreatDoor
namespace Go.Proofs.YtlechjpaldpgnaaGreatDoor
open Go.Shelf Go.RowKit

def cloneRen : Go.Shelf.Ren := ⟨fun | 25 => 69 | n => n, fun | 0 => 0 | 3 => 3 | 4 => 4 | 5 => 5 | 9 => 9 | 37 => 92 | 47 => 134 | n => n, fun | n => n⟩
theorem cloneLays : Go.Proofs.LaysPu.n25 Tryz.prog cloneRen := {
  mixed := by kernel_rfl
  f25 := Tryz.func69.trans (congrArg some (by kernel_rfl))
  t0 := Tryz.underlying0
  a0 := Tryz.isAgg0
  z0 := Tryz.sizeOf0
  v0 := Tryz.zeroValue0
  i0 := by kernel_rfl
  t3 := Tryz.underlying3
  a3 := Tryz.isAgg3
  z3 := Tryz.sizeOf3
  v3 := Tryz.zeroValue3
  i3 := by kernel_rfl
  t4 := Tryz.underlying4
  a4 := Tryz.isAgg4
  z4 := Tryz.sizeOf4
  v4 := Tryz.zeroValue4
  i4 := by kernel_rfl
  t5 := Tryz.underlying5
  a5 := Tryz.isAgg5
  z5 := Tryz.sizeOf5
  v5 := Tryz.zeroValue5
  i5 := by kernel_rfl
  t9 := Tryz.underlying9
  a9 := Tryz.isAgg9
  z9 := Tryz.sizeOf9
  v9 := Tryz.zeroValue9
  i9 := by kernel_rfl
  t37 := Tryz.underlying92
  a37 := Tryz.isAgg92
  z37 := Tryz.sizeOf92
  v37 := Tryz.zeroValue92
  i37 := by kernel_rfl
  t47 := Tryz.underlying134
  a47 := Tryz.isAgg134
  z47 := Tryz.sizeOf134
  v47 := Tryz.zeroValue134
  i47 := by kernel_rfl }
theorem liteClone_any (s : ByteArray) (w : World) (h : s.size ≤ 281474976710656) :
    Calls Tryz.prog 69 #[.string s] w fun e w' => e = .returned (.string s) ∧ Below w.heap.size w w' := AnyPu.stringslite_Clone cloneLays s w h
theorem clone_any (s : ByteArray) (w : World) (h : s.size ≤ 281474976710656) :
    Calls Tryz.prog 41 #[.string s] w fun e w' => e = .returned (.string s) ∧ Below w.heap.size w w' := by
  have HH := Lib.hid h
  go_enter Tryz.func41, Tryz.ntmps41
  go_wp2_with (fail)
  refine (liteClone_any s w HH.out).mono ?_
  rintro e w' ⟨rfl, hb⟩
  go_wp2
  go_ret
  exact ⟨rfl, hb⟩
end Go.Proofs.YtlechjpaldpgnaaGreatDoor
namespace Go.Proofs.YtlechjpaldpgnaaGreatDoor
open Go.ChangeShapes Go.WideShapes Go.ChangeAt Go.RowKit Pn

def errOf (bad : Bool) : Int := if bad then 5 else 0
/-- An eye stands in block b: what is left, and whether something was wrong. -/
def EyeAt (w : World) (b : Nat) (r : ByteArray) (bad : Bool) : Prop := w.heap[b]? = some (.cells #[.string r, .int .i64 (errOf bad)] 190 (0, 0))
namespace EyeAt
variable {w w' : World} {b : Nat} {r : ByteArray} {bad : Bool}
theorem lt (h : EyeAt w b r bad) : b < w.heap.size := (Array.getElem?_eq_some_iff.1 h).1
theorem rest (h : EyeAt w b r bad) : w.cell? ⟨b, 0, none⟩ = some (.string r) := cell_of_row w b 0 _ _ _ h
theorem err (h : EyeAt w b r bad) : w.cell? ⟨b, 1, none⟩ = some (.int .i64 (errOf bad)) := cell_of_row w b 1 _ _ _ h
theorem fz (h : EyeAt w b r bad) (i : Nat) : w.frozen? ⟨b, i, none⟩ = false := frozen_of_row w b i _ _ h
theorem setRest (h : EyeAt w b r bad) (s : ByteArray) : EyeAt (w.setCell ⟨b, 0, none⟩ (.string s)) b s bad := heap_setCell_same w b 0 _ _ _ h
theorem setErr (h : EyeAt w b r bad) (n : Int) : (w.setCell ⟨b, 1, none⟩ (.int .i64 n)).heap[b]? = some (.cells #[.string r, .int .i64 n] 190 (0, 0)) := heap_setCell_same w b 1 _ _ _ h
theorem of_block (h : EyeAt w b r bad) (e : w'.heap[b]? = w.heap[b]?) : EyeAt w' b r bad := e.trans h
theorem drewN (h : EyeAt w b r bad) (n : Nat) : EyeAt (w.drewN n) b r bad := h
end EyeAt
/-- Behind a call on the eye in block b: what it answered, and what stands there. -/
def EyeSays (w : World) (b : Nat) (v : Value) (r : ByteArray) (bad : Bool) (e : Ending) (w' : World) : Prop := e = .returned v ∧ EyeAt w' b r bad ∧ Only w w' b

theorem eye_fail (w : World) (b : Nat) (r : ByteArray) (bad : Bool) (h : EyeAt w b r bad) :
    Calls Tryz.prog 116 #[.pointer (some ⟨b, 0, none⟩)] w (EyeSays w b (.tuple #[]) ⟨#[]⟩ true) := by
  have c0 := h.rest
  have c1 := h.err
  have f0 := h.fz 0
  have f1 := h.fz 1
  have H := Lib.hid h
  clear h
  go_enter Tryz.func116, Tryz.ntmps116
  go_wp2
  go_end0
  have h1 : EyeAt (w.setCell ⟨b, 0, none⟩ (.string ⟨#[]⟩)) b ⟨#[]⟩ bad := H.out.setRest _
  exact ⟨rfl, h1.setErr 5, ((Only.refl w b).setCell (.inl rfl) _).setCell (.inl rfl) _⟩

set_option maxRecDepth 100000 in
set_option maxHeartbeats 800000 in
theorem eye_take (w : World) (b : Nat) (r : ByteArray) (bad : Bool) (h : EyeAt w b r bad) (n : Nat) (hn : n < 4294967296) :
    Calls Tryz.prog 115 #[.pointer (some ⟨b, 0, none⟩), .int .i64 (n : Int)] w (EyeSays w b (.string (tkOut r n)) (tkRest r n) (tkBad r bad n)) := by
  have c0 := h.rest
  have f0 := h.fz 0
  have H := Lib.hid h
  clear h
  by_cases hlt : n ≤ r.size
  · have hi : ¬ (r.size : Int) < (n : Int) := by omega
    have h0 : 0 ≤ (n : Int) := by omega
    have h1 : (n : Int) ≤ (r.size : Int) := by omega
    have HO := Lib.hid (tk_out_yes hlt)
    have HR := Lib.hid (tk_rest_yes hlt)
    have HB := Lib.hid (tk_bad_yes bad hlt)
    go_enter Tryz.func115, Tryz.ntmps115
    go_wp2_with (fail)
    go_ret
    rw [HO.out, HR.out, HB.out]
    exact ⟨rfl, H.out.setRest _, (Only.refl w b).setCell (.inl rfl) _⟩
  · have hi : (r.size : Int) < (n : Int) := by omega
    have HO := Lib.hid (tk_out_no (r := r) (n := n) (by omega))
    have HR := Lib.hid (tk_rest_no (r := r) (n := n) (by omega))
    have HB := Lib.hid (tk_bad_no (r := r) (n := n) bad (by omega))
    go_enter Tryz.func115, Tryz.ntmps115
    go_wp2_with (fail)
    refine (eye_fail w b r bad H.out).mono ?_
    rintro e w' ⟨rfl, h1, h2⟩
    have H1 := Lib.hid h1
    clear h1
    go_wp2
    go_ret
    rw [HO.out, HR.out, HB.out]
    exact ⟨rfl, H1.out, h2⟩

theorem eye_of (s : ByteArray) (w : World) :
    Calls Tryz.prog 98 #[.string s] w fun e w' => e = .returned (.pointer (some ⟨w.heap.size, 0, none⟩)) ∧ EyeAt w' w.heap.size s false ∧ Below w.heap.size w w' := by
  go_enter Tryz.func98, Tryz.ntmps98
  go_wp2
  go_ret
  exact ⟨rfl, heap_alloc_new w _, (Below.refl _ _).alloc (Nat.le_refl _) _⟩
theorem size_pos {r : ByteArray} {n : Nat} (h : n ≤ r.size) (hn : 0 < n) : (tkOut r n).size = n := by rw [tk_out_yes h, extract_size _ _ _ h]; omega
theorem byAt_take (r : ByteArray) (n k : Nat) (h : k < n) : byAt (r.extract 0 n) k = byAt r k := by
  unfold byAt
  rw [ByteArray.data_extract, Array.toList_extract, List.extract_eq_take_drop, List.drop_zero]
  rw [List.getD_eq_getElem?_getD, List.getD_eq_getElem?_getD, List.getElem?_take, if_pos (by omega)]
theorem index_by (q : ByteArray) (k : Nat) (h : k < q.size) (n : Int) (hn : n = (k : Int)) (w : World) : (Instr.index 9 (.string q) (.int .i64 n)).run Tryz.prog w = .ok (.int .u8 ((byAt q k).toNat : Int)) w := by
  subst hn
  have hu := Tryz.underlying9
  have hb : q[k]? = some (byAt q k) := by
    unfold byAt
    rw [getElem?_pos q k h, List.getD_eq_getElem?_getD, List.getElem?_eq_getElem (show k < q.data.toList.length from h)]
    rfl
  simp [Instr.index, run_underlying hu, go_sem]
  rw [hb]
  rfl
theorem not_empty {q : ByteArray} (h : 0 < q.size) : q.toList.isEmpty = false := by
  rw [ByteArray.toList_eq]
  have : 0 < q.data.toList.length := h
  cases e : q.data.toList with
  | nil => rw [e] at this; cases this
  | cons => rfl
theorem val_u8 {a b : UInt8} (h : a = b) : Value.int .u8 (a.toNat : Int) = .int .u8 (b.toNat : Int) := by rw [h]
set_option maxRecDepth 100000 in
set_option maxHeartbeats 800000 in
theorem eye_byte (w : World) (b : Nat) (r : ByteArray) (bad : Bool) (h : EyeAt w b r bad) :
    Calls Tryz.prog 117 #[.pointer (some ⟨b, 0, none⟩)] w (EyeSays w b (.int .u8 ((byAt (tkOut r 1) 0).toNat : Int)) (tkRest r 1) (tkBad r bad 1)) := by
  have H := Lib.hid h
  clear h
  generalize hc : byAt (tkOut r 1) 0 = c
  have HC := Lib.hid hc
  clear hc
  by_cases h1 : 1 ≤ r.size
  · have hs := size_pos h1 (by omega)
    have hne := not_empty (q := tkOut r 1) (by omega)
    have hx : ∀ W, (Instr.index 9 (.string (tkOut r 1)) (.int .i64 0)).run Tryz.prog W = .ok (.int .u8 (c.toNat : Int)) W := fun W => (index_by (tkOut r 1) 0 (by omega) 0 rfl W).trans (by rw [HC.out])
    clear hs
    go_enter Tryz.func117, Tryz.ntmps117
    go_wp2_with (fail)
    refine (eye_take w b r bad H.out 1 (by omega)).mono ?_
    rintro e w' ⟨rfl, g1, g2⟩
    have G1 := Lib.hid g1
    clear g1
    generalize tkOut r 1 = q at hx hne ⊢
    go_wp2
    go_ret
    exact ⟨rfl, G1.out, g2⟩
  · have HO := Lib.hid (tk_out_no (r := r) (n := 1) (by omega))
    have hc : c = 0 := by rw [← HC.out, HO.out]; rfl
    subst hc
    go_enter Tryz.func117, Tryz.ntmps117
    go_wp2_with (fail)
    refine (eye_take w b r bad H.out 1 (by omega)).mono ?_
    rintro e w' ⟨rfl, g1, g2⟩
    have G1 := Lib.hid g1
    clear g1
    rw [HO.out]
    go_wp2
    go_ret
    exact ⟨rfl, G1.out, g2⟩
/-- The law's own spelling of a number in four bytes. -/
theorem le4_or (a b c d : Nat) (ha : a < 256) (hb : b < 256) (hc : c < 256) (hd : d < 256) :
    bits .or .i64 (bits .or .i64 (bits .or .i64 (a : Int) ((b : Int) * 256)) ((c : Int) * 65536)) ((d : Int) * 16777216) = ((a + 256 * b + 65536 * c + 16777216 * d : Nat) : Int) := by
  have e1 := or_val a (b * 256) (by omega) (by omega) 8 b (by omega) (by omega)
  have e2 := or_val (a + b * 256) (c * 65536) (by omega) (by omega) 16 c (by omega) (by omega)
  have e3 := or_val (a + b * 256 + c * 65536) (d * 16777216) (by omega) (by omega) 24 d (by omega) (by omega)
  simp only [Int.natCast_mul, Int.natCast_add, Int.cast_ofNat_Int] at e1 e2 e3 ⊢
  rw [e1, e2, e3]
  omega
set_option maxRecDepth 100000 in
set_option maxHeartbeats 1600000 in
theorem eye_num (w : World) (b : Nat) (r : ByteArray) (bad : Bool) (h : EyeAt w b r bad) (most : Int) :
    Calls Tryz.prog 99 #[.pointer (some ⟨b, 0, none⟩), .int .i64 most] w (EyeSays w b (.int .i64 (nmOut r most : Int)) (nmRest r most) (nmBad r bad most)) := by
  have H := Lib.hid h
  clear h
  by_cases h4 : 4 ≤ r.size
  · have hs := size_pos h4 (by omega)
    have hne := not_empty (q := tkOut r 4) (by omega)
    have hxi : ∀ (k : Nat) (K : Int), k < 4 → K = (k : Int) → ∀ W, (Instr.index 9 (.string (tkOut r 4)) (.int .i64 K)).run Tryz.prog W = .ok (.int .u8 ((byAt r k).toNat : Int)) W := fun k K hk hK W =>
      (index_by (tkOut r 4) k (by omega) K hK W).trans (by rw [tk_out_yes h4, byAt_take _ _ _ hk])
    have x0 := hxi 0 0 (by omega) rfl
    have x1 := hxi 1 1 (by omega) rfl
    have x2 := hxi 2 2 (by omega) rfl
    have x3 := hxi 3 3 (by omega) rfl
    have HL := Lib.hid (show le4 r = (byAt r 0).toNat + 256 * (byAt r 1).toNat + 65536 * (byAt r 2).toNat + 16777216 * (byAt r 3).toNat from rfl)
    have hor := le4_or (byAt r 0).toNat (byAt r 1).toNat (byAt r 2).toNat (byAt r 3).toNat (byAt r 0).toNat_lt (byAt r 1).toNat_lt (byAt r 2).toNat_lt (byAt r 3).toNat_lt
    rw [← HL.out] at hor
    have p0 : 0 ≤ ((byAt r 0).toNat : Int) := by omega
    have p1 : 0 ≤ ((byAt r 1).toNat : Int) := by omega
    have p2 : 0 ≤ ((byAt r 2).toNat : Int) := by omega
    have p3 : 0 ≤ ((byAt r 3).toNat : Int) := by omega
    have q0 : ((byAt r 0).toNat : Int) < 256 := by have := (byAt r 0).toNat_lt; omega
    have q1 : ((byAt r 1).toNat : Int) < 256 := by have := (byAt r 1).toNat_lt; omega
    have q2 : ((byAt r 2).toNat : Int) < 256 := by have := (byAt r 2).toNat_lt; omega
    have q3 : ((byAt r 3).toNat : Int) < 256 := by have := (byAt r 3).toNat_lt; omega
    clear hs hxi HL
    generalize ((byAt r 0).toNat : Int) = b0 at *
    generalize ((byAt r 1).toNat : Int) = b1 at *
    generalize ((byAt r 2).toNat : Int) = b2 at *
    generalize ((byAt r 3).toNat : Int) = b3 at *
    have HR4 := Lib.hid (tk_rest_yes h4)
    have HB4 := Lib.hid (tk_bad_yes bad h4)
    by_cases hm : (le4 r : Int) ≤ most
    · have HN := Lib.hid (nm_ok h4 hm)
      have hmi : ¬ most < (le4 r : Int) := by omega
      generalize hl : le4 r = l at hor hm hmi
      have HLL := Lib.hid hl
      clear hl
      go_enter Tryz.func99, Tryz.ntmps99
      go_wp2_with (fail)
      refine (eye_take w b r bad H.out 4 (by omega)).mono ?_
      rintro e w' ⟨rfl, g1, g2⟩
      have G1 := Lib.hid g1
      clear g1
      generalize tkOut r 4 = q at x0 x1 x2 x3 hne ⊢
      go_wp2
      go_quiet (fail)
      go_wp2
      go_ret
      rw [HN.out |> nm_out_yes, HN.out |> nm_rest_yes, nm_bad_yes bad HN.out, HLL.out]
      refine ⟨rfl, ?_, g2.drewN nq⟩
      have := G1.out
      rw [HR4.out, HB4.out] at this
      exact this
    · have HN := Lib.hid (nm_great hm)
      have hmi : most < (le4 r : Int) := by omega
      generalize hl : le4 r = l at hor hm hmi
      clear hl
      go_enter Tryz.func99, Tryz.ntmps99
      go_wp2_with (fail)
      refine (eye_take w b r bad H.out 4 (by omega)).mono ?_
      rintro e w' ⟨rfl, g1, g2⟩
      have G1 := Lib.hid g1
      clear g1
      generalize tkOut r 4 = q at x0 x1 x2 x3 hne ⊢
      go_wp2
      go_quiet (fail)
      go_wp2_with (fail)
      refine (eye_fail _ b _ _ (G1.out.drewN nq)).mono ?_
      rintro e w'' ⟨rfl, k1, k2⟩
      have K1 := Lib.hid k1
      clear k1
      go_wp2
      go_ret
      rw [nm_out_no HN.out, nm_rest_no HN.out, nm_bad_no bad HN.out]
      exact ⟨rfl, K1.out, (g2.drewN nq).trans k2⟩
  · have HO := Lib.hid (tk_out_no (r := r) (n := 4) (by omega))
    have HR4 := Lib.hid (tk_rest_no (r := r) (n := 4) (by omega))
    have HB4 := Lib.hid (tk_bad_no (r := r) (n := 4) bad (by omega))
    have HN := Lib.hid (nm_short (most := most) h4)
    go_enter Tryz.func99, Tryz.ntmps99
    go_wp2_with (fail)
    refine (eye_take w b r bad H.out 4 (by omega)).mono ?_
    rintro e w' ⟨rfl, g1, g2⟩
    rw [HR4.out, HB4.out] at g1
    have G1 := Lib.hid g1
    clear g1
    rw [HO.out]
    go_wp2
    go_ret
    rw [nm_out_no HN.out, nm_rest_no HN.out, nm_bad_no bad HN.out]
    exact ⟨rfl, G1.out, g2⟩

set_option maxRecDepth 100000 in
set_option maxHeartbeats 800000 in
theorem eye_text (w : World) (b : Nat) (r : ByteArray) (bad : Bool) (h : EyeAt w b r bad) (hr : r.size ≤ 281474976710656) (most : Int) :
    Calls Tryz.prog 118 #[.pointer (some ⟨b, 0, none⟩), .int .i64 most] w (EyeSays w b (.string (txOut r most)) (txRest r most) (txBad r bad most)) := by
  have H := Lib.hid h
  have HS := Lib.hid (Nat.le_trans (tx_out_size r most) hr)
  clear h hr
  go_enter Tryz.func118, Tryz.ntmps118
  go_wp2_with (fail)
  refine (eye_num w b r bad H.out most).mono ?_
  rintro e w1 ⟨rfl, g1, g2⟩
  have G1 := Lib.hid g1
  clear g1
  go_wp2_with (fail)
  refine (eye_take w1 b _ _ G1.out (nmOut r most) (nm_out_lt r most)).mono ?_
  rintro e w2 ⟨rfl, k1, k2⟩
  have K1 := Lib.hid k1
  clear k1
  go_wp2_with (fail)
  refine (clone_any _ w2 HS.out).mono ?_
  rintro e w3 ⟨rfl, hb⟩
  go_wp2
  go_ret
  exact ⟨rfl, K1.out.of_block (hb.block b K1.out.lt), (g2.trans k2).then_below hb⟩

set_option maxRecDepth 100000 in
set_option maxHeartbeats 800000 in
theorem eye_left (w : World) (b : Nat) (r : ByteArray) (bad : Bool) (h : EyeAt w b r bad) :
    Calls Tryz.prog 119 #[.pointer (some ⟨b, 0, none⟩)] w fun e w' => e = .returned (.int .i64 (r.size : Int)) ∧ w = w' := by
  have c0 := h.rest
  clear h
  go_enter Tryz.func119, Tryz.ntmps119
  go_wp2
  go_ret
  exact ⟨rfl, rfl⟩
set_option maxRecDepth 100000 in
set_option maxHeartbeats 800000 in
theorem eye_err (w : World) (b : Nat) (r : ByteArray) (bad : Bool) (h : EyeAt w b r bad) :
    Calls Tryz.prog 120 #[.pointer (some ⟨b, 0, none⟩)] w fun e w' => e = .returned (.int .i64 (errOf bad)) ∧ w = w' := by
  have c0 := h.err
  clear h
  go_enter Tryz.func120, Tryz.ntmps120
  go_wp2
  go_ret
  exact ⟨rfl, rfl⟩
def endOf (r : ByteArray) (bad : Bool) : Int := if 0 < r.size then 5 else errOf bad
set_option maxRecDepth 100000 in
set_option maxHeartbeats 800000 in
theorem eye_end (w : World) (b : Nat) (r : ByteArray) (bad : Bool) (h : EyeAt w b r bad) :
    Calls Tryz.prog 101 #[.pointer (some ⟨b, 0, none⟩)] w fun e w' => e = .returned (.int .i64 (endOf r bad)) ∧ w = w' := by
  have H := Lib.hid h
  clear h
  by_cases h0 : 0 < r.size
  · have h0i : (0 : Int) < (r.size : Int) := by omega
    have HE := Lib.hid (show endOf r bad = 5 from if_pos h0)
    go_enter Tryz.func101, Tryz.ntmps101
    go_wp2_with (fail)
    refine (eye_left w b r bad H.out).mono ?_
    rintro e w' ⟨rfl, rfl⟩
    go_wp2
    go_ret
    rw [HE.out]
    exact ⟨rfl, rfl⟩
  · have h0i : ¬ (0 : Int) < (r.size : Int) := by omega
    have HE := Lib.hid (show endOf r bad = errOf bad from if_neg h0)
    go_enter Tryz.func101, Tryz.ntmps101
    go_wp2_with (fail)
    refine (eye_left w b r bad H.out).mono ?_
    rintro e w' ⟨rfl, rfl⟩
    go_wp2_with (fail)
    refine (eye_err w b r bad H.out).mono ?_
    rintro e w' ⟨rfl, rfl⟩
    go_wp2
    go_ret
    rw [HE.out]
    exact ⟨rfl, rfl⟩
theorem nil_take (w : World) (n : Int) : Calls Tryz.prog 115 #[.pointer none, .int .i64 n] w fun e w' => e = .returned (.string ⟨#[]⟩) ∧ w = w' := by
  go_enter Tryz.func115, Tryz.ntmps115
  go_wp2
  go_ret
  exact ⟨rfl, rfl⟩
theorem nil_byte (w : World) : Calls Tryz.prog 117 #[.pointer none] w fun e w' => e = .returned (.int .u8 0) ∧ w = w' := by
  go_enter Tryz.func117, Tryz.ntmps117
  go_wp2_with (fail)
  refine (nil_take w 1).mono ?_
  rintro e w' ⟨rfl, rfl⟩
  go_wp2
  go_ret
  exact ⟨rfl, rfl⟩
theorem nil_num (w : World) (n : Int) : Calls Tryz.prog 99 #[.pointer none, .int .i64 n] w fun e w' => e = .returned (.int .i64 0) ∧ w = w' := by
  go_enter Tryz.func99, Tryz.ntmps99
  go_wp2_with (fail)
  refine (nil_take w 4).mono ?_
  rintro e w' ⟨rfl, rfl⟩
  go_wp2
  go_ret
  exact ⟨rfl, rfl⟩
theorem nil_text (w : World) (n : Int) : Calls Tryz.prog 118 #[.pointer none, .int .i64 n] w fun e w' => e = .returned (.string ⟨#[]⟩) ∧ Below w.heap.size w w' := by
  go_enter Tryz.func118, Tryz.ntmps118
  go_wp2_with (fail)
  refine (nil_num w n).mono ?_
  rintro e w' ⟨rfl, rfl⟩
  go_wp2_with (fail)
  refine (nil_take w 0).mono ?_
  rintro e w' ⟨rfl, rfl⟩
  go_wp2_with (fail)
  refine (clone_any _ w (by show (0 : Nat) ≤ _; omega)).mono ?_
  rintro e w' ⟨rfl, hb⟩
  go_wp2
  go_ret
  exact ⟨rfl, hb⟩
theorem nil_left (w : World) : Calls Tryz.prog 119 #[.pointer none] w fun e w' => e = .returned (.int .i64 0) ∧ w = w' := by
  go_enter Tryz.func119, Tryz.ntmps119
  go_wp2
  go_ret
  exact ⟨rfl, rfl⟩
theorem nil_err (w : World) : Calls Tryz.prog 120 #[.pointer none] w fun e w' => e = .returned (.int .i64 2) ∧ w = w' := by
  go_enter Tryz.func120, Tryz.ntmps120
  go_wp2
  go_ret
  exact ⟨rfl, rfl⟩
theorem nil_end (w : World) : Calls Tryz.prog 101 #[.pointer none] w fun e w' => e = .returned (.int .i64 2) ∧ w = w' := by
  go_enter Tryz.func101, Tryz.ntmps101
  go_wp2_with (fail)
  refine (nil_left w).mono ?_
  rintro e w' ⟨rfl, rfl⟩
  go_wp2_with (fail)
  refine (nil_err w).mono ?_
  rintro e w' ⟨rfl, rfl⟩
  go_wp2
  go_ret
  exact ⟨rfl, rfl⟩
end Go.Proofs.YtlechjpaldpgnaaGreatDoor
namespace Go.Proofs.YtlechjpaldpgnaaGreatDoor
open Go.ChangeShapes Go.WideShapes Go.ChangeAt Go.RowKit Pn

namespace Pn
/-- How many bytes the pieces have. -/
def total : List ByteArray → Nat
  | [] => 0
  | q :: r => q.size + total r
/-- The bytes of pieces, the newest of which is the first. -/
def penL : List ByteArray → List UInt8
  | [] => []
  | q :: r => penL r ++ q.data.toList
theorem penL_length (l : List ByteArray) : (penL l).length = total l := by
  induction l with
  | nil => rfl
  | cons q r ih =>
    have : q.data.toList.length = q.size := rfl
    simp only [penL, total, List.length_append, ih, this]
    omega
end Pn
/-- The pieces that stand behind an address, none in the pen's own block. -/
def Chain (w : World) (p : Nat) : Option Addr → List ByteArray → Prop
  | a, [] => a = none
  | a, q :: r => ∃ g ah, a = some ⟨g, 0, none⟩ ∧ g ≠ p ∧ w.heap[g]? = some (.cells #[.pointer ah, .string q, .int .i64 (total (q :: r) : Int)] 163 (0, 0)) ∧ Chain w p ah r
theorem Chain.only {w w' : World} {p : Nat} (ho : Only w w' p) : ∀ {l : List ByteArray} {a : Option Addr}, Chain w p a l → Chain w' p a l
  | [], _, h => h
  | _ :: _, _, ⟨g, ah, e, hg, hb, hr⟩ => ⟨g, ah, e, hg, (ho.block g (Array.getElem?_eq_some_iff.1 hb).1 hg).trans hb, hr.only ho⟩
/-- A pen's own block. -/
def PenHd (w : World) (p : Nat) (last : Option Addr) (bad : Bool) : Prop := w.heap[p]? = some (.cells #[.pointer last, .bool bad] 117 (0, 0))
namespace PenHd
variable {w w' : World} {p : Nat} {last : Option Addr} {bad : Bool}
theorem lt (h : PenHd w p last bad) : p < w.heap.size := (Array.getElem?_eq_some_iff.1 h).1
theorem last0 (h : PenHd w p last bad) : w.cell? ⟨p, 0, none⟩ = some (.pointer last) := cell_of_row w p 0 _ _ _ h
theorem bad1 (h : PenHd w p last bad) : w.cell? ⟨p, 1, none⟩ = some (.bool bad) := cell_of_row w p 1 _ _ _ h
theorem fz (h : PenHd w p last bad) (i : Nat) : w.frozen? ⟨p, i, none⟩ = false := frozen_of_row w p i _ _ h
theorem setLast (h : PenHd w p last bad) (a : Option Addr) : PenHd (w.setCell ⟨p, 0, none⟩ (.pointer a)) p a bad := heap_setCell_same w p 0 _ _ _ h
theorem setBad (h : PenHd w p last bad) (x : Bool) : PenHd (w.setCell ⟨p, 1, none⟩ (.bool x)) p last x := heap_setCell_same w p 1 _ _ _ h
theorem of_block (h : PenHd w p last bad) (e : w'.heap[p]? = w.heap[p]?) : PenHd w' p last bad := e.trans h
theorem below (h : PenHd w p last bad) (hb : Below w.heap.size w w') : PenHd w' p last bad := h.of_block (hb.block p h.lt)
end PenHd
/-- A pen stands in block p: its pieces, and whether a number couldn't be. -/
def PenAt (w : World) (p : Nat) (l : List ByteArray) (bad : Bool) : Prop := ∃ last, PenHd w p last bad ∧ Chain w p last l
namespace PenAt
variable {w w' : World} {p : Nat} {l : List ByteArray} {bad : Bool}
theorem lt (h : PenAt w p l bad) : p < w.heap.size := by obtain ⟨_, h, _⟩ := h; exact h.lt
theorem below (h : PenAt w p l bad) (hb : Below w.heap.size w w') : PenAt w' p l bad := by
  obtain ⟨a, h1, h2⟩ := h
  exact ⟨a, h1.below hb, h2.only (Only.of_below hb p)⟩
theorem other (h : PenAt w p l bad) {b : Nat} (ho : Only w w' b) (hne : p ≠ b) (hl : ∀ a, Chain w p a l → Chain w' p a l) : PenAt w' p l bad := by
  obtain ⟨a, h1, h2⟩ := h
  exact ⟨a, h1.of_block (ho.block p h1.lt hne), hl a h2⟩
end PenAt
theorem pen_new (w : World) (p : Nat) (h : w.heap[p]? = some (.cells #[.pointer none, .bool false] 117 (0, 0))) : PenAt w p [] false := ⟨none, h, rfl⟩
def PenSays (w : World) (p : Nat) (v : Value) (l : List ByteArray) (bad : Bool) (e : Ending) (w' : World) : Prop := e = .returned v ∧ PenAt w' p l bad ∧ Only w w' p

set_option maxRecDepth 100000 in
set_option maxHeartbeats 1600000 in
theorem pen_write (w : World) (p : Nat) (l : List ByteArray) (bad : Bool) (h : PenAt w p l bad) (A : Option Addr) (n cap : Nat) (q : ByteArray) (hn : n = q.size) (ht : total (q :: l) < 1099511627776)
    (hc : ∀ W : World, W.heap = w.heap → (convert 92 9 (.slice A n cap)).run Tryz.prog W = .ok (.string q) W) :
    Calls Tryz.prog 87 #[.pointer (some ⟨p, 0, none⟩), .slice A n cap] w (PenSays w p (.tuple #[]) (q :: l) bad) := by
  obtain ⟨last, hh, hch⟩ := h
  have hp := hh.lt
  have hcv := hc w.drew rfl
  have HN := Lib.hid hn
  have HT := Lib.hid ht
  cases l with
  | nil =>
    obtain rfl : last = none := hch
    have c0 := hh.last0
    have f0 := hh.fz 0
    have HH := Lib.hid hh
    clear hc hh hn ht
    go_enter Tryz.func87, Tryz.ntmps87
    go_wp2_with (fail)
    go_still_tail 9, (by kernel_rfl)
    change wpList _ _ _ _ _ w.drew
    have hcd : w.drew.cell? ⟨p, 0, none⟩ = some (.pointer none) := c0
    have hfd : w.drew.frozen? ⟨p, 0, none⟩ = false := f0
    have HHd : Hid (PenHd w.drew p none bad) := HH
    have hpd : p < w.drew.heap.size := hp
    have HOd := Lib.hid ((Only.refl w p).drew)
    clear c0 f0 HH hp hcv
    generalize w.drew = w1 at hcd hfd HHd hpd HOd ⊢
    go_wp2
    go_end0
    have e : (w1.setCell ⟨p, 0, none⟩ (.pointer (some ⟨w1.heap.size, 0, none⟩))).heap.size = w1.heap.size := by simp [World.setCell]
    refine ⟨rfl, ⟨some ⟨w1.heap.size, 0, none⟩, ?_, w1.heap.size, none, rfl, by omega, ?_, rfl⟩, (HOd.out.setCell (.inl rfl) _).alloc _⟩
    · exact (HHd.out.setLast _).of_block (heap_alloc_old _ _ (by rw [e]; exact hpd))
    · have := heap_alloc_new (w1.setCell ⟨p, 0, none⟩ (.pointer (some ⟨w1.heap.size, 0, none⟩))) (.cells #[.pointer none, .string q, .int .i64 (n : Int)] 163)
      rw [e] at this
      rw [this, HN.out]
      rfl
  | cons q0 r =>
    obtain ⟨g, ah, rfl, hg, hb, hr⟩ := hch
    have c0 := hh.last0
    have f0 := hh.fz 0
    have cg : w.cell? ⟨g, 2, none⟩ = some (.int .i64 (total (q0 :: r) : Int)) := cell_of_row w g 2 _ _ _ hb
    have hgl : g < w.heap.size := (Array.getElem?_eq_some_iff.1 hb).1
    have HH := Lib.hid hh
    have HCH := Lib.hid (show Chain w p (some ⟨g, 0, none⟩) (q0 :: r) from ⟨g, ah, rfl, hg, hb, hr⟩)
    have e0 : IntKind.i64.wrap ((n : Int) + (total (q0 :: r) : Int)) = (n : Int) + (total (q0 :: r) : Int) := IntWalk.i64_in _ (by simp only [total] at ht; simp only [total]; omega)
    have HS := Lib.hid (show (n : Int) + (total (q0 :: r) : Int) = (total (q :: q0 :: r) : Int) by rw [hn]; simp only [total]; omega)
    clear hc hh hb hr hn ht
    generalize (total (q0 :: r) : Int) = T0 at cg e0 HS
    go_enter Tryz.func87, Tryz.ntmps87
    go_wp2_with (fail)
    go_still_tail 9, (by kernel_rfl)
    change wpList _ _ _ _ _ w.drew
    have hcd : w.drew.cell? ⟨p, 0, none⟩ = some (.pointer (some ⟨g, 0, none⟩)) := c0
    have hfd : w.drew.frozen? ⟨p, 0, none⟩ = false := f0
    have hgd : w.drew.cell? ⟨g, 2, none⟩ = some (.int .i64 T0) := cg
    have HHd : Hid (PenHd w.drew p (some ⟨g, 0, none⟩) bad) := HH
    have hpd : p < w.drew.heap.size := hp
    have hgld : g < w.drew.heap.size := hgl
    have HOd := Lib.hid ((Only.refl w p).drew)
    have hsz : w.heap.size ≤ w.drew.heap.size := Nat.le_refl _
    clear c0 f0 cg HH hp hgl hcv
    generalize w.drew = w1 at hcd hfd hgd HHd hpd hgld HOd hsz ⊢
    go_wp2
    refine gen_world (fun wr => PenHd wr p (some ⟨g, 0, none⟩) bad ∧ wr.cell? ⟨g, 2, none⟩ = some (.int .i64 T0) ∧ wr.heap[w1.heap.size]? = some (.cells #[.pointer (some ⟨g, 0, none⟩), .string q, .int .i64 (n : Int)] 163 (0, 0)) ∧ Only w wr p) ?_ ?_
    · exact ⟨HHd.out.of_block (heap_alloc_old w1 _ hpd), by rw [World.cell?_alloc_lt _ _ _ hgld]; exact hgd, heap_alloc_new w1 _, HOd.out.alloc _⟩
    rintro wr ⟨h1, h2, h3, h4⟩
    have d0 : wr.drew.cell? ⟨p, 0, none⟩ = some (.pointer (some ⟨g, 0, none⟩)) := h1.last0
    have d1 : wr.drew.frozen? ⟨p, 0, none⟩ = false := h1.fz 0
    have d2 : wr.drew.cell? ⟨g, 2, none⟩ = some (.int .i64 T0) := h2
    have d3 : wr.drew.cell? ⟨w1.heap.size, 2, none⟩ = some (.int .i64 (n : Int)) := cell_of_row wr w1.heap.size 2 _ _ _ h3
    have d4 : wr.drew.frozen? ⟨w1.heap.size, 2, none⟩ = false := frozen_of_row wr w1.heap.size 2 _ _ h3
    have k0 : wr.cell? ⟨p, 0, none⟩ = some (.pointer (some ⟨g, 0, none⟩)) := h1.last0
    have k2 : wr.cell? ⟨g, 2, none⟩ = some (.int .i64 T0) := h2
    have k3 : wr.cell? ⟨w1.heap.size, 2, none⟩ = some (.int .i64 (n : Int)) := cell_of_row wr w1.heap.size 2 _ _ _ h3
    have H1 := Lib.hid (show PenHd wr.drew p (some ⟨g, 0, none⟩) bad from h1)
    have H3 := Lib.hid (show wr.drew.heap[w1.heap.size]? = some (.cells #[.pointer (some ⟨g, 0, none⟩), .string q, .int .i64 (n : Int)] 163 (0, 0)) from h3)
    have H4 := Lib.hid h4.drew
    clear h1 h2 h3 h4 hcd hfd hgd
    go_still_tail 14, (by kernel_rfl)
    change wpList _ _ _ _ _ wr.drew
    clear k0 k2 k3
    generalize wr.drew = w2 at d0 d1 d2 d3 d4 H1 H3 H4 ⊢
    have hne : (⟨w1.heap.size, 2, none⟩ : Addr) ≠ ⟨p, 0, none⟩ := fun e => by injection e with e; omega
    go_wp2
    go_end0
    refine ⟨rfl, ⟨some ⟨w1.heap.size, 0, none⟩, ?_, w1.heap.size, some ⟨g, 0, none⟩, rfl, by omega, ?_, ?_⟩, ?_⟩
    · have h1 : PenHd (w2.setCell ⟨w1.heap.size, 2, none⟩ (.int .i64 ((n : Int) + T0))) p (some ⟨g, 0, none⟩) bad := H1.out.of_block (heap_setCell_other _ _ _ _ (by show p ≠ w1.heap.size; omega))
      exact h1.setLast _
    · rw [heap_setCell_other _ _ _ _ (by show w1.heap.size ≠ p; omega), heap_setCell_same _ _ _ _ _ _ H3.out, HS.out]
      rfl
    · exact HCH.out.only ((H4.out.setCell (.inr hsz) _).setCell (.inl rfl) _)
    · exact (H4.out.setCell (.inr hsz) _).setCell (.inl rfl) _

theorem pen_write_nil (w : World) (v : Value) : Calls Tryz.prog 87 #[.pointer none, v] w fun e w' => e = .returned (.tuple #[]) ∧ w = w' := by
  go_enter Tryz.func87, Tryz.ntmps87
  go_wp2
  exact bodyPost_ret (results_none rfl _ _ _) rfl ⟨rfl, rfl⟩
theorem pen_spoil (w : World) (p : Nat) (last : Option Addr) (bad : Bool) (h : PenHd w p last bad) :
    Calls Tryz.prog 110 #[.pointer (some ⟨p, 0, none⟩)] w fun e w' => e = .returned (.tuple #[]) ∧ PenHd w' p last true ∧ Only w w' p := by
  have c1 := h.bad1
  have f1 := h.fz 1
  have H := Lib.hid h
  clear h
  go_enter Tryz.func110, Tryz.ntmps110
  go_wp2
  go_end0
  exact ⟨rfl, H.out.setBad true, (Only.refl w p).setCell (.inl rfl) _⟩
theorem pen_spoil_nil (w : World) : Calls Tryz.prog 110 #[.pointer none] w fun e w' => e = .returned (.tuple #[]) ∧ w = w' := by
  go_enter Tryz.func110, Tryz.ntmps110
  go_wp2
  go_end0
  exact ⟨rfl, rfl⟩

namespace Pn
/-- Whether a number can be; the one whose bytes are written; its bytes. -/
def numOk (n : Int) : Bool := decide (0 ≤ n) && decide (n ≤ 4294967295)
def numV (n : Int) : Nat := if numOk n then n.toNat else 0
def numF (n : Int) (j : Nat) : UInt8 := UInt8.ofNat (numV n / 256 ^ j)
def numL (n : Int) : List UInt8 := (List.range 4).map (numF n)
theorem num_ok {n : Int} (h0 : 0 ≤ n) (h1 : n ≤ 4294967295) : numOk n = true := by unfold numOk; rw [decide_eq_true h0, decide_eq_true h1]; rfl
theorem num_neg {n : Int} (h0 : ¬ 0 ≤ n) : numOk n = false := by unfold numOk; rw [decide_eq_false h0]; rfl
theorem num_great {n : Int} (h1 : ¬ n ≤ 4294967295) : numOk n = false := by unfold numOk; rw [decide_eq_false h1, Bool.and_false]
theorem numV_ok {n : Int} (h : numOk n = true) : (numV n : Int) = n := by
  have : 0 ≤ n := by unfold numOk at h; simp at h; exact h.1
  unfold numV; rw [if_pos h]; omega
theorem numV_no {n : Int} (h : numOk n = false) : numV n = 0 := by unfold numV; rw [h]; rfl
theorem numL_length (n : Int) : (numL n).length = 4 := by simp [numL]
theorem numF_val (n : Int) (j : Nat) : ((numF n j).toNat : Int) = (numV n : Int) / ((256 ^ j : Nat) : Int) % 256 := by
  unfold numF
  rw [UInt8.toNat_ofNat', ← Int.natCast_ediv]
  omega
end Pn
/-- Four new bytes. -/
def Four (w : World) (f : Nat → UInt8) (e : Ending) (w' : World) : Prop :=
  ∃ g, e = .returned (.slice (some ⟨g, 0, none⟩) 4 4) ∧ w.heap.size ≤ g ∧ w'.heap[g]? = some (.cells #[.int .u8 ((f 0).toNat : Int), .int .u8 ((f 1).toNat : Int), .int .u8 ((f 2).toNat : Int), .int .u8 ((f 3).toNat : Int)] 5 (0, 0))
set_option maxRecDepth 100000 in
set_option maxHeartbeats 800000 in
theorem pen_number (w : World) (p : Nat) (last : Option Addr) (bad : Bool) (h : PenHd w p last bad) (n : Int) :
    Calls Tryz.prog 86 #[.pointer (some ⟨p, 0, none⟩), .int .i64 n] w fun e w' => Four w (numF n) e w' ∧ PenHd w' p last (bad || !numOk n) ∧ Only w w' p := by
  have hp := h.lt
  have H := Lib.hid h
  clear h
  have v0 := numF_val n 0
  have v1 := numF_val n 1
  have v2 := numF_val n 2
  have v3 := numF_val n 3
  simp only [Nat.pow_zero, Nat.pow_one, Int.ediv_one, Nat.reducePow, Int.cast_ofNat_Int] at v0 v1 v2 v3
  by_cases h0 : 0 ≤ n
  · by_cases h1 : n ≤ 4294967295
    · have HK := Lib.hid (num_ok h0 h1)
      have hv := numV_ok HK.out
      rw [hv] at v0 v1 v2 v3
      have n0 : ¬ n < 0 := by omega
      have n1 : ¬ 4294967295 < n := by omega
      have V0 := Lib.hid v0
      have V1 := Lib.hid v1
      have V2 := Lib.hid v2
      have V3 := Lib.hid (show ((numF n 3).toNat : Int) = n / 16777216 by omega)
      clear v0 v1 v2 v3 hv
      go_enter Tryz.func86, Tryz.ntmps86
      go_wp2
      go_ret
      refine ⟨⟨_, rfl, Nat.le_refl _, ?_⟩, ?_, (Only.refl w p).alloc _⟩
      · rw [heap_alloc_new, V0.out, V1.out, V2.out, V3.out]
      · have := H.out.of_block (heap_alloc_old w (.cells #[.int .u8 (n % 256), .int .u8 (n / 256 % 256), .int .u8 (n / 65536 % 256), .int .u8 (n / 16777216)] 5) hp)
        rw [HK.out]
        simpa using this
    · have HK := Lib.hid (num_great h1)
      have hv := numV_no HK.out
      rw [hv] at v0 v1 v2 v3
      have n0 : ¬ n < 0 := by omega
      have n1 : 4294967295 < n := by omega
      have V0 := Lib.hid (show ((numF n 0).toNat : Int) = 0 by omega)
      have V1 := Lib.hid (show ((numF n 1).toNat : Int) = 0 by omega)
      have V2 := Lib.hid (show ((numF n 2).toNat : Int) = 0 by omega)
      have V3 := Lib.hid (show ((numF n 3).toNat : Int) = 0 by omega)
      clear v0 v1 v2 v3 hv
      go_enter Tryz.func86, Tryz.ntmps86
      go_wp2_with (fail)
      refine (pen_spoil w p last bad H.out).mono ?_
      rintro e w' ⟨rfl, h2, h3⟩
      have H2 := Lib.hid h2
      clear h2
      go_wp2
      go_ret
      refine ⟨⟨_, rfl, h3.size, ?_⟩, ?_, h3.alloc _⟩
      · rw [heap_alloc_new, V0.out, V1.out, V2.out, V3.out]
      · rw [HK.out, Bool.not_false, Bool.or_true]
        exact H2.out.of_block (heap_alloc_old w' _ H2.out.lt)
  · have HK := Lib.hid (num_neg h0)
    have hv := numV_no HK.out
    rw [hv] at v0 v1 v2 v3
    have n0 : n < 0 := by omega
    have V0 := Lib.hid (show ((numF n 0).toNat : Int) = 0 by omega)
    have V1 := Lib.hid (show ((numF n 1).toNat : Int) = 0 by omega)
    have V2 := Lib.hid (show ((numF n 2).toNat : Int) = 0 by omega)
    have V3 := Lib.hid (show ((numF n 3).toNat : Int) = 0 by omega)
    clear v0 v1 v2 v3 hv
    go_enter Tryz.func86, Tryz.ntmps86
    go_wp2_with (fail)
    refine (pen_spoil w p last bad H.out).mono ?_
    rintro e w' ⟨rfl, h2, h3⟩
    have H2 := Lib.hid h2
    clear h2
    go_wp2
    go_ret
    refine ⟨⟨_, rfl, h3.size, ?_⟩, ?_, h3.alloc _⟩
    · rw [heap_alloc_new, V0.out, V1.out, V2.out, V3.out]
    · rw [HK.out, Bool.not_false, Bool.or_true]
      exact H2.out.of_block (heap_alloc_old w' _ H2.out.lt)
set_option maxRecDepth 100000 in
set_option maxHeartbeats 800000 in
theorem pen_number_nil (w : World) (n : Int) :
    Calls Tryz.prog 86 #[.pointer none, .int .i64 n] w fun e w' => Four w (numF n) e w' ∧ Below w.heap.size w w' := by
  have v0 := numF_val n 0
  have v1 := numF_val n 1
  have v2 := numF_val n 2
  have v3 := numF_val n 3
  simp only [Nat.pow_zero, Nat.pow_one, Int.ediv_one, Nat.reducePow, Int.cast_ofNat_Int] at v0 v1 v2 v3
  cases hk : numOk n with
  | true =>
    have hv := numV_ok hk
    rw [hv] at v0 v1 v2 v3
    have hk2 : 0 ≤ n ∧ n ≤ 4294967295 := by unfold numOk at hk; simpa using hk
    have n0 : ¬ n < 0 := by omega
    have n1 : ¬ 4294967295 < n := by omega
    obtain ⟨h0, h1⟩ := hk2
    have V0 := Lib.hid v0
    have V1 := Lib.hid v1
    have V2 := Lib.hid v2
    have V3 := Lib.hid (show ((numF n 3).toNat : Int) = n / 16777216 by omega)
    clear v0 v1 v2 v3 hv hk
    go_enter Tryz.func86, Tryz.ntmps86
    go_wp2
    go_ret
    refine ⟨⟨_, rfl, Nat.le_refl _, ?_⟩, (Below.refl _ _).alloc (Nat.le_refl _) _⟩
    rw [heap_alloc_new, V0.out, V1.out, V2.out, V3.out]
  | false =>
    have hv := numV_no hk
    rw [hv] at v0 v1 v2 v3
    have hk2 : n < 0 ∨ 4294967295 < n := by
      unfold numOk at hk
      simp only [Bool.and_eq_false_iff, decide_eq_false_iff_not] at hk
      omega
    have V0 := Lib.hid (show ((numF n 0).toNat : Int) = 0 by omega)
    have V1 := Lib.hid (show ((numF n 1).toNat : Int) = 0 by omega)
    have V2 := Lib.hid (show ((numF n 2).toNat : Int) = 0 by omega)
    have V3 := Lib.hid (show ((numF n 3).toNat : Int) = 0 by omega)
    clear v0 v1 v2 v3 hv hk
    rcases hk2 with n0 | n1
    · go_enter Tryz.func86, Tryz.ntmps86
      go_wp2_with (fail)
      refine (pen_spoil_nil w).mono ?_
      rintro e w' ⟨rfl, rfl⟩
      go_wp2
      go_ret
      refine ⟨⟨_, rfl, Nat.le_refl _, ?_⟩, (Below.refl _ _).alloc (Nat.le_refl _) _⟩
      rw [heap_alloc_new, V0.out, V1.out, V2.out, V3.out]
    · have n0 : ¬ n < 0 := by omega
      go_enter Tryz.func86, Tryz.ntmps86
      go_wp2_with (fail)
      refine (pen_spoil_nil w).mono ?_
      rintro e w' ⟨rfl, rfl⟩
      go_wp2
      go_ret
      refine ⟨⟨_, rfl, Nat.le_refl _, ?_⟩, (Below.refl _ _).alloc (Nat.le_refl _) _⟩
      rw [heap_alloc_new, V0.out, V1.out, V2.out, V3.out]
end Go.Proofs.YtlechjpaldpgnaaGreatDoor
namespace Go.Proofs.YtlechjpaldpgnaaGreatDoor
open Go.ChangeShapes Go.WideShapes Go.ChangeAt Go.RowKit Pn

theorem infoB : (Tryz.prog.info? 5).map (fun i => (i.zero, i.size, i.bytes)) = some (some (.int .u8 0), 1, 1) := by kernel_rfl
def bcells (l : List UInt8) : List Value := l.map fun b => Value.int .u8 (b.toNat : Int)
theorem bcells_length (l : List UInt8) : (bcells l).length = l.length := by simp [bcells]
theorem bcells_append (l m : List UInt8) : bcells (l ++ m) = bcells l ++ bcells m := by simp [bcells]
theorem bcells_one (l : List UInt8) : ∀ u ∈ bcells l, u.oneCell' = true := by
  intro u hu
  obtain ⟨b, _, rfl⟩ := List.mem_map.1 hu
  rfl
theorem bcells_text (s : ByteArray) : Lib.strCells s = bcells s.data.toList := rfl
theorem bcells_get (l : List UInt8) (j : Nat) (h : j < l.length) : (bcells l)[j]? = some (.int .u8 ((l.getD j 0).toNat : Int)) := by
  unfold bcells
  rw [List.getElem?_map, List.getElem?_eq_getElem h, List.getD_eq_getElem?_getD, List.getElem?_eq_getElem h]
  rfl
theorem Only.grown {w w1 w2 : World} {p : Nat} {row : Option Nat} (h : Only w w1 p) (hg : w1.grownBy w2 row) (hr : ∀ k, row = some k → w.heap.size ≤ k) : Only w w2 p :=
  ⟨hg.os.trans h.os, hg.tape.trans h.tape, hg.output.trans h.output, Nat.le_trans h.size hg.size, fun i hi hp =>
    (hg.block i (Nat.lt_of_lt_of_le hi h.size) (fun e => by have := hr i e.symm; omega)).trans (h.block i hi hp)⟩
theorem own_only {w w' : World} {base : Nat} {e : TypeId} {size n : Nat} {v : Value} {xs : List Value} {p : Nat} (h : w.ownsRow base e size v n xs) (ho : Only w w' p) (hp : p < base) : w'.ownsRow base e size v n xs := by
  refine ⟨h.1, ?_⟩
  rcases h.2 with hn | ⟨g, cap, cur, hv, hb, hg, r⟩
  · exact .inl hn
  · exact .inr ⟨g, cap, cur, hv, hb, (ho.block g (Array.getElem?_eq_some_iff.1 hg).1 (by omega)).trans hg, r⟩
theorem own_form {w : World} {base : Nat} {e : TypeId} {size n : Nat} {v : Value} {xs : List Value} (h : w.ownsRow base e size v n xs) (hv : v ≠ .slice none 0 0) : ∃ g cap, v = .slice (some ⟨g, 0, none⟩) n cap ∧ base ≤ g := by
  rcases h.2 with ⟨hn, _⟩ | ⟨g, cap, cur, rfl, hb, _⟩
  · exact absurd hn hv
  · exact ⟨g, cap, rfl, hb⟩
theorem foldl_pushP (ns : List UInt8) : ∀ r : ByteArray, ns.foldl (fun r b => r.push b) r = ⟨(r.data.toList ++ ns).toArray⟩ := by
  induction ns with
  | nil => intro r; simp
  | cons a ns ih =>
    intro r
    rw [List.foldl_cons, ih]
    simp [ByteArray.push]
theorem foldl_pushP_int (ns : List UInt8) (r : ByteArray) : (ns.map fun b => (b.toNat : Int)).foldl (fun r n => r.push (UInt8.ofNat n.toNat)) r = ns.foldl (fun r b => r.push b) r := by
  rw [List.foldl_map]
  congr 1
  funext r b
  rw [Int.toNat_natCast, UInt8.ofNat_toNat]
/-- A slice of bytes as a string. -/
theorem run_text (w : World) (a : Addr) (n cap : Nat) (l : List UInt8) (hn : n = l.length) (h : ∀ j u, (bcells l)[j]? = some u → w.cell? (a.add j) = some u) :
    (convert 92 9 (.slice (some a) n cap)).run Tryz.prog w = .ok (.string ⟨l.toArray⟩) w := by
  subst hn
  rw [run_convert_bytes_string w _ _ 5 _ l.length cap Tryz.underlying92 Tryz.underlying5 Tryz.underlying9]
  have hl := run_loadCells_list (P := Tryz.prog) w a (bcells l) h
  have e : bcells l = (l.map fun b => (b.toNat : Int)).map (Value.int .u8) := by simp [bcells, List.map_map, Function.comp_def]
  rw [bcells_length] at hl
  rw [e] at hl
  rw [run_bytesToString w a l.length cap (l.map fun b => (b.toNat : Int)) hl, foldl_pushP_int, foldl_pushP]
  simp
theorem run_text_nil (w : World) : (convert 92 9 (.slice none 0 0)).run Tryz.prog w = .ok (.string ⟨#[]⟩) w := by
  rw [run_convert_bytes_string w _ _ 5 _ 0 0 Tryz.underlying92 Tryz.underlying5 Tryz.underlying9]
  rfl
theorem own_text {w : World} {base : Nat} {v : Value} {l : List UInt8} {g n cap : Nat} (h : w.ownsRow base 5 1 v n (bcells l)) (hv : v = .slice (some ⟨g, 0, none⟩) n cap) :
    ∀ W : World, W.heap = w.heap → (convert 92 9 (.slice (some ⟨g, 0, none⟩) n cap)).run Tryz.prog W = .ok (.string ⟨l.toArray⟩) W := fun W hW => by
  have hn : n = l.length := by have := h.1; rw [bcells_length] at this; omega
  refine run_text W _ n cap l hn fun j u hj => ?_
  have := h.cells (g := g) (by rw [hv]; rfl) j u hj
  rw [World.cell?_of_block (w := w) (by rw [hW])]
  exact this
end Go.Proofs.YtlechjpaldpgnaaGreatDoor
namespace Go.Proofs.YtlechjpaldpgnaaGreatDoor
open Go.ChangeShapes Go.WideShapes Go.ChangeAt Go.RowKit Pn

namespace Pn
def numsL (xs : Nat → Int) (n : Nat) : List UInt8 := (List.range n).flatMap fun k => numL (xs k)
def numsOk (xs : Nat → Int) (n : Nat) : Bool := (List.range n).all fun k => numOk (xs k)
theorem numsL_next (xs : Nat → Int) (n : Nat) : numsL xs (n + 1) = numsL xs n ++ numL (xs n) := by
  unfold numsL; rw [List.range_succ, List.flatMap_append]; simp
theorem numsOk_next (xs : Nat → Int) (n : Nat) : numsOk xs (n + 1) = (numsOk xs n && numOk (xs n)) := by
  unfold numsOk; rw [List.range_succ, List.all_append]; simp
theorem numsL_length (xs : Nat → Int) (n : Nat) : (numsL xs n).length = 4 * n := by
  induction n with
  | zero => rfl
  | succ n ih => rw [numsL_next, List.length_append, ih, numL_length]; omega
theorem bad_next (bad : Bool) (xs : Nat → Int) (n : Nat) : (bad || !numsOk xs n || !numOk (xs n)) = (bad || !numsOk xs (n + 1)) := by
  rw [numsOk_next]; cases bad <;> cases numsOk xs n <;> cases numOk (xs n) <;> rfl
end Pn
theorem four_cells (n : Int) : bcells (numL n) = [.int .u8 ((numF n 0).toNat : Int), .int .u8 ((numF n 1).toNat : Int), .int .u8 ((numF n 2).toNat : Int), .int .u8 ((numF n 3).toNat : Int)] := rfl

set_option maxRecDepth 100000 in
set_option maxHeartbeats 1600000 in
theorem pen_num (w : World) (p : Nat) (l : List ByteArray) (bad : Bool) (h : PenAt w p l bad) (A : Option Addr) (n cap : Nat) (xs : Nat → Int) (hn : n ≤ 1000000)
    (hA : 0 < n → ∃ pb po, A = some ⟨pb, po, none⟩ ∧ pb ≠ p ∧ ∀ k, k < n → w.cell? ⟨pb, po + k, none⟩ = some (.int .i64 (xs k))) (ht : 4 * n + total l < 1099511627776) :
    Calls Tryz.prog 56 #[.pointer (some ⟨p, 0, none⟩), .slice A n cap] w (PenSays w p (.tuple #[]) (⟨(numsL xs n).toArray⟩ :: l) (bad || !numsOk xs n)) := by
  obtain ⟨last, hh, hch⟩ := h
  have hp := hh.lt
  have HH := Lib.hid hh
  have HCH := Lib.hid hch
  have HA := Lib.hid hA
  have HT := Lib.hid ht
  obtain ⟨i0, hi, hz0, hz1, hz2⟩ := info_parts infoB
  have HI := Lib.hid hi
  have HZ0 := Lib.hid hz0
  have HZ1 := Lib.hid hz1
  have HZ2 := Lib.hid hz2
  clear hh hch hA ht hi hz0 hz1 hz2
  have e4 : IntKind.i64.wrap (4 * (n : Int)) = 4 * (n : Int) := IntWalk.i64_in _ (by omega)
  go_enter Tryz.func56, Tryz.ntmps56
  go_wp2_with (at_make; refine wpList_make_own _ rfl _ _ 92 rfl w.heap.size 5 i0 _ 1 Tryz.underlying92 HI.out HZ0.out HZ1.out .i64 .i64 _ (4 * n) rfl rfl (by omega) (by rw [HZ2.out]; omega) (by unfold maxLen; omega) (Nat.le_refl _) ?_; intro w1 hown hg1)
  have ho1 : Only w w1 p := (Only.refl w p).grown hg1 (fun k hk => by cases hk)
  have hh1 : PenHd w1 p last bad := HH.out.of_block (hg1.block p hp (by simp))
  have HO1 := Lib.hid ho1
  have HH1 := Lib.hid hh1
  have HW1 := Lib.hid hown
  clear hg1 ho1 hh1 hown e4
  go_loopw [4, 13] (fun v i wr => ∃ (k g c : Nat), k ≤ n ∧ i = .int .i64 k ∧ v = .slice (some ⟨g, 0, none⟩) (4 * k) c ∧ wr.ownsRow w.heap.size 5 1 v (4 * k) (bcells (numsL xs k)) ∧ PenHd wr p last (bad || !numsOk xs k) ∧ Only w wr p) (fun _ i _ => n - (intOf i).toNat)
  case atStart =>
    refine ⟨0, w.heap.size, 4 * n, Nat.zero_le _, rfl, rfl, HW1.out, ?_, HO1.out⟩
    have := HH1.out
    show PenHd w1 p last (bad || !true)
    simpa using this
  case round =>
    clear HW1 HH1 HO1
    obtain ⟨k, g, c, hk, rfl, rfl, hown, hhd, ho⟩ := hrel
    have HOW := Lib.hid hown
    have HHD := Lib.hid hhd
    have HO := Lib.hid ho
    clear hown hhd ho
    by_cases hlt : k < n
    · obtain ⟨pb, po, rfl, hne, hc⟩ := HA.out (by omega)
      have hck := (HO.out.cell (a := ⟨pb, po + k, none⟩) (block_lt_of_cell (hc k hlt)) hne).trans (hc k hlt)
      have l0 : 0 ≤ (k : Int) := by omega
      have m0 : (k : Int) < (n : Int) := by omega
      clear hc
      go_wp2_with (fail)
      refine (pen_number wr p last _ HHD.out (xs k)).mono ?_
      rintro e w2 ⟨⟨g2, rfl, hg2, hb2⟩, hh2, ho2⟩
      have HN2 := Lib.hid (own_only HOW.out ho2 hp)
      have HB2 := Lib.hid hb2
      have HH2 := Lib.hid hh2
      have HO2 := Lib.hid (HO.out.trans ho2)
      have hsz : w.heap.size ≤ w2.heap.size := HO2.out.size
      have HC4 := Lib.hid (show ∀ j u, (bcells (numL (xs k)))[j]? = some u → w2.cell? ((⟨g2, 0, none⟩ : Addr).add j) = some u from fun j u hj => by
        rw [Addr.add_lit, Nat.zero_add, cell_of_row _ _ _ _ _ _ HB2.out, ← hj, four_cells]
        exact List.getElem?_toArray)
      have HL4 := Lib.hid (show (bcells (numL (xs k))).length = 4 * 1 by rw [bcells_length, numL_length])
      have HL1 := Lib.hid (bcells_one (numL (xs k)))
      clear hh2 ho2 hb2 hck
      go_wp2_with (at_builtin; refine wpList_append_own _ rfl (.tmp 17) (.tmp 20) 92 rfl w.heap.size 5 i0 _ 1 1 Tryz.underlying92 HI.out HZ0.out HZ1.out HZ2.out rfl (by omega) _ (4 * k) _ rfl HN2.out ⟨g2, 0, none⟩ 4 4 (bcells (numL (xs k))) rfl HL4.out HC4.out HL1.out (by unfold maxLen; omega) (by omega) hsz ?_; intro v' w3 hown3 hg3 hnil3)
      have hnn : v' ≠ .slice none 0 0 := fun e => by
        have := (hnil3.1 e).2
        omega
      rw [← bcells_append, ← numsL_next] at hown3
      obtain ⟨g3, c3, rfl, hb3⟩ := own_form hown3 hnn
      go_roundw
      case rel =>
        refine ⟨k + 1, g3, c3, by omega, by go_num, by rw [Nat.mul_succ], by rw [Nat.mul_succ]; exact hown3, ?_, HO2.out.grown hg3 (fun b hb => by injection hb with hb; have := (HN2.out.lt _ rfl).1; omega)⟩
        rw [← bad_next]
        exact HH2.out.of_block (hg3.block p (by omega) (fun e => by have := (HN2.out.lt p (e.symm)).1; omega))
      case measure => simp [intOf]; omega
    · have hkn : k = n := by omega
      subst hkn
      have HTX := Lib.hid (own_text HOW.out rfl)
      have hch2 := HCH.out.only HO.out
      go_wp2_with (fail)
      refine (pen_write wr p l _ ⟨last, HHD.out, hch2⟩ _ _ _ ⟨(numsL xs k).toArray⟩ (by have := numsL_length xs k; simp [ByteArray.size, this]) ?_ HTX.out).mono ?_
      · have := HT.out
        have h2 := numsL_length xs k
        simp only [total, ByteArray.size, List.size_toArray]
        omega
      rintro e w2 ⟨rfl, h1, h2⟩
      have H1 := Lib.hid h1
      clear h1
      go_wp2
      go_end0
      exact ⟨rfl, H1.out, HO.out.trans h2⟩
end Go.Proofs.YtlechjpaldpgnaaGreatDoor
namespace Go.Proofs.YtlechjpaldpgnaaGreatDoor
open Go.ChangeShapes Go.WideShapes Go.ChangeAt Go.RowKit Pn

namespace Pn
def textL (s : ByteArray) : List UInt8 := numL (s.size : Int) ++ s.data.toList
def textsL (ss : Nat → ByteArray) (n : Nat) : List UInt8 := (List.range n).flatMap fun k => textL (ss k)
theorem textsL_next (ss : Nat → ByteArray) (n : Nat) : textsL ss (n + 1) = textsL ss n ++ textL (ss n) := by
  unfold textsL; rw [List.range_succ, List.flatMap_append]; simp
theorem textL_length (s : ByteArray) : (textL s).length = 4 + s.size := by
  unfold textL
  rw [List.length_append, numL_length]
  rfl
theorem textsL_le (ss : Nat → ByteArray) (n : Nat) (h : ∀ k, k < n → (ss k).size ≤ 1000000) : (textsL ss n).length ≤ 1000004 * n := by
  induction n with
  | zero => exact Nat.zero_le _
  | succ n ih =>
    rw [textsL_next, List.length_append, textL_length]
    have := ih fun k hk => h k (by omega)
    have := h n (by omega)
    omega
end Pn

set_option maxRecDepth 100000 in
set_option maxHeartbeats 1600000 in
theorem pen_text (w : World) (p : Nat) (l : List ByteArray) (bad : Bool) (h : PenAt w p l bad) (A : Option Addr) (n cap : Nat) (ss : Nat → ByteArray) (hn : n ≤ 1000) (hss : ∀ k, k < n → (ss k).size ≤ 1000000)
    (hA : 0 < n → ∃ pb po, A = some ⟨pb, po, none⟩ ∧ pb ≠ p ∧ ∀ k, k < n → w.cell? ⟨pb, po + k, none⟩ = some (.string (ss k))) (ht : 1000004 * n + total l < 1099511627776) :
    Calls Tryz.prog 91 #[.pointer (some ⟨p, 0, none⟩), .slice A n cap] w (PenSays w p (.tuple #[]) (⟨(textsL ss n).toArray⟩ :: l) bad) := by
  obtain ⟨last, hh, hch⟩ := h
  have hp := hh.lt
  have HH := Lib.hid hh
  have HCH := Lib.hid hch
  have HA := Lib.hid hA
  have HT := Lib.hid ht
  have HSS := Lib.hid hss
  have HLE := Lib.hid (fun k (hk : k ≤ n) => textsL_le ss k fun j hj => hss j (by omega))
  obtain ⟨i0, hi, hz0, hz1, hz2⟩ := info_parts infoB
  have HI := Lib.hid hi
  have HZ0 := Lib.hid hz0
  have HZ1 := Lib.hid hz1
  have HZ2 := Lib.hid hz2
  clear hh hch hA ht hss hi hz0 hz1 hz2
  go_enter Tryz.func91, Tryz.ntmps91
  go_wp2_with (fail)
  go_loopw [4, 10] (fun v i wr => ∃ (k g c : Nat), k ≤ n ∧ i = .int .i64 k ∧ v = .slice (some ⟨g, 0, none⟩) (textsL ss k).length c ∧ wr.ownsRow w.heap.size 5 1 v (textsL ss k).length (bcells (textsL ss k)) ∧ PenHd wr p last bad ∧ Only w wr p) (fun _ i _ => n - (intOf i).toNat)
  case atStart =>
    refine ⟨0, w.heap.size, 0, Nat.zero_le _, rfl, rfl, World.ownsRow_made w #[] 0 (Nat.le_refl _) (Nat.zero_le _) rfl, HH.out.of_block (heap_alloc_old w _ hp), (Only.refl w p).alloc _⟩
  case round =>
    obtain ⟨k, g, c, hk, rfl, rfl, hown, hhd, ho⟩ := hrel
    have HOW := Lib.hid hown
    have HHD := Lib.hid hhd
    have HO := Lib.hid ho
    clear hown hhd ho
    by_cases hlt : k < n
    · obtain ⟨pb, po, rfl, hne, hc⟩ := HA.out (by omega)
      have hck := (HO.out.cell (a := ⟨pb, po + k, none⟩) (block_lt_of_cell (hc k hlt)) hne).trans (hc k hlt)
      have hsk := HSS.out k hlt
      have hlk := HLE.out k hk
      have HNX := Lib.hid (textsL_next ss k)
      have l0 : 0 ≤ (k : Int) := by omega
      have m0 : (k : Int) < (n : Int) := by omega
      have HOKK := Lib.hid (num_ok (n := ((ss k).size : Int)) (by omega) (by omega))
      clear hc
      generalize ss k = s at hck hsk HNX HOKK
      generalize hL : textsL ss k = L at HOW hlk HNX ⊢
      clear hL
      go_wp2_with (fail)
      refine (pen_number wr p last _ HHD.out (s.size : Int)).mono ?_
      rintro e w2 ⟨⟨g2, rfl, hg2, hb2⟩, hh2, ho2⟩
      rw [HOKK.out, Bool.not_true, Bool.or_false] at hh2
      have HN2 := Lib.hid (own_only HOW.out ho2 hp)
      have HB2 := Lib.hid hb2
      have HH2 := Lib.hid hh2
      have HO2 := Lib.hid (HO.out.trans ho2)
      have hsz : w.heap.size ≤ w2.heap.size := HO2.out.size
      have HC4 := Lib.hid (show ∀ j u, (bcells (numL (s.size : Int)))[j]? = some u → w2.cell? ((⟨g2, 0, none⟩ : Addr).add j) = some u from fun j u hj => by
        rw [Addr.add_lit, Nat.zero_add, cell_of_row _ _ _ _ _ _ HB2.out, ← hj, four_cells]
        exact List.getElem?_toArray)
      have HL4 := Lib.hid (show (bcells (numL (s.size : Int))).length = 4 * 1 by rw [bcells_length, numL_length])
      have HL1 := Lib.hid (bcells_one (numL (s.size : Int)))
      clear hh2 ho2 hb2 hck
      go_upto_region 5 with (at_builtin; refine wpList_append_own _ rfl (.tmp 14) (.tmp 18) 92 rfl w.heap.size 5 i0 _ 1 1 Tryz.underlying92 HI.out HZ0.out HZ1.out HZ2.out rfl (by omega) _ L.length _ rfl HN2.out ⟨g2, 0, none⟩ 4 4 (bcells (numL (s.size : Int))) rfl HL4.out HC4.out HL1.out (by unfold maxLen; omega) (by omega) hsz ?_; intro v' w3 hown3 hg3 hnil3)
      have hnn : v' ≠ .slice none 0 0 := fun e => by
        have := (hnil3.1 e).2
        omega
      rw [← bcells_append] at hown3
      obtain ⟨g3, c3, rfl, hb3⟩ := own_form hown3 hnn
      have HN3 := Lib.hid hown3
      have HH3 := Lib.hid (HH2.out.of_block (hg3.block p (by omega) (fun e => by have := (HN2.out.lt p (e.symm)).1; omega)))
      have HO3 := Lib.hid (HO2.out.grown hg3 (fun b hb => by injection hb with hb; have := (HN2.out.lt _ rfl).1; omega))
      have hsz3 : w.heap.size ≤ w3.heap.size := HO3.out.size
      clear hnn hnil3 hg3 hown3
      go_wp2_with (at_builtin; refine Lib.wpList_append_own_string _ rfl (.tmp 20) (.tmp 21) 92 9 rfl w.heap.size 5 i0 Tryz.underlying92 Tryz.underlying9 HI.out HZ0.out HZ1.out HZ2.out _ (L.length + 4) _ rfl HN3.out s rfl (by unfold maxLen; omega) (by omega) hsz3 ?_; intro v' w4 hown4 hg4 hnil4)
      have hnn : v' ≠ .slice none 0 0 := fun e => by
        have := (hnil4.1 e).1
        cases this
      rw [bcells_text, ← bcells_append, List.append_assoc, show numL (s.size : Int) ++ s.data.toList = textL s from rfl, ← HNX.out] at hown4
      have hlen : L.length + 4 + s.size = (textsL ss (k + 1)).length := by rw [HNX.out, List.length_append, textL_length]; omega
      rw [hlen] at hown4
      obtain ⟨g4, c4, rfl, hb4⟩ := own_form hown4 hnn
      have HF := Lib.hid (show (∃ (j g c : Nat), j ≤ n ∧ Value.int .i64 ((k : Int) + 1) = .int .i64 j ∧ Value.slice (some ⟨g4, 0, none⟩) (textsL ss (k + 1)).length c4 = .slice (some ⟨g, 0, none⟩) (textsL ss j).length c ∧ w4.ownsRow w.heap.size 5 1 (Value.slice (some ⟨g4, 0, none⟩) (textsL ss (k + 1)).length c4) (textsL ss j).length (bcells (textsL ss j)) ∧ PenHd w4 p last bad ∧ Only w w4 p) from
        ⟨k + 1, g4, c4, by omega, by go_num, rfl, hown4, HH3.out.of_block (hg4.block p (by omega) (fun e => by have := (HN3.out.lt p (e.symm)).1; omega)), HO3.out.grown hg4 (fun b hb => by injection hb with hb; have := (HN3.out.lt _ rfl).1; omega)⟩)
      clear hlen hown4 hg4 hnil4 hnn
      go_roundw
      case rel => exact HF.out
      case measure => simp [intOf]; omega
    · have hkn : k = n := by omega
      subst hkn
      have HTX := Lib.hid (own_text HOW.out rfl)
      have hch2 := HCH.out.only HO.out
      go_wp2_with (fail)
      refine (pen_write wr p l _ ⟨last, HHD.out, hch2⟩ _ _ _ ⟨(textsL ss k).toArray⟩ (by simp [ByteArray.size]) ?_ HTX.out).mono ?_
      · have := HT.out
        have h2 := HLE.out k (Nat.le_refl _)
        simp only [total, ByteArray.size, List.size_toArray]
        omega
      rintro e w2 ⟨rfl, h1, h2⟩
      have H1 := Lib.hid h1
      clear h1
      go_wp2
      go_end0
      exact ⟨rfl, H1.out, HO.out.trans h2⟩

set_option maxRecDepth 100000 in
set_option maxHeartbeats 800000 in
theorem pen_byte (w : World) (p : Nat) (l : List ByteArray) (bad : Bool) (h : PenAt w p l bad) (A : Option Addr) (n cap : Nat) (q : ByteArray) (hn : n = q.size) (ht : total (q :: l) < 1099511627776)
    (hc : ∀ W : World, W.heap = w.heap → (convert 92 9 (.slice A n cap)).run Tryz.prog W = .ok (.string q) W) :
    Calls Tryz.prog 90 #[.pointer (some ⟨p, 0, none⟩), .slice A n cap] w (PenSays w p (.tuple #[]) (q :: l) bad) := by
  have H := Lib.hid h
  have HN := Lib.hid hn
  have HT := Lib.hid ht
  have HC := Lib.hid hc
  clear h hn ht hc
  go_enter Tryz.func90, Tryz.ntmps90
  go_wp2_with (fail)
  refine (pen_write w p l bad H.out A n cap q HN.out HT.out HC.out).mono ?_
  rintro e w2 ⟨rfl, h1, h2⟩
  have H1 := Lib.hid h1
  clear h1
  go_wp2
  go_end0
  exact ⟨rfl, H1.out, h2⟩
end Go.Proofs.YtlechjpaldpgnaaGreatDoor
namespace Go.Proofs.YtlechjpaldpgnaaGreatDoor
open Go.ChangeShapes Go.WideShapes Go.ChangeAt Go.RowKit Pn

theorem own_below {w w' : World} {base : Nat} {e : TypeId} {size n : Nat} {v : Value} {xs : List Value} (h : w.ownsRow base e size v n xs) (hb : Below w.heap.size w w') : w'.ownsRow base e size v n xs := by
  refine ⟨h.1, ?_⟩
  rcases h.2 with hn | ⟨g, cap, cur, hv, hg0, hg, r⟩
  · exact .inl hn
  · exact .inr ⟨g, cap, cur, hv, hg0, (hb.block g (Array.getElem?_eq_some_iff.1 hg).1).trans hg, r⟩
theorem pen_byte_nil (w : World) (v : Value) : Calls Tryz.prog 90 #[.pointer none, v] w fun e w' => e = .returned (.tuple #[]) ∧ w = w' := by
  go_enter Tryz.func90, Tryz.ntmps90
  go_wp2_with (fail)
  refine (pen_write_nil w v).mono ?_
  rintro e w2 ⟨rfl, rfl⟩
  go_wp2
  go_end0
  exact ⟨rfl, rfl⟩

set_option maxRecDepth 100000 in
set_option maxHeartbeats 1600000 in
theorem pen_num_nil (w : World) (A : Option Addr) (n cap : Nat) (xs : Nat → Int) (hn : n ≤ 1000000)
    (hA : 0 < n → ∃ pb po, A = some ⟨pb, po, none⟩ ∧ ∀ k, k < n → w.cell? ⟨pb, po + k, none⟩ = some (.int .i64 (xs k))) :
    Calls Tryz.prog 56 #[.pointer none, .slice A n cap] w fun e w' => e = .returned (.tuple #[]) ∧ Below w.heap.size w w' := by
  have HA := Lib.hid hA
  obtain ⟨i0, hi, hz0, hz1, hz2⟩ := info_parts infoB
  have HI := Lib.hid hi
  have HZ0 := Lib.hid hz0
  have HZ1 := Lib.hid hz1
  have HZ2 := Lib.hid hz2
  clear hA hi hz0 hz1 hz2
  have e4 : IntKind.i64.wrap (4 * (n : Int)) = 4 * (n : Int) := IntWalk.i64_in _ (by omega)
  go_enter Tryz.func56, Tryz.ntmps56
  go_wp2_with (at_make; refine wpList_make_own _ rfl _ _ 92 rfl w.heap.size 5 i0 _ 1 Tryz.underlying92 HI.out HZ0.out HZ1.out .i64 .i64 _ (4 * n) rfl rfl (by omega) (by rw [HZ2.out]; omega) (by unfold maxLen; omega) (Nat.le_refl _) ?_; intro w1 hown hg1)
  have hb1 : Below w.heap.size w w1 := (Below.refl _ _).grown hg1 (Nat.le_refl _) (fun k hk => by cases hk)
  have HB1 := Lib.hid hb1
  have HW1 := Lib.hid hown
  clear hg1 hb1 hown e4
  go_loopw [4, 13] (fun v i wr => ∃ (k g c : Nat), k ≤ n ∧ i = .int .i64 k ∧ v = .slice (some ⟨g, 0, none⟩) (4 * k) c ∧ wr.ownsRow w.heap.size 5 1 v (4 * k) (bcells (numsL xs k)) ∧ Below w.heap.size w wr) (fun _ i _ => n - (intOf i).toNat)
  case atStart =>
    exact ⟨0, w.heap.size, 4 * n, Nat.zero_le _, rfl, rfl, HW1.out, HB1.out⟩
  case round =>
    clear HW1 HB1
    obtain ⟨k, g, c, hk, rfl, rfl, hown, hb⟩ := hrel
    have HOW := Lib.hid hown
    have HB := Lib.hid hb
    clear hown hb
    by_cases hlt : k < n
    · obtain ⟨pb, po, rfl, hc⟩ := HA.out (by omega)
      have hck := (HB.out.cell (p := ⟨pb, po + k, none⟩) (block_lt_of_cell (hc k hlt))).trans (hc k hlt)
      have l0 : 0 ≤ (k : Int) := by omega
      have m0 : (k : Int) < (n : Int) := by omega
      clear hc
      go_wp2_with (fail)
      refine (pen_number_nil wr (xs k)).mono ?_
      rintro e w2 ⟨⟨g2, rfl, hg2, hb2⟩, hbb⟩
      have HN2 := Lib.hid (own_below HOW.out hbb)
      have HB2 := Lib.hid hb2
      have HBB := Lib.hid (HB.out.trans (hbb.mono HB.out.size))
      have hsz : w.heap.size ≤ w2.heap.size := HBB.out.size
      have HC4 := Lib.hid (show ∀ j u, (bcells (numL (xs k)))[j]? = some u → w2.cell? ((⟨g2, 0, none⟩ : Addr).add j) = some u from fun j u hj => by
        rw [Addr.add_lit, Nat.zero_add, cell_of_row _ _ _ _ _ _ HB2.out, ← hj, four_cells]
        exact List.getElem?_toArray)
      have HL4 := Lib.hid (show (bcells (numL (xs k))).length = 4 * 1 by rw [bcells_length, numL_length])
      have HL1 := Lib.hid (bcells_one (numL (xs k)))
      clear hbb hb2 hck
      go_wp2_with (at_builtin; refine wpList_append_own _ rfl (.tmp 17) (.tmp 20) 92 rfl w.heap.size 5 i0 _ 1 1 Tryz.underlying92 HI.out HZ0.out HZ1.out HZ2.out rfl (by omega) _ (4 * k) _ rfl HN2.out ⟨g2, 0, none⟩ 4 4 (bcells (numL (xs k))) rfl HL4.out HC4.out HL1.out (by unfold maxLen; omega) (by omega) hsz ?_; intro v' w3 hown3 hg3 hnil3)
      have hnn : v' ≠ .slice none 0 0 := fun e => by
        have := (hnil3.1 e).2
        omega
      rw [← bcells_append, ← numsL_next] at hown3
      obtain ⟨g3, c3, rfl, hb3⟩ := own_form hown3 hnn
      go_roundw
      case rel =>
        exact ⟨k + 1, g3, c3, by omega, by go_num, by rw [Nat.mul_succ], by rw [Nat.mul_succ]; exact hown3, HBB.out.grown hg3 hsz (fun b hb => by injection hb with hb; have := (HN2.out.lt _ rfl).1; omega)⟩
      case measure => simp [intOf]; omega
    · go_wp2_with (fail)
      refine (pen_write_nil wr _).mono ?_
      rintro e w2 ⟨rfl, rfl⟩
      go_wp2
      go_end0
      exact ⟨rfl, HB.out⟩

set_option maxRecDepth 100000 in
set_option maxHeartbeats 1600000 in
theorem pen_text_nil (w : World) (A : Option Addr) (n cap : Nat) (ss : Nat → ByteArray) (hn : n ≤ 1000) (hss : ∀ k, k < n → (ss k).size ≤ 1000000)
    (hA : 0 < n → ∃ pb po, A = some ⟨pb, po, none⟩ ∧ ∀ k, k < n → w.cell? ⟨pb, po + k, none⟩ = some (.string (ss k))) :
    Calls Tryz.prog 91 #[.pointer none, .slice A n cap] w fun e w' => e = .returned (.tuple #[]) ∧ Below w.heap.size w w' := by
  have HA := Lib.hid hA
  have HSS := Lib.hid hss
  have HLE := Lib.hid (fun k (hk : k ≤ n) => textsL_le ss k fun j hj => hss j (by omega))
  obtain ⟨i0, hi, hz0, hz1, hz2⟩ := info_parts infoB
  have HI := Lib.hid hi
  have HZ0 := Lib.hid hz0
  have HZ1 := Lib.hid hz1
  have HZ2 := Lib.hid hz2
  clear hA hss hi hz0 hz1 hz2
  go_enter Tryz.func91, Tryz.ntmps91
  go_wp2_with (fail)
  go_loopw [4, 10] (fun v i wr => ∃ (k g c : Nat), k ≤ n ∧ i = .int .i64 k ∧ v = .slice (some ⟨g, 0, none⟩) (textsL ss k).length c ∧ wr.ownsRow w.heap.size 5 1 v (textsL ss k).length (bcells (textsL ss k)) ∧ Below w.heap.size w wr) (fun _ i _ => n - (intOf i).toNat)
  case atStart =>
    exact ⟨0, w.heap.size, 0, Nat.zero_le _, rfl, rfl, World.ownsRow_made w #[] 0 (Nat.le_refl _) (Nat.zero_le _) rfl, (Below.refl _ _).alloc (Nat.le_refl _) _⟩
  case round =>
    obtain ⟨k, g, c, hk, rfl, rfl, hown, hb⟩ := hrel
    have HOW := Lib.hid hown
    have HB := Lib.hid hb
    clear hown hb
    by_cases hlt : k < n
    · obtain ⟨pb, po, rfl, hc⟩ := HA.out (by omega)
      have hck := (HB.out.cell (p := ⟨pb, po + k, none⟩) (block_lt_of_cell (hc k hlt))).trans (hc k hlt)
      have hsk := HSS.out k hlt
      have hlk := HLE.out k hk
      have HNX := Lib.hid (textsL_next ss k)
      have l0 : 0 ≤ (k : Int) := by omega
      have m0 : (k : Int) < (n : Int) := by omega
      clear hc
      generalize ss k = s at hck hsk HNX
      generalize hL : textsL ss k = L at HOW hlk HNX ⊢
      clear hL
      go_wp2_with (fail)
      refine (pen_number_nil wr (s.size : Int)).mono ?_
      rintro e w2 ⟨⟨g2, rfl, hg2, hb2⟩, hbb⟩
      have HN2 := Lib.hid (own_below HOW.out hbb)
      have HB2 := Lib.hid hb2
      have HBB := Lib.hid (HB.out.trans (hbb.mono HB.out.size))
      have hsz : w.heap.size ≤ w2.heap.size := HBB.out.size
      have HC4 := Lib.hid (show ∀ j u, (bcells (numL (s.size : Int)))[j]? = some u → w2.cell? ((⟨g2, 0, none⟩ : Addr).add j) = some u from fun j u hj => by
        rw [Addr.add_lit, Nat.zero_add, cell_of_row _ _ _ _ _ _ HB2.out, ← hj, four_cells]
        exact List.getElem?_toArray)
      have HL4 := Lib.hid (show (bcells (numL (s.size : Int))).length = 4 * 1 by rw [bcells_length, numL_length])
      have HL1 := Lib.hid (bcells_one (numL (s.size : Int)))
      clear hbb hb2 hck
      go_upto_region 5 with (at_builtin; refine wpList_append_own _ rfl (.tmp 14) (.tmp 18) 92 rfl w.heap.size 5 i0 _ 1 1 Tryz.underlying92 HI.out HZ0.out HZ1.out HZ2.out rfl (by omega) _ L.length _ rfl HN2.out ⟨g2, 0, none⟩ 4 4 (bcells (numL (s.size : Int))) rfl HL4.out HC4.out HL1.out (by unfold maxLen; omega) (by omega) hsz ?_; intro v' w3 hown3 hg3 hnil3)
      have hnn : v' ≠ .slice none 0 0 := fun e => by
        have := (hnil3.1 e).2
        omega
      rw [← bcells_append] at hown3
      obtain ⟨g3, c3, rfl, hb3⟩ := own_form hown3 hnn
      have HN3 := Lib.hid hown3
      have HB3 := Lib.hid (HBB.out.grown hg3 hsz (fun b hb => by injection hb with hb; have := (HN2.out.lt _ rfl).1; omega))
      have hsz3 : w.heap.size ≤ w3.heap.size := HB3.out.size
      clear hnn hnil3 hg3 hown3
      go_wp2_with (at_builtin; refine Lib.wpList_append_own_string _ rfl (.tmp 20) (.tmp 21) 92 9 rfl w.heap.size 5 i0 Tryz.underlying92 Tryz.underlying9 HI.out HZ0.out HZ1.out HZ2.out _ (L.length + 4) _ rfl HN3.out s rfl (by unfold maxLen; omega) (by omega) hsz3 ?_; intro v' w4 hown4 hg4 hnil4)
      have hnn : v' ≠ .slice none 0 0 := fun e => by
        have := (hnil4.1 e).1
        cases this
      rw [bcells_text, ← bcells_append, List.append_assoc, show numL (s.size : Int) ++ s.data.toList = textL s from rfl, ← HNX.out] at hown4
      have hlen : L.length + 4 + s.size = (textsL ss (k + 1)).length := by rw [HNX.out, List.length_append, textL_length]; omega
      rw [hlen] at hown4
      obtain ⟨g4, c4, rfl, hb4⟩ := own_form hown4 hnn
      have HF := Lib.hid (show (∃ (j g c : Nat), j ≤ n ∧ Value.int .i64 ((k : Int) + 1) = .int .i64 j ∧ Value.slice (some ⟨g4, 0, none⟩) (textsL ss (k + 1)).length c4 = .slice (some ⟨g, 0, none⟩) (textsL ss j).length c ∧ w4.ownsRow w.heap.size 5 1 (Value.slice (some ⟨g4, 0, none⟩) (textsL ss (k + 1)).length c4) (textsL ss j).length (bcells (textsL ss j)) ∧ Below w.heap.size w w4) from
        ⟨k + 1, g4, c4, by omega, by go_num, rfl, hown4, HB3.out.grown hg4 hsz3 (fun b hb => by injection hb with hb; have := (HN3.out.lt _ rfl).1; omega)⟩)
      clear hlen hown4 hg4 hnil4 hnn
      go_roundw
      case rel => exact HF.out
      case measure => simp [intOf]; omega
    · go_wp2_with (fail)
      refine (pen_write_nil wr _).mono ?_
      rintro e w2 ⟨rfl, rfl⟩
      go_wp2
      go_end0
      exact ⟨rfl, HB.out⟩
end Go.Proofs.YtlechjpaldpgnaaGreatDoor
namespace Go.Proofs.YtlechjpaldpgnaaGreatDoor
open Go.ChangeShapes Go.WideShapes Go.ChangeAt Go.RowKit Pn

/-- 32 bytes as the program hands them on. -/
def dgV (f : Nat → UInt8) : Array Value := vals 32 fun j => .int .u8 ((f j).toNat : Int)
theorem dgI (f : Nat → UInt8) : (Tryz.prog.info? 24).map (·.size) = some (dgV f).size := info_vals _ (by kernel_rfl)
theorem dgO (f : Nat → UInt8) : (dgV f).all (·.oneCell') = true := vals_one fun _ => rfl
theorem dgZ (f g : Nat → UInt8) : (dgV f).size = (dgV g).size := by unfold dgV; rw [vals_size, vals_size]
end Go.Proofs.YtlechjpaldpgnaaGreatDoor
namespace Go.Proofs.YtlechjpaldpgnaaGreatDoor
open Go.ChangeShapes Go.WideShapes Go.ChangeAt Go.RowKit Pn

namespace Pn
def digL (f : Nat → UInt8) : List UInt8 := (List.range 32).map f
def digsL (F : Nat → Nat → UInt8) (n : Nat) : List UInt8 := (List.range n).flatMap fun k => digL (F k)
theorem digL_length (f : Nat → UInt8) : (digL f).length = 32 := by simp [digL]
theorem digsL_next (F : Nat → Nat → UInt8) (n : Nat) : digsL F (n + 1) = digsL F n ++ digL (F n) := by
  unfold digsL; rw [List.range_succ, List.flatMap_append]; simp
theorem digsL_length (F : Nat → Nat → UInt8) (n : Nat) : (digsL F n).length = 32 * n := by
  induction n with
  | zero => rfl
  | succ n ih => rw [digsL_next, List.length_append, ih, digL_length]; omega
end Pn
theorem dig_cells (f : Nat → UInt8) : bcells (digL f) = (dgV f).toList := by
  unfold bcells digL dgV vals
  rw [List.map_map]
  rfl
theorem dgV_size' (f : Nat → UInt8) : (dgV f).size = 32 := vals_size 32 _
end Go.Proofs.YtlechjpaldpgnaaGreatDoor
namespace Go.Proofs.YtlechjpaldpgnaaGreatDoor
open Go Go.RowKit Pn
namespace Pn

theorem byAt_list (l : List UInt8) (k : Nat) : byAt ⟨l.toArray⟩ k = l.getD k 0 := rfl
theorem numL_four (x : Int) : numL x = [numF x 0, numF x 1, numF x 2, numF x 3] := rfl
theorem le4_num (x : Int) (h : numOk x = true) (T : List UInt8) : (le4 ⟨(numL x ++ T).toArray⟩ : Int) = x := by
  have hx := numV_ok h
  have hb : 0 ≤ x ∧ x ≤ 4294967295 := by unfold numOk at h; simpa using h
  have v0 := numF_val x 0
  have v1 := numF_val x 1
  have v2 := numF_val x 2
  have v3 := numF_val x 3
  simp only [Nat.pow_zero, Nat.pow_one, Int.ediv_one, Nat.reducePow, Int.cast_ofNat_Int] at v0 v1 v2 v3
  unfold le4
  rw [byAt_list, byAt_list, byAt_list, byAt_list, numL_four]
  show (((numF x 0).toNat + 256 * (numF x 1).toNat + 65536 * (numF x 2).toNat + 16777216 * (numF x 3).toNat : Nat) : Int) = x
  omega
theorem size_list (l : List UInt8) : (⟨l.toArray⟩ : ByteArray).size = l.length := by show l.toArray.size = _; rw [List.size_toArray]
theorem extract_list (l m : List UInt8) (n : Nat) (h : n = l.length) : (⟨(l ++ m).toArray⟩ : ByteArray).extract n (⟨(l ++ m).toArray⟩ : ByteArray).size = ⟨m.toArray⟩ := by
  subst h
  apply ByteArray.ext
  rw [ByteArray.data_extract, size_list]
  apply Array.ext'
  rw [Array.toList_extract, List.extract_eq_take_drop, List.length_append]
  simp
theorem extract_head (l m : List UInt8) (n : Nat) (h : n = l.length) : (⟨(l ++ m).toArray⟩ : ByteArray).extract 0 n = ⟨l.toArray⟩ := by
  subst h
  apply ByteArray.ext
  rw [ByteArray.data_extract]
  apply Array.ext'
  rw [Array.toList_extract, List.extract_eq_take_drop]
  simp
theorem nm_num (x : Int) (h : numOk x = true) (T : List UInt8) (most : Int) (hm : x ≤ most) : nmOk ⟨(numL x ++ T).toArray⟩ most = true :=
  nm_ok (by rw [size_list, List.length_append, numL_length]; omega) (by rw [le4_num x h]; exact hm)
theorem nm_num_out (x : Int) (h : numOk x = true) (T : List UInt8) (most : Int) (hm : x ≤ most) : (nmOut ⟨(numL x ++ T).toArray⟩ most : Int) = x := by
  rw [nm_out_yes (nm_num x h T most hm), le4_num x h]
theorem nm_num_rest (x : Int) (h : numOk x = true) (T : List UInt8) (most : Int) (hm : x ≤ most) : nmRest ⟨(numL x ++ T).toArray⟩ most = ⟨T.toArray⟩ := by
  rw [nm_rest_yes (nm_num x h T most hm)]
  exact extract_list (numL x) T 4 (numL_length x).symm
theorem nm_num_bad (x : Int) (h : numOk x = true) (T : List UInt8) (most : Int) (hm : x ≤ most) : nmBad ⟨(numL x ++ T).toArray⟩ false most = false := nm_bad_yes _ (nm_num x h T most hm)
theorem tx_text (s : ByteArray) (hs : s.size ≤ 1000000) (T : List UInt8) :
    txOut ⟨(textL s ++ T).toArray⟩ (s.size : Int) = s ∧ txRest ⟨(textL s ++ T).toArray⟩ (s.size : Int) = ⟨T.toArray⟩ ∧ txBad ⟨(textL s ++ T).toArray⟩ false (s.size : Int) = false := by
  have hok : numOk (s.size : Int) = true := num_ok (by omega) (by omega)
  have e : textL s ++ T = numL (s.size : Int) ++ (s.data.toList ++ T) := by unfold textL; rw [List.append_assoc]
  have h1 := nm_num_out (s.size : Int) hok (s.data.toList ++ T) (s.size : Int) (Int.le_refl _)
  have h2 := nm_num_rest (s.size : Int) hok (s.data.toList ++ T) (s.size : Int) (Int.le_refl _)
  have h3 := nm_num_bad (s.size : Int) hok (s.data.toList ++ T) (s.size : Int) (Int.le_refl _)
  have h1' : nmOut ⟨(numL (s.size : Int) ++ (s.data.toList ++ T)).toArray⟩ (s.size : Int) = s.size := by omega
  have hl : s.data.toList.length = s.size := rfl
  have hle : s.size ≤ (⟨(s.data.toList ++ T).toArray⟩ : ByteArray).size := by
    have h5 := size_list (s.data.toList ++ T)
    rw [List.length_append] at h5
    omega
  rw [e]
  unfold txOut txRest txBad
  rw [h1', h2, h3, tk_out_yes hle, tk_rest_yes hle, tk_bad_yes _ hle]
  refine ⟨?_, ?_, rfl⟩
  · rw [extract_head _ _ _ hl.symm]
  · exact extract_list _ _ _ hl.symm
/-- Numbers, and texts, from one place on. -/
def numsFrom (xs : Nat → Int) (k n : Nat) : List UInt8 := (List.range (n - k)).flatMap fun i => numL (xs (k + i))
def textsFrom (ss : Nat → ByteArray) (k n : Nat) : List UInt8 := (List.range (n - k)).flatMap fun i => textL (ss (k + i))
theorem numsFrom_zero (xs : Nat → Int) (n : Nat) : numsFrom xs 0 n = numsL xs n := by unfold numsFrom numsL; simp
theorem textsFrom_zero (ss : Nat → ByteArray) (n : Nat) : textsFrom ss 0 n = textsL ss n := by unfold textsFrom textsL; simp
theorem numsFrom_end (xs : Nat → Int) (n : Nat) : numsFrom xs n n = [] := by unfold numsFrom; simp
theorem textsFrom_end (ss : Nat → ByteArray) (n : Nat) : textsFrom ss n n = [] := by unfold textsFrom; simp
theorem numsFrom_step (xs : Nat → Int) (k n : Nat) (h : k < n) : numsFrom xs k n = numL (xs k) ++ numsFrom xs (k + 1) n := by
  unfold numsFrom
  rw [show n - k = n - (k + 1) + 1 by omega, List.range_succ_eq_map, List.flatMap_cons, List.flatMap_map]
  congr 1
  congr 1
  funext i
  rw [show k + (i + 1) = k + 1 + i by omega]
theorem textsFrom_step (ss : Nat → ByteArray) (k n : Nat) (h : k < n) : textsFrom ss k n = textL (ss k) ++ textsFrom ss (k + 1) n := by
  unfold textsFrom
  rw [show n - k = n - (k + 1) + 1 by omega, List.range_succ_eq_map, List.flatMap_cons, List.flatMap_map]
  congr 1
  congr 1
  funext i
  rw [show k + (i + 1) = k + 1 + i by omega]
theorem numL_inj (x y : Int) (hx : numOk x = true) (hy : numOk y = true) (h : numL x = numL y) : x = y := by
  have h1 := le4_num x hx []
  have h2 := le4_num y hy []
  rw [h] at h1
  exact h1.symm.trans h2
theorem numsL_inj (xs ys : Nat → Int) : ∀ n, (∀ i, i < n → numOk (xs i) = true) → (∀ i, i < n → numOk (ys i) = true) → numsL xs n = numsL ys n → ∀ i, i < n → xs i = ys i := by
  intro n
  induction n with
  | zero => intro _ _ _ i hi; omega
  | succ n ih =>
    intro hx hy h i hi
    rw [numsL_next, numsL_next] at h
    have hl : (numsL xs n).length = (numsL ys n).length := by rw [numsL_length, numsL_length]
    obtain ⟨h1, h2⟩ := List.append_inj h hl
    by_cases e : i = n
    · subst e; exact numL_inj _ _ (hx i (by omega)) (hy i (by omega)) h2
    · exact ih (fun j hj => hx j (by omega)) (fun j hj => hy j (by omega)) h1 i (by omega)
theorem numsL_congr (xs ys : Nat → Int) (n : Nat) (h : ∀ i, i < n → xs i = ys i) : numsL xs n = numsL ys n := by
  induction n with
  | zero => rfl
  | succ n ih => rw [numsL_next, numsL_next, ih fun i hi => h i (by omega), h n (by omega)]
/-- Whether both rows are the same up to place j. -/
def sameK (xs ys : Nat → Int) (n m : Nat) : Nat → Bool
  | 0 => ((n : Int) == (m : Int))
  | j + 1 => sameK xs ys n m j && (xs j == ys j)
theorem sameK_len (xs ys : Nat → Int) (n m : Nat) (j : Nat) (h : sameK xs ys n m j = true) : n = m := by
  induction j with
  | zero => have := beq_iff_eq.1 h; omega
  | succ j ih => simp only [sameK, Bool.and_eq_true] at h; exact ih h.1
theorem sameK_iff (xs ys : Nat → Int) (n m : Nat) (j : Nat) : sameK xs ys n m j = true ↔ n = m ∧ ∀ i, i < j → xs i = ys i := by
  induction j with
  | zero => exact ⟨fun h => ⟨by have := beq_iff_eq.1 h; omega, fun i hi => by omega⟩, fun h => beq_iff_eq.2 (by rw [h.1])⟩
  | succ j ih =>
    simp only [sameK, Bool.and_eq_true, ih, beq_iff_eq]
    constructor
    · rintro ⟨⟨h1, h2⟩, h3⟩
      refine ⟨h1, fun i hi => ?_⟩
      by_cases e : i = j
      · rw [e]; exact h3
      · exact h2 i (by omega)
    · rintro ⟨h1, h2⟩
      exact ⟨⟨h1, fun i hi => h2 i (by omega)⟩, h2 j (by omega)⟩
theorem same_bytes (xs ys : Nat → Int) (n m : Nat) (hx : ∀ i, numOk (xs i) = true) (hy : ∀ i, numOk (ys i) = true) : ((⟨(numsL xs n).toArray⟩ : ByteArray) = ⟨(numsL ys m).toArray⟩) ↔ sameK xs ys n m m = true := by
  rw [sameK_iff]
  constructor
  · intro h
    have hl : numsL xs n = numsL ys m := by
      have := congrArg (fun q : ByteArray => q.data.toList) h
      exact this
    have hn : n = m := by
      have := congrArg List.length hl
      rw [numsL_length, numsL_length] at this
      omega
    subst hn
    exact ⟨rfl, numsL_inj xs ys n (fun i _ => hx i) (fun i _ => hy i) hl⟩
  · rintro ⟨rfl, h⟩
    rw [numsL_congr xs ys n h]
/-- A number of 32 bits. -/
def cut32 (x : Int) : Int := x % 4294967296
theorem cut32_ok (x : Int) : numOk (cut32 x) = true := num_ok (by unfold cut32; omega) (by unfold cut32; omega)
end Pn
end Go.Proofs.YtlechjpaldpgnaaGreatDoor
