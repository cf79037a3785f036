/-
  Chunks that come, in plain words; a parcel in memory, and blocks beside the two that a chunk turns. No program's function here. No conditions.
-/
import Derived.Test.YtlechjpaldpgnaaGreatDoorMg12
import Derived.Test.YtlechjpaldpgnaaGreatDoorMg13
set_option maxRecDepth 100000
namespace Go.Proofs.YtlechjpaldpgnaaGreatDoor
open Go.ChangeShapes Go.WideShapes Go.ChangeAt Go.RowKit Sh Pn Mf Bt

namespace Pc
/-- Which are there: a chunk that can be is never empty. -/
def hasQ (q : Nat → ByteArray) (i : Nat) : Bool := decide (0 < (q i).size)
def putQ (q : Nat → ByteArray) (k : Nat) (d : ByteArray) (i : Nat) : ByteArray := if i = k then d else q i
def noQ (_ : Nat) : ByteArray := ⟨#[]⟩
theorem has_none : hasQ noQ = fun _ => false := rfl
theorem has_put {q : Nat → ByteArray} {k : Nat} {d : ByteArray} (h : 0 < d.size) : hasQ (putQ q k d) = upd (hasQ q) k true := by
  funext i
  unfold hasQ putQ upd
  by_cases hi : i = k
  · rw [if_pos hi, if_pos hi]; exact decide_eq_true h
  · rw [if_neg hi, if_neg hi]
/-- Put's error; what is there behind it. -/
def putE (m : Man) (q : Nat → ByteArray) (a : Int) (d : ByteArray) : Int := if checkM m a d = 0 then (if hasQ q a.toNat = true then 9 else 0) else checkM m a d
def putS (m : Man) (q : Nat → ByteArray) (a : Int) (d : ByteArray) : Nat → ByteArray := if putE m q a d = 0 then putQ q a.toNat d else q
/-- A chunk that can be. -/
structure Fits (m : Man) (a : Int) (d : ByteArray) (i : Nat) : Prop where
  ha : a = (i : Int)
  hi : i < m.sums.length
  hn : m.sums.length ≤ 64
  d0 : 0 < d.size
  d1 : d.size ≤ 256
theorem fits_of {m : Man} {a : Int} {d : ByteArray} (h : checkM m a d = 0) : ∃ i, Fits m a d i := by
  unfold checkM at h
  split at h
  · cases h
  · rename_i h1
    split at h
    · cases h
    · rename_i h2
      obtain ⟨i, s, c, P⟩ := place_of (m := m) (a := a) (by omega)
      have h3 := P.len
      have h4 := P.l0
      have h5 := P.l1
      exact ⟨i, P.ha, P.hi, P.hn, by omega, by omega⟩
/-- All, one behind the other. -/
def catP (q : Nat → ByteArray) (n : Nat) : List UInt8 := (List.range n).flatMap fun i => (q i).data.toList
theorem catP_next (q : Nat → ByteArray) (n : Nat) : catP q (n + 1) = catP q n ++ (q n).data.toList := by
  unfold catP
  rw [List.range_succ, List.flatMap_append, List.flatMap_cons, List.flatMap_nil, List.append_nil]
theorem catP_length {q : Nat → ByteArray} (h : ∀ i, (q i).size ≤ 256) (n : Nat) : (catP q n).length ≤ n * 256 := by
  induction n with
  | zero => exact Nat.le_refl _
  | succ n ih =>
    rw [catP_next, List.length_append, Nat.add_mul, Nat.one_mul]
    have h1 := h n
    have h2 : (q n).data.toList.length = (q n).size := rfl
    omega
def wholeB (q : Nat → ByteArray) (n : Nat) : Bool := decide (fstB n (hasQ q) < 0)
def textP (q : Nat → ByteArray) (n : Nat) : ByteArray := if wholeB q n = true then ⟨(catP q n).toArray⟩ else ⟨#[]⟩
def textE (q : Nat → ByteArray) (n : Nat) : Int := if wholeB q n = true then 0 else 7
theorem first_or (q : Nat → ByteArray) (n : Nat) : (wholeB q n = false ∧ 0 ≤ fstB n (hasQ q)) ∨ (wholeB q n = true ∧ fstB n (hasQ q) = -1) := by
  unfold wholeB
  rcases fstB_or n (hasQ q) with ⟨k, _, e, _⟩ | ⟨e, _⟩
  · exact .inl ⟨decide_eq_false (by omega), by omega⟩
  · exact .inr ⟨decide_eq_true (by omega), e⟩

/-- A manifest's cells at a block's beginning, and what stands behind them. -/
structure Head (w : World) (p : Nat) (t : TypeId) (m : Man) (A : Option Addr) (k : Nat) (T : Array Value) : Prop where
  h : w.heap[p]? = some (.cells (manA m A k ++ T) t (0, 0))
section
variable {w w' : World} {p : Nat} {t : TypeId} {m : Man} {A : Option Addr} {k : Nat} {T : Array Value}
theorem Head.lt (h : Head w p t m A k T) : p < w.heap.size := (Array.getElem?_eq_some_iff.1 h.h).1
theorem Head.of_block (h : Head w p t m A k T) (e : w'.heap[p]? = w.heap[p]?) : Head w' p t m A k T := ⟨e.trans h.h⟩
theorem Head.keep (h : Head w p t m A k T) (hb : Below w.heap.size w w') : Head w' p t m A k T := h.of_block (hb.block p h.lt)
theorem Head.man (h : Head w p t m A k T) : w.rangeAt p 0 (manA m A k).toList := fun j u hj => by
  have hl := (List.getElem?_eq_some_iff.1 hj).1
  rw [Array.length_toList] at hl
  rw [cell_of_row w p (0 + j) _ _ _ h.h, Nat.zero_add, Array.getElem?_append_left hl, ← hj, Array.getElem?_toList]
theorem Head.tail (h : Head w p t m A k T) (i : Nat) {v : Value} (hv : T[i]? = some v) : w.cell? ⟨p, 37 + i, none⟩ = some v := by
  rw [cell_of_row w p (37 + i) _ _ _ h.h, Array.getElem?_append_right (by rw [manA_size]; omega), manA_size, Nat.add_sub_cancel_left, hv]
theorem Head.cells (h : Head w p t m A k T) : w.heap[p]? = some (.cells (manA m A k ++ T) t (0, 0)) := h.h
end
/-- Nothing that was there has turned but two blocks. -/
structure Only2 (w w' : World) (a b : Nat) : Prop where
  os : w'.os = w.os
  tape : w'.tape = w.tape
  output : w'.output = w.output
  size : w.heap.size ≤ w'.heap.size
  block : ∀ i, i < w.heap.size → i ≠ a → i ≠ b → w'.heap[i]? = w.heap[i]?
section
variable {w w' w2 : World} {a b : Nat}
theorem Only2.refl (w : World) (a b : Nat) : Only2 w w a b := ⟨rfl, rfl, rfl, Nat.le_refl _, fun _ _ _ _ => rfl⟩
theorem Only2.trans (h : Only2 w w' a b) (k : Only2 w' w2 a b) : Only2 w w2 a b :=
  ⟨k.os.trans h.os, k.tape.trans h.tape, k.output.trans h.output, Nat.le_trans h.size k.size, fun i hi ha hb => (k.block i (Nat.lt_of_lt_of_le hi h.size) ha hb).trans (h.block i hi ha hb)⟩
theorem Only2.of_below (h : Below w.heap.size w w') (a b : Nat) : Only2 w w' a b := ⟨h.os, h.tape, h.output, h.size, fun i hi _ _ => h.block i hi⟩
theorem Only2.left (h : Only w w' a) (b : Nat) : Only2 w w' a b := ⟨h.os, h.tape, h.output, h.size, fun i hi ha _ => h.block i hi ha⟩
theorem Only2.right (h : Only w w' b) (a : Nat) : Only2 w w' a b := ⟨h.os, h.tape, h.output, h.size, fun i hi _ hb => h.block i hi hb⟩
theorem Only2.below (h : Only2 w w' a b) {B : Nat} (ha : B ≤ a) (hb : B ≤ b) (hB : B ≤ w.heap.size) : Below B w w' :=
  ⟨h.os, h.tape, h.output, h.size, fun i hi => h.block i (by omega) (by omega) (by omega)⟩
end
theorem sin_block {w w' : World} {A : Option Addr} {k : Nat} {L : List (Nat → UInt8)} (h : SIn w A k L) (hb : ∀ ad, A = some ad → w'.heap[ad.block]? = w.heap[ad.block]?) : SIn w' A k L :=
  ⟨h.1, fun h0 => by
    obtain ⟨pb, po, e, hd⟩ := h.2 h0
    exact ⟨pb, po, e, fun j u hj => (World.cell?_of_block (w := w) (a := ⟨pb, po + j, none⟩) (show w'.heap[pb]? = w.heap[pb]? from hb _ e)).trans (hd j u hj)⟩⟩
theorem sin_lt {w : World} {A : Option Addr} {k : Nat} {L : List (Nat → UInt8)} (h : SIn w A k L) (h0 : 0 < L.length) : ∀ ad, A = some ad → ad.block < w.heap.size := fun ad e => by
  obtain ⟨pb, po, e2, hd⟩ := h.2 h0
  rw [e2] at e
  injection e with e
  rw [← e]
  exact digs_lt hd h0
/-- What a parcel has behind its manifest. -/
def tailP (sb ab n : Nat) : Array Value := #[.pointer (some ⟨sb, 0, none⟩), .slice (some ⟨ab, 0, none⟩) n n]
/-- A parcel in blocks from B on. -/
structure Pcl (B : Nat) (w : World) (p : Nat) (m : Man) (A : Option Addr) (k sb ab : Nat) (q : Nat → ByteArray) : Prop where
  hd : Head w p 44 m A k (tailP sb ab m.sums.length)
  sin : SIn w A k m.sums
  set : w.heap[sb]? = some (sobj m.sums.length (hasQ q))
  row : w.rowIs ab 9 m.sums.length (fun i => .string (q i))
  n1 : 1 ≤ m.sums.length
  n2 : m.sums.length ≤ 64
  fit : ∀ i, (q i).size ≤ 256
  ps : p ≠ sb
  pa : p ≠ ab
  sa : sb ≠ ab
  ns : ∀ ad, A = some ad → ad.block ≠ sb ∧ ad.block ≠ ab
  lp : B ≤ p
  ls : B ≤ sb
  la : B ≤ ab
  lt : ∀ ad, A = some ad → B ≤ ad.block
section
variable {B : Nat} {w w' : World} {p : Nat} {m : Man} {A : Option Addr} {k sb ab : Nat} {q r : Nat → ByteArray}
theorem Pcl.of_blocks (h : Pcl B w p m A k sb ab q) (e1 : w'.heap[p]? = w.heap[p]?) (e2 : w'.heap[sb]? = w.heap[sb]?) (e3 : w'.heap[ab]? = w.heap[ab]?) (e4 : ∀ ad, A = some ad → w'.heap[ad.block]? = w.heap[ad.block]?) : Pcl B w' p m A k sb ab q :=
  ⟨h.hd.of_block e1, sin_block h.sin e4, e2.trans h.set, h.row.of_block e3, h.n1, h.n2, h.fit, h.ps, h.pa, h.sa, h.ns, h.lp, h.ls, h.la, h.lt⟩
theorem Pcl.keep (h : Pcl B w p m A k sb ab q) (hb : Below w.heap.size w w') : Pcl B w' p m A k sb ab q :=
  h.of_blocks (hb.block _ h.hd.lt) (hb.block _ (sobj_lt h.set)) (hb.block _ h.row.lt) fun ad e => hb.block _ (sin_lt h.sin h.n1 ad e)
theorem Pcl.drewN (h : Pcl B w p m A k sb ab q) (n : Nat) : Pcl B (w.drewN n) p m A k sb ab q := h.keep (below_drewN (Below.refl _ _) n)
/-- Beside a block that turns. -/
theorem Pcl.beside (h : Pcl B w p m A k sb ab q) {c : Nat} (ho : Only w w' c) (h1 : p ≠ c) (h2 : sb ≠ c) (h3 : ab ≠ c) (h4 : ∀ ad, A = some ad → ad.block ≠ c) : Pcl B w' p m A k sb ab q :=
  h.of_blocks (ho.block _ h.hd.lt h1) (ho.block _ (sobj_lt h.set) h2) (ho.block _ h.row.lt h3) fun ad e => ho.block _ (sin_lt h.sin h.n1 ad e) (h4 ad e)
theorem Pcl.c37 (h : Pcl B w p m A k sb ab q) : w.cell? ⟨p, 37, none⟩ = some (.pointer (some ⟨sb, 0, none⟩)) := h.hd.tail 0 rfl
theorem Pcl.c38 (h : Pcl B w p m A k sb ab q) : w.cell? ⟨p, 38, none⟩ = some (.slice (some ⟨ab, 0, none⟩) m.sums.length m.sums.length) := h.hd.tail 1 rfl
/-- A chunk has come: the set and the row have turned. -/
theorem Pcl.put (h : Pcl B w p m A k sb ab q) {a : Int} {d : ByteArray} {i : Nat} (hf : Fits m a d i) {w1 w2 : World} (ho1 : Only w w1 sb) (hs1 : w1.heap[sb]? = some (sobj m.sums.length (upd (hasQ q) i true))) (hb2 : Below w1.heap.size w1 w2) :
    Pcl B (w2.setCell ⟨ab, i, none⟩ (.string d)) p m A k sb ab (putQ q i d) ∧ Only2 w (w2.setCell ⟨ab, i, none⟩ (.string d)) sb ab := by
  have hlp := Nat.lt_of_lt_of_le h.hd.lt ho1.size
  have hls := Nat.lt_of_lt_of_le (sobj_lt h.set) ho1.size
  have hla := Nat.lt_of_lt_of_le h.row.lt ho1.size
  have ho3 : Only2 w2 (w2.setCell ⟨ab, i, none⟩ (.string d)) sb ab := Only2.right ((Only.refl w2 ab).setCell (.inl rfl) _) sb
  have o := ((Only2.left ho1 ab).trans (Only2.of_below hb2 sb ab)).trans ho3
  have hrow2 : w2.rowIs ab 9 m.sums.length (fun i => .string (q i)) := (ho1.row h.row (fun e => h.sa e.symm)).of_block (hb2.block _ hla)
  refine ⟨⟨h.hd.of_block (o.block _ h.hd.lt h.ps h.pa), sin_block h.sin fun ad e => o.block _ (sin_lt h.sin h.n1 ad e) (h.ns ad e).1 (h.ns ad e).2, ?_, ?_, h.n1, h.n2, ?_, h.ps, h.pa, h.sa, h.ns, h.lp, h.ls, h.la, h.lt⟩, o⟩
  · rw [has_put hf.d0, heap_setCell_other _ _ _ _ (show sb ≠ ab from h.sa), hb2.block _ hls, hs1]
  · refine row_of_block ?_
    have hb := row_block hrow2
    rw [heap_setCell_same w2 ab i _ _ _ hb, vals_set]
    congr 2
    refine vals_congr fun j _ => ?_
    unfold putQ
    by_cases hj : j = i
    · rw [if_pos hj, if_pos hj]
    · rw [if_neg hj, if_neg hj]
  · intro j
    unfold putQ
    by_cases hj : j = i
    · rw [if_pos hj]; exact hf.d1
    · rw [if_neg hj]; exact h.fit j
end
end Pc
theorem pcIL (m : Man) (A : Option Addr) (k : Nat) : (Tryz.prog.info? 26).map (·.size) = some (manA m A k).toList.length := by rw [Array.length_toList]; exact manI m A k
end Go.Proofs.YtlechjpaldpgnaaGreatDoor
