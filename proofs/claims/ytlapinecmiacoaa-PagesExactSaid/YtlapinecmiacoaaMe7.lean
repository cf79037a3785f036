/-
  Rows of numbers behind slices, and a table: what they are in plain words. No program's function here. No conditions.
  A row of bytes as a text; numbers of eight bits as bytes, and back. No program's function here. No conditions.
  Package vecs: fits and Good; the reference's Good. No conditions.
  Package vecs: a table's Row. Conditions: the table's numbers are there.
  Package vecs: Plus. Conditions: the list's rows are there, at most 4096 rows of at most 4096 numbers.
  Short rows of numbers, and lists of one or two rows, made for a call. No program's function here. No conditions.
-/
import Derived.Test.YtlapinecmiacoaaMe6
import Derived.Test.YtlapinecmiacoaaMe1
import Derived.Laws.Rows
import Derived.Laws.BytesString
import Derived.Deep.OwnRows
set_option maxRecDepth 100000
namespace Go.Proofs.Ytlapinecmiacoaa
open Go.ChangeShapes Go.WideShapes Go.ChangeAt Go.RowKit Nm

namespace Vc
/-- Numbers behind a slice: of no numbers nothing is asked. -/
def KIn (kd : IntKind) (w : World) (A : Option Addr) (zs : List Int) : Prop := 0 < zs.length → ∃ pb po, A = some ⟨pb, po, none⟩ ∧ ∀ i, i < zs.length → w.cell? ⟨pb, po + i, none⟩ = some (.int kd (zs.getD i 0))
theorem KIn.below {kd : IntKind} {w w' : World} {A : Option Addr} {zs : List Int} {B : Nat} (h : KIn kd w A zs) (hb : Below B w w') (hB : w.heap.size ≤ B) : KIn kd w' A zs := fun h0 => by
  obtain ⟨pb, po, e, hc⟩ := h h0
  exact ⟨pb, po, e, fun i hi => (hb.cell (p := ⟨pb, po + i, none⟩) (Nat.lt_of_lt_of_le (block_lt_of_cell (hc i hi)) hB)).trans (hc i hi)⟩
/-- Cells of blocks below B. -/
def KLow (B : Nat) (A : Option Addr) (zs : List Int) : Prop := 0 < zs.length → ∀ a, A = some a → a.block < B
theorem KIn.low {kd : IntKind} {w : World} {A : Option Addr} {zs : List Int} (h : KIn kd w A zs) : KLow w.heap.size A zs := fun h0 a ha => by
  obtain ⟨pb, po, e, hc⟩ := h h0
  have := block_lt_of_cell (hc 0 h0)
  rw [e] at ha
  injection ha with ha
  rw [← ha]
  exact this
theorem KIn.keep {kd : IntKind} {w w' : World} {A : Option Addr} {zs : List Int} {B : Nat} (h : KIn kd w A zs) (hl : KLow B A zs) (hb : Below B w w') : KIn kd w' A zs := fun h0 => by
  obtain ⟨pb, po, e, hc⟩ := h h0
  exact ⟨pb, po, e, fun i hi => (hb.cell (p := ⟨pb, po + i, none⟩) (show pb < B from hl h0 ⟨pb, po, none⟩ e)).trans (hc i hi)⟩
theorem KIn.drewN {kd : IntKind} {w : World} {A : Option Addr} {zs : List Int} (h : KIn kd w A zs) (n : Nat) : KIn kd (w.drewN n) A zs := h
theorem KIn.nil (kd : IntKind) (w : World) (A : Option Addr) : KIn kd w A [] := fun h => absurd h (by simp)
theorem KIn.holds {w : World} {b o : Nat} {zs : List Int} (h : KIn .i64 w (some ⟨b, o, none⟩) zs) : Holds w b o zs := fun i hi => by
  obtain ⟨pb, po, e, hc⟩ := h (by omega)
  injection e with e
  injection e with e1 e2 _
  subst e1 e2
  exact hc i hi
theorem KIn.at {kd : IntKind} {w : World} {A : Option Addr} {zs : List Int} (h : KIn kd w A zs) {i : Nat} (hi : i < zs.length) : ∃ pb po, A = some ⟨pb, po, none⟩ ∧ w.cell? ⟨pb, po + i, none⟩ = some (.int kd (zs.getD i 0)) := by
  obtain ⟨pb, po, e, hc⟩ := h (by omega)
  exact ⟨pb, po, e, hc i hi⟩
theorem KIn.row {kd : IntKind} {w : World} {g n : Nat} {t : TypeId} {zs : List Int} (h : w.rowIs g t n fun i => .int kd (zs.getD i 0)) (hn : zs.length ≤ n) : KIn kd w (some ⟨g, 0, none⟩) zs := fun _ =>
  ⟨g, 0, rfl, fun i hi => by rw [Nat.zero_add]; exact h.cell (by omega)⟩

/-- Numbers of eight bits. -/
def I8 (D : List Int) : Prop := ∀ i, i < D.length → -128 ≤ D.getD i 0 ∧ D.getD i 0 ≤ 127
theorem I8.wrap {D : List Int} (h : I8 D) {i : Nat} (hi : i < D.length) : wrap64 (D.getD i 0) = D.getD i 0 := IntWalk.wrap64_in _ (by have := h i hi; omega)

/-- Whether a side can be, and a table. -/
def fitB (x : Int) : Bool := decide (1 ≤ x) && decide (x ≤ 64)
def goodB (x y : Int) (n : Nat) : Bool := fitB x && (fitB y && decide ((n : Int) = x * y))
theorem fitB_iff {x : Int} : fitB x = true ↔ 1 ≤ x ∧ x ≤ 64 := by unfold fitB; simp
theorem goodB_iff {x y : Int} {n : Nat} : goodB x y n = true ↔ (1 ≤ x ∧ x ≤ 64) ∧ (1 ≤ y ∧ y ≤ 64) ∧ (n : Int) = x * y := by unfold goodB; simp [fitB_iff]
/-- A table's value, and its block. -/
def tbA (x y : Int) (A : Option Addr) (n c : Nat) : Array Value := #[.int .i64 x, .int .i64 y, .slice A n c]
def tbV (x y : Int) (A : Option Addr) (n c : Nat) : Value := .agg (tbA x y A n c)
/-- The product of two sides wraps nowhere. -/
theorem sides {x y : Int} (hx : 1 ≤ x ∧ x ≤ 64) (hy : 1 ≤ y ∧ y ≤ 64) : 1 ≤ x * y ∧ x * y ≤ 4096 := by
  have h1 := Int.mul_le_mul hx.2 hy.2 (by omega) (by omega)
  have h2 := Int.mul_le_mul hx.1 hy.1 (by omega) (by omega)
  omega
/-- The numbers of a row of a table; what a table is times a row; rows together; a row scaled. -/
def rowD (D : List Int) (y at_ : Nat) : List Int := (List.range y).map fun i => D.getD (at_ * y + i) 0
def timesL (D : List Int) (x y : Nat) (v : List Int) (n : Int) : List Int := (List.range x).map fun i => sat (shift (dot (rowD D y i) v) n)
def placeL (L : List (List Int)) (k : Nat) : List Int := L.map fun l => l.getD k 0
def plusL (L : List (List Int)) (n : Nat) : List Int := (List.range n).map fun k => sat (sum (placeL L k))
def scaleL (v : List Int) (m n : Int) : List Int := v.map fun x => mul x m n
theorem rowD_length (D : List Int) (y k : Nat) : (rowD D y k).length = y := by simp [rowD]
theorem timesL_length (D : List Int) (x y : Nat) (v : List Int) (n : Int) : (timesL D x y v n).length = x := by simp [timesL]
theorem placeL_length (L : List (List Int)) (k : Nat) : (placeL L k).length = L.length := by simp [placeL]
theorem plusL_length (L : List (List Int)) (n : Nat) : (plusL L n).length = n := by simp [plusL]
theorem scaleL_length (v : List Int) (m n : Int) : (scaleL v m n).length = v.length := by simp [scaleL]
theorem getD_map_range (n : Nat) (f : Nat → Int) (i : Nat) (h : i < n) : ((List.range n).map f).getD i 0 = f i := by
  rw [List.getD_eq_getElem?_getD, List.getElem?_map, List.getElem?_range h]
  rfl
theorem rowD_at (D : List Int) (y k i : Nat) (h : i < y) : (rowD D y k).getD i 0 = D.getD (k * y + i) 0 := getD_map_range _ _ _ h
theorem timesL_at (D : List Int) (x y : Nat) (v : List Int) (n : Int) (i : Nat) (h : i < x) : (timesL D x y v n).getD i 0 = sat (shift (dot (rowD D y i) v) n) := getD_map_range _ _ _ h
theorem plusL_at (L : List (List Int)) (n k : Nat) (h : k < n) : (plusL L n).getD k 0 = sat (sum (placeL L k)) := getD_map_range _ _ _ h
theorem placeL_at (L : List (List Int)) (k i : Nat) (h : i < L.length) : (placeL L k).getD i 0 = (L.getD i []).getD k 0 := by
  unfold placeL
  rw [List.getD_eq_getElem?_getD, List.getElem?_map, List.getD_eq_getElem?_getD (l := L), List.getElem?_eq_getElem h]
  rfl
theorem scaleL_at (v : List Int) (m n : Int) (i : Nat) (h : i < v.length) : (scaleL v m n).getD i 0 = mul (v.getD i 0) m n := by
  unfold scaleL
  rw [List.getD_eq_getElem?_getD, List.getElem?_map, List.getD_eq_getElem?_getD (l := v), List.getElem?_eq_getElem h]
  rfl
/-- Cells of numbers of which the first k are there. -/
def prt (kd : IntKind) (R : List Int) (k i : Nat) : Value := if i < k then .int kd (R.getD i 0) else .int kd 0
theorem prt_all (kd : IntKind) (R : List Int) (n i : Nat) (h : i < n) : prt kd R n i = .int kd (R.getD i 0) := if_pos h
theorem prt_none (kd : IntKind) (R : List Int) : prt kd R 0 = fun _ => .int kd 0 := by
  funext i
  exact if_neg (by omega)
theorem prt_set {kd : IntKind} {w : World} {g n : Nat} {t : TypeId} {R : List Int} {k : Nat} {z : Int} (h : w.rowIs g t n (prt kd R k)) (hz : R.getD k 0 = z) : (w.setCell ⟨g, k, none⟩ (.int kd z)).rowIs g t n (prt kd R (k + 1)) :=
  (h.set k _).congr fun i _ => by
    unfold prt
    by_cases e : i = k
    · subst e
      rw [if_pos rfl, if_pos (by omega), hz]
    · rw [if_neg e]
      by_cases hi : i < k
      · rw [if_pos hi, if_pos (by omega)]
      · rw [if_neg hi, if_neg (by omega)]
theorem info_int : (Try.prog.info? 3).map (fun i => (i.zero, i.size, i.bytes)) = some (some (.int .i64 0), 1, 8) := by kernel_rfl
theorem info_u8 : (Try.prog.info? 5).map (fun i => (i.zero, i.size, i.bytes)) = some (some (.int .u8 0), 1, 1) := by kernel_rfl
/-- What a call answers that makes a row of numbers. -/
def RowSays (w : World) (f : Value → Value) (R : List Int) (e : Ending) (w' : World) : Prop := ∃ A c, e = .returned (f (.slice A R.length c)) ∧ KIn .i64 w' A R ∧ Below w.heap.size w w'
end Vc
end Go.Proofs.Ytlapinecmiacoaa
namespace Go.Proofs.Ytlapinecmiacoaa
open Go.ChangeShapes Go.WideShapes Go.ChangeAt Go.RowKit Nm Vc

namespace Vc
/-- Numbers as bytes. -/
def byteZ (z : Int) : UInt8 := UInt8.ofNat (z % 256).toNat
def textD (D : List Int) : ByteArray := ⟨(D.map byteZ).toArray⟩
theorem byteZ_toNat (z : Int) : ((byteZ z).toNat : Int) = z % 256 := by
  unfold byteZ
  rw [UInt8.toNat_ofNat', Nat.mod_eq_of_lt (by omega)]
  omega
theorem textD_size (D : List Int) : (textD D).size = D.length := by show (D.map byteZ).toArray.size = _; rw [List.size_toArray, List.length_map]
theorem wrap_u8 (z : Int) : IntKind.u8.wrap z = z % 256 := by simp [IntKind.wrap, IntKind.bits, IntKind.signed]
/-- A byte as a number of eight bits. -/
def i8 (b : UInt8) : Int := if b.toNat < 128 then b.toNat else b.toNat - 256
theorem wrap_i8_all : ∀ n : Fin 256, IntKind.i8.wrap ((n.1 : Nat) : Int) = if n.1 < 128 then (n.1 : Int) else (n.1 : Int) - 256 := by decide +kernel
theorem wrap_i8 (b : UInt8) : IntKind.i8.wrap (b.toNat : Int) = i8 b := wrap_i8_all ⟨b.toNat, UInt8.toNat_lt b⟩
theorem byteZ_i8 (b : UInt8) : byteZ (i8 b) = b := by
  have hb := UInt8.toNat_lt b
  apply UInt8.toNat_inj.1
  have h1 := byteZ_toNat (i8 b)
  have h2 : i8 b % 256 = (b.toNat : Int) := by
    unfold i8
    split <;> omega
  omega
def listD (s : ByteArray) : List Int := s.data.toList.map i8
theorem listD_length (s : ByteArray) : (listD s).length = s.size := by unfold listD; rw [List.length_map, Array.length_toList]; rfl
theorem textD_listD (s : ByteArray) : textD (listD s) = s := by
  unfold textD listD
  rw [List.map_map]
  have : (byteZ ∘ i8) = id := by funext b; exact byteZ_i8 b
  rw [this, List.map_id]
theorem listD_at (s : ByteArray) (i : Nat) (h : i < s.size) : (listD s).getD i 0 = i8 (s[i]'h) := by
  unfold listD
  have hl : i < s.data.toList.length := h
  rw [List.getD_eq_getElem?_getD, List.getElem?_map, List.getElem?_eq_getElem hl]
  rfl
theorem i8_in (b : UInt8) : -128 ≤ i8 b ∧ i8 b ≤ 127 := by
  have := UInt8.toNat_lt b
  unfold i8
  split <;> omega
theorem listD_I8 (s : ByteArray) : I8 (listD s) := fun i hi => by
  rw [listD_at s i (by rw [listD_length] at hi; exact hi)]
  exact i8_in _
theorem textD_at (D : List Int) (i : Nat) (h : i < D.length) : ((textD D)[i]'(by rw [textD_size]; exact h)).toNat = (D.getD i 0 % 256).toNat := by
  have : (textD D)[i]'(by rw [textD_size]; exact h) = byteZ (D.getD i 0) := by
    have hl : i < (D.map byteZ).length := by simpa using h
    show (D.map byteZ).toArray[i]'(by simpa using h) = _
    rw [List.getElem_toArray, List.getElem_map, List.getD_eq_getElem?_getD, List.getElem?_eq_getElem h]
    rfl
  rw [this]
  have := byteZ_toNat (D.getD i 0)
  omega
theorem textD_wrap (D : List Int) (i : Nat) (h : i < (textD D).size) : (((textD D)[i]'h).toNat : Int) = IntKind.u8.wrap (D.getD i 0) := by
  have h2 : i < D.length := by rw [textD_size] at h; exact h
  have := textD_at D i h2
  rw [wrap_u8]
  omega
def bcells (l : List UInt8) : List Value := l.map fun b => Value.int .u8 (b.toNat : Int)
theorem bcells_length (l : List UInt8) : (bcells l).length = l.length := by simp [bcells]
theorem foldl_push (ns : List UInt8) : ∀ r : ByteArray, ns.foldl (fun r b => r.push b) r = ⟨(r.data.toList ++ ns).toArray⟩ := by
  induction ns with
  | nil => intro r; simp
  | cons a ns ih =>
    intro r
    rw [List.foldl_cons, ih]
    simp [ByteArray.push]
theorem foldl_push_int (ns : List UInt8) (r : ByteArray) : (ns.map fun b => (b.toNat : Int)).foldl (fun r n => r.push (UInt8.ofNat n.toNat)) r = ns.foldl (fun r b => r.push b) r := by
  rw [List.foldl_map]
  congr 1
  funext r b
  rw [Int.toNat_natCast, UInt8.ofNat_toNat]
end Vc
end Go.Proofs.Ytlapinecmiacoaa
namespace Go.Proofs.Ytlapinecmiacoaa
open Go.ChangeShapes Go.WideShapes Go.ChangeAt Go.RowKit Nm Vc

end Go.Proofs.Ytlapinecmiacoaa
namespace Go.Proofs.Ytlapinecmiacoaa
open Go.ChangeShapes Go.WideShapes Go.ChangeAt Go.RowKit Nm Vc

section
variable (w : World) (x y at_ : Int) (A : Option Addr) (n c : Nat)
end
theorem vc_less (a b : Nat) (h : a < b) : b - ((a : Int) + 1).toNat < b - (a : Int).toNat := by omega
theorem vc_add_i (a b : Nat) (h : a + b < 1000000) : IntKind.i64.wrap ((a : Int) + (b : Int)) = ((a + b : Nat) : Int) := (IntWalk.i64_in _ (by omega)).trans (Int.natCast_add a b).symm
theorem vc_add_w (a b : Nat) (h : a + b < 1000000) : wrap64 ((a : Int) + (b : Int)) = ((a + b : Nat) : Int) := (IntWalk.wrap64_in _ (by omega)).trans (Int.natCast_add a b).symm
theorem vc_mul_i (a b : Nat) (h : a * b < 1000000) : IntKind.i64.wrap ((a : Int) * (b : Int)) = ((a * b : Nat) : Int) := (IntWalk.i64_in _ (by rw [← Int.natCast_mul]; omega)).trans (Int.natCast_mul a b).symm
theorem vc_mul_w (a b : Nat) (h : a * b < 1000000) : wrap64 ((a : Int) * (b : Int)) = ((a * b : Nat) : Int) := (IntWalk.wrap64_in _ (by rw [← Int.natCast_mul]; omega)).trans (Int.natCast_mul a b).symm
section
variable (w : World) (x y k : Nat) (A : Option Addr) (n c : Nat) (D : List Int)
end
end Go.Proofs.Ytlapinecmiacoaa
namespace Go.Proofs.Ytlapinecmiacoaa
open Go.ChangeShapes Go.WideShapes Go.ChangeAt Go.RowKit Nm Vc

namespace Vc
/-- Rows of numbers behind a slice: where each is, how many it may hold. -/
def LIn (w : World) (A : Option Addr) (B : Nat → Option Addr) (C : Nat → Nat) (L : List (List Int)) : Prop :=
  0 < L.length → ∃ pb po, A = some ⟨pb, po, none⟩ ∧ ∀ i, i < L.length → w.cell? ⟨pb, po + i, none⟩ = some (.slice (B i) (L.getD i []).length (C i)) ∧ KIn .i64 w (B i) (L.getD i [])
theorem LIn.below {w w' : World} {A : Option Addr} {B : Nat → Option Addr} {C : Nat → Nat} {L : List (List Int)} {N : Nat} (h : LIn w A B C L) (hb : Below N w w') (hN : w.heap.size ≤ N) : LIn w' A B C L := fun h0 => by
  obtain ⟨pb, po, e, hc⟩ := h h0
  exact ⟨pb, po, e, fun i hi => ⟨(hb.cell (p := ⟨pb, po + i, none⟩) (Nat.lt_of_lt_of_le (block_lt_of_cell (hc i hi).1) hN)).trans (hc i hi).1, (hc i hi).2.below hb hN⟩⟩
theorem LIn.at {w : World} {A : Option Addr} {B : Nat → Option Addr} {C : Nat → Nat} {L : List (List Int)} (h : LIn w A B C L) {i : Nat} (hi : i < L.length) :
    ∃ pb po, A = some ⟨pb, po, none⟩ ∧ w.cell? ⟨pb, po + i, none⟩ = some (.slice (B i) (L.getD i []).length (C i)) ∧ KIn .i64 w (B i) (L.getD i []) := by
  obtain ⟨pb, po, e, hc⟩ := h (by omega)
  exact ⟨pb, po, e, hc i hi⟩
/-- Whether the first k rows have as many numbers as the first. -/
def evenTo (L : List (List Int)) (k : Nat) : Prop := ∀ i, i < k → (L.getD i []).length = (L.getD 0 []).length
end Vc
section
variable (w : World) (A : Option Addr) (c : Nat) (B : Nat → Option Addr) (C : Nat → Nat) (L : List (List Int)) (n : Nat)
end
end Go.Proofs.Ytlapinecmiacoaa
namespace Go.Proofs.Ytlapinecmiacoaa
open Go.ChangeShapes Go.WideShapes Go.ChangeAt Go.RowKit Nm Vc

namespace Vc
theorem KIn.alloc {kd : IntKind} {w : World} {A : Option Addr} {zs : List Int} (h : KIn kd w A zs) (o : Obj) : KIn kd (w.alloc o) A zs := h.below ((Below.refl _ _).alloc (Nat.le_refl _) o) (Nat.le_refl _)
/-- A row of two numbers, made now. -/
theorem kin2 (w : World) (b : Nat) (x y : Int) (hb : w.heap.size = b) : KIn .i64 (w.alloc (.cells #[.int .i64 x, .int .i64 y] 3)) (some ⟨b, 0, none⟩) [x, y] := fun _ =>
  ⟨_, _, rfl, fun i hi => by
    subst hb
    rw [cell_of_row _ _ _ _ _ _ (heap_alloc_new w _), Nat.zero_add]
    match i, hi with
    | 0, _ => rfl
    | 1, _ => rfl⟩
/-- One of two. -/
def two {α : Type} (a b : α) (i : Nat) : α := if i = 0 then a else b
/-- A list of two rows, made now. -/
theorem lin2 {w : World} {A B : Option Addr} {n m c d : Nat} {zs us : List Int} (b : Nat) (hb : w.heap.size = b) (hz : zs.length = n) (hu : us.length = m) (hA : KIn .i64 w A zs) (hB : KIn .i64 w B us) :
    LIn (w.alloc (.cells #[.slice A n c, .slice B m d] 28)) (some ⟨b, 0, none⟩) (two A B) (two c d) [zs, us] := fun _ =>
  ⟨_, _, rfl, fun i hi => by
    subst hb
    rw [cell_of_row _ _ _ _ _ _ (heap_alloc_new w _), Nat.zero_add]
    match i, hi with
    | 0, _ => exact ⟨by rw [← hz]; rfl, hA.alloc _⟩
    | 1, _ => exact ⟨by rw [← hu]; rfl, hB.alloc _⟩⟩
/-- A row of one number, and of three, made now. -/
theorem kin1 (w : World) (b : Nat) (x : Int) (hb : w.heap.size = b) : KIn .i64 (w.alloc (.cells #[.int .i64 x] 3)) (some ⟨b, 0, none⟩) [x] := fun _ =>
  ⟨_, _, rfl, fun i hi => by
    subst hb
    rw [cell_of_row _ _ _ _ _ _ (heap_alloc_new w _), Nat.zero_add]
    match i, hi with
    | 0, _ => rfl⟩
theorem kin3 (w : World) (b : Nat) (x y z : Int) (hb : w.heap.size = b) : KIn .i64 (w.alloc (.cells #[.int .i64 x, .int .i64 y, .int .i64 z] 3)) (some ⟨b, 0, none⟩) [x, y, z] := fun _ =>
  ⟨_, _, rfl, fun i hi => by
    subst hb
    rw [cell_of_row _ _ _ _ _ _ (heap_alloc_new w _), Nat.zero_add]
    match i, hi with
    | 0, _ => rfl
    | 1, _ => rfl
    | 2, _ => rfl⟩
/-- A list of one row, made now. -/
theorem lin1 {w : World} {A : Option Addr} {n c : Nat} {zs : List Int} (b : Nat) (hb : w.heap.size = b) (hz : zs.length = n) (hA : KIn .i64 w A zs) :
    LIn (w.alloc (.cells #[.slice A n c] 28)) (some ⟨b, 0, none⟩) (fun _ => A) (fun _ => c) [zs] := fun _ =>
  ⟨_, _, rfl, fun i hi => by
    subst hb
    rw [cell_of_row _ _ _ _ _ _ (heap_alloc_new w _), Nat.zero_add]
    match i, hi with
    | 0, _ => exact ⟨by rw [← hz]; rfl, hA.alloc _⟩⟩
end Vc
end Go.Proofs.Ytlapinecmiacoaa
