/-
  Rows of numbers behind slices, and a table: what they are in plain words. No program's function here. No conditions.
  A row of bytes as a text; numbers of eight bits as bytes, and back. No program's function here. No conditions.
  Package vecs: fits and Good; the reference's Good. No conditions.
  Package vecs: a table's Row. Conditions: the table's numbers are there.
  Package vecs: Plus. Conditions: the list's rows are there, at most 4096 rows of at most 4096 numbers.
  Short rows of numbers, and lists of one or two rows, made for a call. No program's function here. No conditions.
  Package vecs: Of. Conditions: none; where there is a table, of at most 4096 bytes.
  Package vecs: a table's Times. Conditions: the table's numbers and the row's are there.
-/
import Derived.Test.YtkdkeokldcehhaaGreatDoorMg5
import Derived.Test.YtkdkeokldcehhaaGreatDoorMg1
import Derived.Laws.Rows
import Derived.Laws.BytesString
import Derived.Deep.OwnRows
import Derived.Laws.ResultCell
set_option maxRecDepth 100000
namespace Go.Proofs.YtkdkeokldcehhaaGreatDoor
open Go.ChangeShapes Go.WideShapes Go.ChangeAt Go.RowKit Nm

namespace Vc
/-- Numbers behind a slice: of no numbers nothing is asked. -/
def KIn (kd : IntKind) (w : World) (A : Option Addr) (zs : List Int) : Prop := 0 < zs.length → ∃ pb po, A = some ⟨pb, po, none⟩ ∧ ∀ i, i < zs.length → w.cell? ⟨pb, po + i, none⟩ = some (.int kd (zs.getD i 0))
theorem KIn.below {kd : IntKind} {w w' : World} {A : Option Addr} {zs : List Int} {B : Nat} (h : KIn kd w A zs) (hb : Below B w w') (hB : w.heap.size ≤ B) : KIn kd w' A zs := fun h0 => by
  obtain ⟨pb, po, e, hc⟩ := h h0
  exact ⟨pb, po, e, fun i hi => (hb.cell (p := ⟨pb, po + i, none⟩) (Nat.lt_of_lt_of_le (block_lt_of_cell (hc i hi)) hB)).trans (hc i hi)⟩
/-- Cells of blocks below B. -/
def KLow (B : Nat) (A : Option Addr) (zs : List Int) : Prop := 0 < zs.length → ∀ a, A = some a → a.block < B
theorem KIn.low {kd : IntKind} {w : World} {A : Option Addr} {zs : List Int} (h : KIn kd w A zs) : KLow w.heap.size A zs := fun h0 a ha => by
  obtain ⟨pb, po, e, hc⟩ := h h0
  have := block_lt_of_cell (hc 0 h0)
  rw [e] at ha
  injection ha with ha
  rw [← ha]
  exact this
theorem KIn.keep {kd : IntKind} {w w' : World} {A : Option Addr} {zs : List Int} {B : Nat} (h : KIn kd w A zs) (hl : KLow B A zs) (hb : Below B w w') : KIn kd w' A zs := fun h0 => by
  obtain ⟨pb, po, e, hc⟩ := h h0
  exact ⟨pb, po, e, fun i hi => (hb.cell (p := ⟨pb, po + i, none⟩) (show pb < B from hl h0 ⟨pb, po, none⟩ e)).trans (hc i hi)⟩
theorem KIn.drewN {kd : IntKind} {w : World} {A : Option Addr} {zs : List Int} (h : KIn kd w A zs) (n : Nat) : KIn kd (w.drewN n) A zs := h
theorem KIn.nil (kd : IntKind) (w : World) (A : Option Addr) : KIn kd w A [] := fun h => absurd h (by simp)
theorem KIn.holds {w : World} {b o : Nat} {zs : List Int} (h : KIn .i64 w (some ⟨b, o, none⟩) zs) : Holds w b o zs := fun i hi => by
  obtain ⟨pb, po, e, hc⟩ := h (by omega)
  injection e with e
  injection e with e1 e2 _
  subst e1 e2
  exact hc i hi
theorem KIn.at {kd : IntKind} {w : World} {A : Option Addr} {zs : List Int} (h : KIn kd w A zs) {i : Nat} (hi : i < zs.length) : ∃ pb po, A = some ⟨pb, po, none⟩ ∧ w.cell? ⟨pb, po + i, none⟩ = some (.int kd (zs.getD i 0)) := by
  obtain ⟨pb, po, e, hc⟩ := h (by omega)
  exact ⟨pb, po, e, hc i hi⟩
theorem KIn.row {kd : IntKind} {w : World} {g n : Nat} {t : TypeId} {zs : List Int} (h : w.rowIs g t n fun i => .int kd (zs.getD i 0)) (hn : zs.length ≤ n) : KIn kd w (some ⟨g, 0, none⟩) zs := fun _ =>
  ⟨g, 0, rfl, fun i hi => by rw [Nat.zero_add]; exact h.cell (by omega)⟩

/-- Numbers of eight bits. -/
def I8 (D : List Int) : Prop := ∀ i, i < D.length → -128 ≤ D.getD i 0 ∧ D.getD i 0 ≤ 127
theorem I8.wrap {D : List Int} (h : I8 D) {i : Nat} (hi : i < D.length) : wrap64 (D.getD i 0) = D.getD i 0 := IntWalk.wrap64_in _ (by have := h i hi; omega)

/-- Whether a side can be, and a table. -/
def fitB (x : Int) : Bool := decide (1 ≤ x) && decide (x ≤ 64)
def goodB (x y : Int) (n : Nat) : Bool := fitB x && (fitB y && decide ((n : Int) = x * y))
theorem fitB_iff {x : Int} : fitB x = true ↔ 1 ≤ x ∧ x ≤ 64 := by unfold fitB; simp
theorem goodB_iff {x y : Int} {n : Nat} : goodB x y n = true ↔ (1 ≤ x ∧ x ≤ 64) ∧ (1 ≤ y ∧ y ≤ 64) ∧ (n : Int) = x * y := by unfold goodB; simp [fitB_iff]
/-- A table's value, and its block. -/
def tbA (x y : Int) (A : Option Addr) (n c : Nat) : Array Value := #[.int .i64 x, .int .i64 y, .slice A n c]
def tbV (x y : Int) (A : Option Addr) (n c : Nat) : Value := .agg (tbA x y A n c)
def tbO (x y : Int) (A : Option Addr) (n c : Nat) : Obj := .cells (tbA x y A n c) 120 (0, 0)
theorem tb0 {w : World} {b : Nat} {x y : Int} {A : Option Addr} {n c : Nat} (h : w.heap[b]? = some (tbO x y A n c)) : w.cell? ⟨b, 0, none⟩ = some (.int .i64 x) := by rw [cell_of_row w b 0 _ _ _ h]; rfl
theorem tb1 {w : World} {b : Nat} {x y : Int} {A : Option Addr} {n c : Nat} (h : w.heap[b]? = some (tbO x y A n c)) : w.cell? ⟨b, 1, none⟩ = some (.int .i64 y) := by rw [cell_of_row w b 1 _ _ _ h]; rfl
theorem tb2 {w : World} {b : Nat} {x y : Int} {A : Option Addr} {n c : Nat} (h : w.heap[b]? = some (tbO x y A n c)) : w.cell? ⟨b, 2, none⟩ = some (.slice A n c) := by rw [cell_of_row w b 2 _ _ _ h]; rfl
/-- The product of two sides wraps nowhere. -/
theorem sides {x y : Int} (hx : 1 ≤ x ∧ x ≤ 64) (hy : 1 ≤ y ∧ y ≤ 64) : 1 ≤ x * y ∧ x * y ≤ 4096 := by
  have h1 := Int.mul_le_mul hx.2 hy.2 (by omega) (by omega)
  have h2 := Int.mul_le_mul hx.1 hy.1 (by omega) (by omega)
  omega
/-- The numbers of a row of a table; what a table is times a row; rows together; a row scaled. -/
def rowD (D : List Int) (y at_ : Nat) : List Int := (List.range y).map fun i => D.getD (at_ * y + i) 0
def timesL (D : List Int) (x y : Nat) (v : List Int) (n : Int) : List Int := (List.range x).map fun i => sat (shift (dot (rowD D y i) v) n)
def placeL (L : List (List Int)) (k : Nat) : List Int := L.map fun l => l.getD k 0
def plusL (L : List (List Int)) (n : Nat) : List Int := (List.range n).map fun k => sat (sum (placeL L k))
def scaleL (v : List Int) (m n : Int) : List Int := v.map fun x => mul x m n
theorem rowD_length (D : List Int) (y k : Nat) : (rowD D y k).length = y := by simp [rowD]
theorem timesL_length (D : List Int) (x y : Nat) (v : List Int) (n : Int) : (timesL D x y v n).length = x := by simp [timesL]
theorem placeL_length (L : List (List Int)) (k : Nat) : (placeL L k).length = L.length := by simp [placeL]
theorem plusL_length (L : List (List Int)) (n : Nat) : (plusL L n).length = n := by simp [plusL]
theorem scaleL_length (v : List Int) (m n : Int) : (scaleL v m n).length = v.length := by simp [scaleL]
theorem getD_map_range (n : Nat) (f : Nat → Int) (i : Nat) (h : i < n) : ((List.range n).map f).getD i 0 = f i := by
  rw [List.getD_eq_getElem?_getD, List.getElem?_map, List.getElem?_range h]
  rfl
theorem rowD_at (D : List Int) (y k i : Nat) (h : i < y) : (rowD D y k).getD i 0 = D.getD (k * y + i) 0 := getD_map_range _ _ _ h
theorem timesL_at (D : List Int) (x y : Nat) (v : List Int) (n : Int) (i : Nat) (h : i < x) : (timesL D x y v n).getD i 0 = sat (shift (dot (rowD D y i) v) n) := getD_map_range _ _ _ h
theorem plusL_at (L : List (List Int)) (n k : Nat) (h : k < n) : (plusL L n).getD k 0 = sat (sum (placeL L k)) := getD_map_range _ _ _ h
theorem placeL_at (L : List (List Int)) (k i : Nat) (h : i < L.length) : (placeL L k).getD i 0 = (L.getD i []).getD k 0 := by
  unfold placeL
  rw [List.getD_eq_getElem?_getD, List.getElem?_map, List.getD_eq_getElem?_getD (l := L), List.getElem?_eq_getElem h]
  rfl
theorem scaleL_at (v : List Int) (m n : Int) (i : Nat) (h : i < v.length) : (scaleL v m n).getD i 0 = mul (v.getD i 0) m n := by
  unfold scaleL
  rw [List.getD_eq_getElem?_getD, List.getElem?_map, List.getD_eq_getElem?_getD (l := v), List.getElem?_eq_getElem h]
  rfl
/-- Cells of numbers of which the first k are there. -/
def prt (kd : IntKind) (R : List Int) (k i : Nat) : Value := if i < k then .int kd (R.getD i 0) else .int kd 0
theorem prt_all (kd : IntKind) (R : List Int) (n i : Nat) (h : i < n) : prt kd R n i = .int kd (R.getD i 0) := if_pos h
theorem prt_none (kd : IntKind) (R : List Int) : prt kd R 0 = fun _ => .int kd 0 := by
  funext i
  exact if_neg (by omega)
theorem prt_set {kd : IntKind} {w : World} {g n : Nat} {t : TypeId} {R : List Int} {k : Nat} {z : Int} (h : w.rowIs g t n (prt kd R k)) (hz : R.getD k 0 = z) : (w.setCell ⟨g, k, none⟩ (.int kd z)).rowIs g t n (prt kd R (k + 1)) :=
  (h.set k _).congr fun i _ => by
    unfold prt
    by_cases e : i = k
    · subst e
      rw [if_pos rfl, if_pos (by omega), hz]
    · rw [if_neg e]
      by_cases hi : i < k
      · rw [if_pos hi, if_pos (by omega)]
      · rw [if_neg hi, if_neg (by omega)]
theorem info_int : (Tryz.prog.info? 3).map (fun i => (i.zero, i.size, i.bytes)) = some (some (.int .i64 0), 1, 8) := by kernel_rfl
theorem info_i8 : (Tryz.prog.info? 137).map (fun i => (i.zero, i.size, i.bytes)) = some (some (.int .i8 0), 1, 1) := by kernel_rfl
theorem info_u8 : (Tryz.prog.info? 5).map (fun i => (i.zero, i.size, i.bytes)) = some (some (.int .u8 0), 1, 1) := by kernel_rfl
/-- What a call answers that makes a row of numbers. -/
def RowSays (w : World) (f : Value → Value) (R : List Int) (e : Ending) (w' : World) : Prop := ∃ A c, e = .returned (f (.slice A R.length c)) ∧ KIn .i64 w' A R ∧ Below w.heap.size w w'
end Vc
end Go.Proofs.YtkdkeokldcehhaaGreatDoor
namespace Go.Proofs.YtkdkeokldcehhaaGreatDoor
open Go.ChangeShapes Go.WideShapes Go.ChangeAt Go.RowKit Nm Vc

namespace Vc
/-- Numbers as bytes. -/
def byteZ (z : Int) : UInt8 := UInt8.ofNat (z % 256).toNat
def textD (D : List Int) : ByteArray := ⟨(D.map byteZ).toArray⟩
theorem byteZ_toNat (z : Int) : ((byteZ z).toNat : Int) = z % 256 := by
  unfold byteZ
  rw [UInt8.toNat_ofNat', Nat.mod_eq_of_lt (by omega)]
  omega
theorem textD_size (D : List Int) : (textD D).size = D.length := by show (D.map byteZ).toArray.size = _; rw [List.size_toArray, List.length_map]
theorem wrap_u8 (z : Int) : IntKind.u8.wrap z = z % 256 := by simp [IntKind.wrap, IntKind.bits, IntKind.signed]
/-- A byte as a number of eight bits. -/
def i8 (b : UInt8) : Int := if b.toNat < 128 then b.toNat else b.toNat - 256
theorem wrap_i8_all : ∀ n : Fin 256, IntKind.i8.wrap ((n.1 : Nat) : Int) = if n.1 < 128 then (n.1 : Int) else (n.1 : Int) - 256 := by decide +kernel
theorem wrap_i8 (b : UInt8) : IntKind.i8.wrap (b.toNat : Int) = i8 b := wrap_i8_all ⟨b.toNat, UInt8.toNat_lt b⟩
theorem byteZ_i8 (b : UInt8) : byteZ (i8 b) = b := by
  have hb := UInt8.toNat_lt b
  apply UInt8.toNat_inj.1
  have h1 := byteZ_toNat (i8 b)
  have h2 : i8 b % 256 = (b.toNat : Int) := by
    unfold i8
    split <;> omega
  omega
def listD (s : ByteArray) : List Int := s.data.toList.map i8
theorem listD_length (s : ByteArray) : (listD s).length = s.size := by unfold listD; rw [List.length_map, Array.length_toList]; rfl
theorem textD_listD (s : ByteArray) : textD (listD s) = s := by
  unfold textD listD
  rw [List.map_map]
  have : (byteZ ∘ i8) = id := by funext b; exact byteZ_i8 b
  rw [this, List.map_id]
theorem listD_at (s : ByteArray) (i : Nat) (h : i < s.size) : (listD s).getD i 0 = i8 (s[i]'h) := by
  unfold listD
  have hl : i < s.data.toList.length := h
  rw [List.getD_eq_getElem?_getD, List.getElem?_map, List.getElem?_eq_getElem hl]
  rfl
theorem i8_in (b : UInt8) : -128 ≤ i8 b ∧ i8 b ≤ 127 := by
  have := UInt8.toNat_lt b
  unfold i8
  split <;> omega
theorem listD_I8 (s : ByteArray) : I8 (listD s) := fun i hi => by
  rw [listD_at s i (by rw [listD_length] at hi; exact hi)]
  exact i8_in _
theorem textD_at (D : List Int) (i : Nat) (h : i < D.length) : ((textD D)[i]'(by rw [textD_size]; exact h)).toNat = (D.getD i 0 % 256).toNat := by
  have : (textD D)[i]'(by rw [textD_size]; exact h) = byteZ (D.getD i 0) := by
    have hl : i < (D.map byteZ).length := by simpa using h
    show (D.map byteZ).toArray[i]'(by simpa using h) = _
    rw [List.getElem_toArray, List.getElem_map, List.getD_eq_getElem?_getD, List.getElem?_eq_getElem h]
    rfl
  rw [this]
  have := byteZ_toNat (D.getD i 0)
  omega
theorem textD_wrap (D : List Int) (i : Nat) (h : i < (textD D).size) : (((textD D)[i]'h).toNat : Int) = IntKind.u8.wrap (D.getD i 0) := by
  have h2 : i < D.length := by rw [textD_size] at h; exact h
  have := textD_at D i h2
  rw [wrap_u8]
  omega
def bcells (l : List UInt8) : List Value := l.map fun b => Value.int .u8 (b.toNat : Int)
theorem bcells_length (l : List UInt8) : (bcells l).length = l.length := by simp [bcells]
theorem foldl_push (ns : List UInt8) : ∀ r : ByteArray, ns.foldl (fun r b => r.push b) r = ⟨(r.data.toList ++ ns).toArray⟩ := by
  induction ns with
  | nil => intro r; simp
  | cons a ns ih =>
    intro r
    rw [List.foldl_cons, ih]
    simp [ByteArray.push]
theorem foldl_push_int (ns : List UInt8) (r : ByteArray) : (ns.map fun b => (b.toNat : Int)).foldl (fun r n => r.push (UInt8.ofNat n.toNat)) r = ns.foldl (fun r b => r.push b) r := by
  rw [List.foldl_map]
  congr 1
  funext r b
  rw [Int.toNat_natCast, UInt8.ofNat_toNat]
/-- A slice of bytes as a string. -/
theorem run_text8 (w : World) (a : Addr) (n cap : Nat) (l : List UInt8) (hn : n = l.length) (h : ∀ j u, (bcells l)[j]? = some u → w.cell? (a.add j) = some u) :
    (convert 59 9 (.slice (some a) n cap)).run Tryz.prog w = .ok (.string ⟨l.toArray⟩) w := by
  subst hn
  rw [run_convert_bytes_string w _ _ 5 _ l.length cap Tryz.underlying59 Tryz.underlying5 Tryz.underlying9]
  have hl := run_loadCells_list (P := Tryz.prog) w a (bcells l) h
  have e : bcells l = (l.map fun b => (b.toNat : Int)).map (Value.int .u8) := by simp [bcells, List.map_map, Function.comp_def]
  rw [bcells_length] at hl
  rw [e] at hl
  rw [run_bytesToString w a l.length cap (l.map fun b => (b.toNat : Int)) hl, foldl_push_int, foldl_push]
  simp
theorem run_textD {w : World} {g n cap : Nat} {t : TypeId} {D : List Int} (h : w.rowIs g t n (prt .u8 (D.map (· % 256)) n)) (hn : n = D.length) :
    (convert 59 9 (.slice (some ⟨g, 0, none⟩) n cap)).run Tryz.prog w = .ok (.string (textD D)) w := by
  refine run_text8 w _ n cap (D.map byteZ) (by rw [List.length_map, hn]) fun j x hj => ?_
  have hl := (List.getElem?_eq_some_iff.1 hj).1
  rw [bcells_length, List.length_map] at hl
  rw [Addr.add_lit, Nat.zero_add, h.cell (by omega), prt_all _ _ _ _ (by omega), ← hj]
  unfold bcells
  rw [List.getElem?_map, List.getElem?_map, List.getElem?_eq_getElem hl, List.getD_eq_getElem?_getD, List.getElem?_map, List.getElem?_eq_getElem hl]
  show _ = some (Value.int .u8 ((byteZ D[j]).toNat : Int))
  rw [byteZ_toNat]
  rfl
end Vc
end Go.Proofs.YtkdkeokldcehhaaGreatDoor
namespace Go.Proofs.YtkdkeokldcehhaaGreatDoor
open Go.ChangeShapes Go.WideShapes Go.ChangeAt Go.RowKit Nm Vc

theorem vecs_fits (x : Int) (w : World) : Calls Tryz.prog 134 #[.int .i64 x] w fun e w' => e = .returned (.bool (fitB x)) ∧ w = w' := by
  by_cases h1 : 1 ≤ x
  · have t1 : decide (1 ≤ x) = true := decide_eq_true h1
    have HF := Lib.hid (show fitB x = decide (x ≤ 64) by unfold fitB; rw [t1, Bool.true_and])
    go_enter Tryz.func134, Tryz.ntmps134
    go_wp2_with (fail)
    refine bodyPost_ret (results_tmp rfl _ _ _) rfl ?_
    rw [HF.out]
    exact ⟨rfl, rfl⟩
  · have t1 : decide (1 ≤ x) = false := decide_eq_false h1
    have HF := Lib.hid (show fitB x = false by unfold fitB; rw [t1, Bool.false_and])
    go_enter Tryz.func134, Tryz.ntmps134
    go_wp2_with (fail)
    refine bodyPost_ret (results_tmp rfl _ _ _) rfl ?_
    rw [HF.out]
    exact ⟨rfl, rfl⟩
set_option maxRecDepth 100000 in
set_option maxHeartbeats 800000 in
theorem vecs_good (x y : Int) (A : Option Addr) (n c : Nat) (w : World) : Calls Tryz.prog 125 #[tbV x y A n c] w fun e w' => e = .returned (.bool (goodB x y n)) ∧ Below w.heap.size w w' := by
  have HB := Lib.hid ((Below.refl w.heap.size w).alloc (Nat.le_refl _) (tbO x y A n c))
  unfold tbV tbA
  by_cases hx : fitB x = true
  · by_cases hy : fitB y = true
    · have hs := sides (fitB_iff.1 hx) (fitB_iff.1 hy)
      have HG := Lib.hid (show goodB x y n = ((n : Int) == x * y) by unfold goodB; rw [hx, hy, Bool.true_and, Bool.true_and]; rfl)
      have e1 := IntWalk.wrap64_in (x * y) (by omega)
      have e2 : IntKind.i64.wrap (x * y) = x * y := IntWalk.i64_in _ (by omega)
      generalize hq : x * y = q at e1 e2 HG hs
      go_enter Tryz.func125, Tryz.ntmps125
      go_wp2_with (go_at_call 134; refine (vecs_fits _ _).mono ?_; rintro e w' ⟨rfl, rfl⟩)
      refine bodyPost_ret (results_tmp rfl _ _ _) rfl ?_
      rw [HG.out]
      exact ⟨rfl, HB.out⟩
    · have hy' : fitB y = false := by simpa using hy
      have HG := Lib.hid (show goodB x y n = false by unfold goodB; rw [hx, hy']; rfl)
      clear hy
      go_enter Tryz.func125, Tryz.ntmps125
      go_wp2_with (go_at_call 134; refine (vecs_fits _ _).mono ?_; rintro e w' ⟨rfl, rfl⟩)
      refine bodyPost_ret (results_tmp rfl _ _ _) rfl ?_
      rw [HG.out]
      exact ⟨rfl, HB.out⟩
  · have hx' : fitB x = false := by simpa using hx
    have HG := Lib.hid (show goodB x y n = false by unfold goodB; rw [hx']; rfl)
    clear hx
    go_enter Tryz.func125, Tryz.ntmps125
    go_wp2_with (go_at_call 134; refine (vecs_fits _ _).mono ?_; rintro e w' ⟨rfl, rfl⟩)
    refine bodyPost_ret (results_tmp rfl _ _ _) rfl ?_
    rw [HG.out]
    exact ⟨rfl, HB.out⟩
end Go.Proofs.YtkdkeokldcehhaaGreatDoor
namespace Go.Proofs.YtkdkeokldcehhaaGreatDoor
open Go.ChangeShapes Go.WideShapes Go.ChangeAt Go.RowKit Nm Vc

section
variable (w : World) (x y at_ : Int) (A : Option Addr) (n c : Nat)
set_option maxRecDepth 100000 in
set_option maxHeartbeats 800000 in
theorem table_row_not (h : goodB x y n = false ∨ at_ < 0 ∨ x ≤ at_) : Calls Tryz.prog 98 #[tbV x y A n c, .int .i64 at_] w fun e w' => e = .returned (.slice none 0 0) ∧ Below w.heap.size w w' := by
  have HG := Lib.hid (fun W => vecs_good x y A n c W)
  have B0 := Lib.hid ((Below.refl w.heap.size w).alloc (Nat.le_refl _) (tbO x y A n c))
  have N0 := Lib.hid (heap_alloc_new w (tbO x y A n c))
  have H := Lib.hid h
  clear h
  unfold tbV tbA at HG ⊢
  cases hg : goodB x y n with
  | false =>
    rw [hg] at HG
    go_enter Tryz.func98, Tryz.ntmps98
    go_wp2_with (fail)
    refine (HG.out _).mono ?_
    rintro e w1 ⟨rfl, b1⟩
    have B1 := Lib.hid (B0.out.trans (b1.mono (by simp)))
    clear b1
    go_wp2_with (fail)
    refine bodyPost_ret (results_tmp rfl _ _ _) rfl ?_
    exact ⟨rfl, B1.out⟩
  | true =>
    rw [hg] at HG
    have h2 : at_ < 0 ∨ x ≤ at_ := by
      rcases H.out with h | h
      · rw [hg] at h; cases h
      · exact h
    by_cases h0 : at_ < 0
    · have t0 : decide (at_ < 0) = true := decide_eq_true h0
      clear h2
      go_enter Tryz.func98, Tryz.ntmps98
      go_wp2_with (fail)
      refine (HG.out _).mono ?_
      rintro e w1 ⟨rfl, b1⟩
      have B1 := Lib.hid (B0.out.trans (b1.mono (by simp)))
      clear b1
      go_wp2_with (fail)
      refine bodyPost_ret (results_tmp rfl _ _ _) rfl ?_
      exact ⟨rfl, B1.out⟩
    · have t0 : decide (at_ < 0) = false := decide_eq_false h0
      have h1 : x ≤ at_ := h2.resolve_left h0
      have t1 : decide (x ≤ at_) = true := decide_eq_true h1
      clear h2
      go_enter Tryz.func98, Tryz.ntmps98
      go_wp2_with (fail)
      refine (HG.out _).mono ?_
      rintro e w1 ⟨rfl, b1⟩
      have B1 := Lib.hid (B0.out.trans (b1.mono (by simp)))
      have d0 := tb0 ((b1.block _ (by simp)).trans N0.out)
      clear b1
      go_wp2_with (fail)
      refine bodyPost_ret (results_tmp rfl _ _ _) rfl ?_
      exact ⟨rfl, B1.out⟩
end
theorem vc_less (a b : Nat) (h : a < b) : b - ((a : Int) + 1).toNat < b - (a : Int).toNat := by omega
theorem vc_add_i (a b : Nat) (h : a + b < 1000000) : IntKind.i64.wrap ((a : Int) + (b : Int)) = ((a + b : Nat) : Int) := (IntWalk.i64_in _ (by omega)).trans (Int.natCast_add a b).symm
theorem vc_add_w (a b : Nat) (h : a + b < 1000000) : wrap64 ((a : Int) + (b : Int)) = ((a + b : Nat) : Int) := (IntWalk.wrap64_in _ (by omega)).trans (Int.natCast_add a b).symm
theorem vc_mul_i (a b : Nat) (h : a * b < 1000000) : IntKind.i64.wrap ((a : Int) * (b : Int)) = ((a * b : Nat) : Int) := (IntWalk.i64_in _ (by rw [← Int.natCast_mul]; omega)).trans (Int.natCast_mul a b).symm
theorem vc_mul_w (a b : Nat) (h : a * b < 1000000) : wrap64 ((a : Int) * (b : Int)) = ((a * b : Nat) : Int) := (IntWalk.wrap64_in _ (by rw [← Int.natCast_mul]; omega)).trans (Int.natCast_mul a b).symm
section
variable (w : World) (x y k : Nat) (A : Option Addr) (n c : Nat) (D : List Int)
set_option maxRecDepth 100000 in
set_option maxHeartbeats 1600000 in
theorem table_row (h : goodB (x : Int) (y : Int) n = true) (hD : D.length = n) (hk : k < x) (hA : KIn .i8 w A D) (hI : I8 D) :
    Calls Tryz.prog 98 #[tbV (x : Int) (y : Int) A n c, .int .i64 (k : Int)] w (RowSays w (fun v => v) (rowD D y k)) := by
  have HG := Lib.hid (fun W => vecs_good (x : Int) (y : Int) A n c W)
  have B0 := Lib.hid ((Below.refl w.heap.size w).alloc (Nat.le_refl _) (tbO (x : Int) (y : Int) A n c))
  have N0 := Lib.hid (heap_alloc_new w (tbO (x : Int) (y : Int) A n c))
  have HA := Lib.hid hA
  have HI8 := Lib.hid hI
  clear hI
  rw [h] at HG
  obtain ⟨hx, hy, hxy⟩ := goodB_iff.1 h
  have hy2 : y ≤ 64 := by omega
  have hy1 : 1 ≤ y := by omega
  have hx2 : x ≤ 64 := by omega
  have hn : n = x * y := by rw [← Int.natCast_mul] at hxy; omega
  have hky : k * y + y ≤ n := by
    rw [hn, ← Nat.succ_mul]
    exact Nat.mul_le_mul_right _ hk
  have hxy2 : k * y ≤ 64 * 64 := Nat.mul_le_mul (by omega) hy2
  have t0 : decide ((k : Int) < 0) = false := decide_eq_false (by omega)
  have t1 : decide ((x : Int) ≤ (k : Int)) = false := decide_eq_false (by omega)
  have HE := Lib.hid (And.intro (vc_mul_i k y (by omega)) (vc_mul_w k y (by omega)))
  obtain ⟨i0, hi, hz0, hz1, hz2⟩ := info_parts info_int
  have HI := Lib.hid hi
  have HZ0 := Lib.hid hz0
  have HZ1 := Lib.hid hz1
  have HZ2 := Lib.hid hz2
  have HL := Lib.hid hD
  have HLR := Lib.hid (rowD_length D y k)
  have HAT := Lib.hid (rowD_at D y k)
  clear hA h hi hz0 hz1 hz2 hD hx hy hxy hn
  generalize k * y = ky at HE hky hxy2 HAT
  generalize rowD D y k = R at HLR HAT ⊢
  unfold tbV tbA at HG ⊢
  go_enter Tryz.func98, Tryz.ntmps98
  go_wp2_with (fail)
  refine (HG.out _).mono ?_
  rintro e w1 ⟨rfl, b1⟩
  have hs1 : w.heap.size + 1 ≤ w1.heap.size := by have := b1.size; simp at this; omega
  have B1 := Lib.hid (B0.out.trans (b1.mono (by simp)))
  have N1 := Lib.hid ((b1.block _ (by simp)).trans N0.out)
  clear b1 HG B0 N0
  have d0 := tb0 N1.out
  have d1 := tb1 N1.out
  go_wp2_with (at_make; refine wpList_make_row _ rfl _ _ 45 rfl 3 i0 (.int .i64 0) Tryz.underlying45 HI.out HZ0.out HZ1.out rfl .i64 .i64 y rfl rfl (by rw [HZ2.out]; omega) (by omega) ?_)
  have HR0 := Lib.hid (show (w1.alloc (.cells (madeCells #[.int .i64 0] y) 3)).rowIs w1.heap.size 3 y (prt .i64 R 0) from (World.rowIs_made w1 (.int .i64 0) y 3).congr fun i _ => by rw [prt_none])
  have HB0 := Lib.hid (B1.out.alloc B1.out.size (.cells (madeCells #[.int .i64 0] y) 3))
  have HN0 := Lib.hid ((heap_alloc_old _ (.cells (madeCells #[.int .i64 0] y) 3) (show w.heap.size < w1.heap.size by omega)).trans N1.out)
  clear d0 d1 N1 B1
  obtain ⟨g, hg⟩ : ∃ g, g = w1.heap.size := ⟨_, rfl⟩
  rw [← hg] at HR0 ⊢
  have hgw : w.heap.size < g := by omega
  generalize w1.alloc (.cells (madeCells #[.int .i64 0] y) 3) = w2 at HR0 HB0 HN0 ⊢
  clear hg hs1
  go_loopw [25] (fun i wr => ∃ j : Nat, i = .int .i64 (j : Int) ∧ j ≤ y ∧ wr.rowIs g 3 y (prt .i64 R j) ∧ Below w.heap.size w wr ∧ wr.heap[w.heap.size]? = some (tbO (x : Int) (y : Int) A n c)) (fun i _ => match i with | .int _ k => y - k.toNat | _ => 0)
  case atStart => exact ⟨0, rfl, Nat.zero_le _, HR0.out, HB0.out, HN0.out⟩
  case round =>
    clear HR0 HB0 HN0
    obtain ⟨j, rfl, hj, hr, hb, hn⟩ := hrel
    have HR := Lib.hid hr
    have HB := Lib.hid hb
    have HN := Lib.hid hn
    clear hr hb hn
    have x2 : 0 ≤ (j : Int) := by omega
    by_cases hlt : j < y
    · have x0 : (j : Int) < (y : Int) := by omega
      have x1 : decide ((j : Int) < (y : Int)) = true := decide_eq_true x0
      have hsum : ky + j < 1000000 := by omega
      have y1 : 0 ≤ ((ky + j : Nat) : Int) := by omega
      have y2 : ((ky + j : Nat) : Int) < (n : Int) := by omega
      have hle : w.heap.size ≤ g := by omega
      have hne : w.heap.size ≠ g := by omega
      have hD := HL.out
      have hlt2 : ky + j < D.length := by omega
      have hj1 : j + 1 ≤ y := by omega
      obtain ⟨pb, po, rfl, hcell⟩ := (HA.out.below HB.out (Nat.le_refl _)).at hlt2
      have f1 := HR.out.frozen j
      have c1 := HR.out.cell hlt
      have d1 := tb1 HN.out
      have d2 := tb2 HN.out
      have HP := Lib.hid (prt_set HR.out (HAT.out j hlt))
      have HBS := Lib.hid (HB.out.setCell (p := ⟨g, j, none⟩) hle (.int .i64 (D.getD (ky + j) 0)))
      have HNS := Lib.hid ((heap_setCell_other wr ⟨g, j, none⟩ w.heap.size (.int .i64 (D.getD (ky + j) 0)) hne).trans HN.out)
      have x3 := IntWalk.wrap64_in ((j : Int) + 1) (by omega)
      have e5 := HI8.out.wrap hlt2
      have e1 := HE.out.1
      have e2 := HE.out.2
      have e3 := vc_add_i ky j hsum
      have e4 := vc_add_w ky j hsum
      generalize D.getD (ky + j) 0 = z at hcell HP HBS HNS e5
      generalize ky + j = m at e3 e4 hcell y1 y2 hsum
      clear hD hlt2
      go_wp2_with (fail)
      exact ⟨⟨j + 1, rfl, hj1, HP.out, HBS.out, HNS.out⟩, vc_less j y hlt⟩
    · have hke : j = y := by omega
      have x0 : ¬ (j : Int) < (y : Int) := by omega
      have x1 : decide ((j : Int) < (y : Int)) = false := decide_eq_false x0
      go_wp2_with (fail)
      refine bodyPost_ret (results_tmp rfl _ _ _) rfl ?_
      refine ⟨some ⟨g, 0, none⟩, y, ?_, KIn.row (HR.out.congr fun i hi => by rw [hke]; exact prt_all _ _ _ _ hi) (Nat.le_of_eq HLR.out), HB.out⟩
      rw [HLR.out]
      rfl
end
end Go.Proofs.YtkdkeokldcehhaaGreatDoor
namespace Go.Proofs.YtkdkeokldcehhaaGreatDoor
open Go.ChangeShapes Go.WideShapes Go.ChangeAt Go.RowKit Nm Vc

namespace Vc
/-- Rows of numbers behind a slice: where each is, how many it may hold. -/
def LIn (w : World) (A : Option Addr) (B : Nat → Option Addr) (C : Nat → Nat) (L : List (List Int)) : Prop :=
  0 < L.length → ∃ pb po, A = some ⟨pb, po, none⟩ ∧ ∀ i, i < L.length → w.cell? ⟨pb, po + i, none⟩ = some (.slice (B i) (L.getD i []).length (C i)) ∧ KIn .i64 w (B i) (L.getD i [])
theorem LIn.below {w w' : World} {A : Option Addr} {B : Nat → Option Addr} {C : Nat → Nat} {L : List (List Int)} {N : Nat} (h : LIn w A B C L) (hb : Below N w w') (hN : w.heap.size ≤ N) : LIn w' A B C L := fun h0 => by
  obtain ⟨pb, po, e, hc⟩ := h h0
  exact ⟨pb, po, e, fun i hi => ⟨(hb.cell (p := ⟨pb, po + i, none⟩) (Nat.lt_of_lt_of_le (block_lt_of_cell (hc i hi).1) hN)).trans (hc i hi).1, (hc i hi).2.below hb hN⟩⟩
theorem LIn.at {w : World} {A : Option Addr} {B : Nat → Option Addr} {C : Nat → Nat} {L : List (List Int)} (h : LIn w A B C L) {i : Nat} (hi : i < L.length) :
    ∃ pb po, A = some ⟨pb, po, none⟩ ∧ w.cell? ⟨pb, po + i, none⟩ = some (.slice (B i) (L.getD i []).length (C i)) ∧ KIn .i64 w (B i) (L.getD i []) := by
  obtain ⟨pb, po, e, hc⟩ := h (by omega)
  exact ⟨pb, po, e, hc i hi⟩
/-- Whether the first k rows have as many numbers as the first. -/
def evenTo (L : List (List Int)) (k : Nat) : Prop := ∀ i, i < k → (L.getD i []).length = (L.getD 0 []).length
end Vc
section
variable (w : World) (A : Option Addr) (c : Nat) (B : Nat → Option Addr) (C : Nat → Nat) (L : List (List Int)) (n : Nat)
set_option maxRecDepth 100000 in
set_option maxHeartbeats 800000 in
theorem vecs_plus_none : Calls Tryz.prog 114 #[.slice A 0 c] w fun e w' => e = .returned (.tuple #[.slice none 0 0, .int .i64 0]) ∧ w = w' := by
  go_enter Tryz.func114, Tryz.ntmps114
  go_wp2_with (fail)
  refine bodyPost_ret (results_tmp2 rfl _ _ _) rfl ?_
  exact ⟨rfl, rfl⟩
set_option maxRecDepth 100000 in
set_option maxHeartbeats 1600000 in
theorem vecs_plus_not (hn : L.length = n) (h0 : 0 < n) (hm : n ≤ 4096) (hA : LIn w A B C L) (h : ¬ evenTo L n) :
    Calls Tryz.prog 114 #[.slice A n c] w fun e w' => e = .returned (.tuple #[.slice none 0 0, .int .i64 1]) ∧ w = w' := by
  have HA := Lib.hid hA
  have HN := Lib.hid hn
  have HE := Lib.hid h
  obtain ⟨pa, oa, rfl, hc0, _⟩ := hA.at (show 0 < L.length by omega)
  rw [Nat.add_zero] at hc0
  have t0 : ((n : Int) == 0) = false := beq_eq_false_iff_ne.2 (by omega)
  have t1 : 0 < (n : Int) := by omega
  have HS := Lib.hid (rfl : (L.getD 0 []).length = (L.getD 0 []).length)
  generalize hs : (L.getD 0 []).length = s at hc0 HS
  have HSS := Lib.hid hs
  clear hA hn h hs
  go_enter Tryz.func114, Tryz.ntmps114
  go_wp2_with (fail)
  go_loopw [21] (fun i wr => ∃ j : Nat, i = .int .i64 (j : Int) ∧ j ≤ n ∧ wr = w ∧ evenTo L j) (fun i _ => match i with | .int _ k => n - k.toNat | _ => 0)
  case atStart => exact ⟨0, rfl, Nat.zero_le _, rfl, fun i hi => absurd hi (by omega)⟩
  case round =>
    obtain ⟨j, rfl, hj, rfl, he⟩ := hrel
    have HEJ := Lib.hid he
    clear he
    have x2 : 0 ≤ (j : Int) := by omega
    by_cases hlt : j < n
    · have x0 : (j : Int) < (n : Int) := by omega
      have x1 : decide ((j : Int) < (n : Int)) = true := decide_eq_true x0
      have HJ := Lib.hid (show j + 1 ≤ n by omega)
      obtain ⟨pb, po, e, hcell, _⟩ := HA.out.at (show j < L.length by rw [HN.out]; exact hlt)
      injection e with e
      injection e with e1 e2 _
      subst e1 e2
      by_cases hq : (L.getD j []).length = s
      · have t2 : (((L.getD j []).length : Int) == (s : Int)) = true := by rw [hq]; exact beq_self_eq_true _
        have HEN := Lib.hid (show evenTo L (j + 1) from fun i hi => by
          by_cases h : i = j
          · rw [h, hq, HSS.out]
          · exact HEJ.out i (by omega))
        clear hq
        generalize (L.getD j []).length = l at hcell t2
        have x3 := IntWalk.wrap64_in ((j : Int) + 1) (by omega)
        go_wp2_with (fail)
        exact ⟨⟨j + 1, rfl, HJ.out, by trivial, HEN.out⟩, vc_less j n hlt⟩
      · have t2 : (((L.getD j []).length : Int) == (s : Int)) = false := beq_eq_false_iff_ne.2 (by omega)
        clear hq
        generalize (L.getD j []).length = l at hcell t2
        go_wp2_with (fail)
        refine bodyPost_ret (results_tmp2 rfl _ _ _) rfl ?_
        exact ⟨rfl, rfl⟩
    · have hke : j = n := by omega
      rw [hke] at HEJ
      exact absurd HEJ.out HE.out
set_option maxRecDepth 100000 in
set_option maxHeartbeats 3200000 in
theorem vecs_plus (s : Nat) (hs : (L.getD 0 []).length = s) (hn : L.length = n) (h0 : 0 < n) (hm : n ≤ 4096) (hs2 : s ≤ 4096) (hA : LIn w A B C L) (h : evenTo L n) :
    Calls Tryz.prog 114 #[.slice A n c] w (RowSays w (fun v => .tuple #[v, .int .i64 0]) (plusL L s)) := by
  have HA := Lib.hid hA
  have HN := Lib.hid hn
  have HE := Lib.hid (show ∀ i, i < n → (L.getD i []).length = s from fun i hi => (h i hi).trans hs)
  obtain ⟨pa, oa, rfl, hc0, _⟩ := hA.at (show 0 < L.length by omega)
  rw [Nat.add_zero, hs] at hc0
  have t0 : ((n : Int) == 0) = false := beq_eq_false_iff_ne.2 (by omega)
  have t1 : 0 < (n : Int) := by omega
  have t2 : ((s : Int) == (s : Int)) = true := beq_self_eq_true _
  obtain ⟨i0, hi, hz0, hz1, hz2⟩ := info_parts info_int
  have HI := Lib.hid hi
  have HZ0 := Lib.hid hz0
  have HZ1 := Lib.hid hz1
  have HZ2 := Lib.hid hz2
  have HLR := Lib.hid (plusL_length L s)
  have HAT := Lib.hid (plusL_at L s)
  have HPL := Lib.hid (fun k => (placeL_length L k).trans hn)
  have HPA := Lib.hid (fun k i (h : i < n) => placeL_at L k i (by omega))
  clear hi hz0 hz1 hz2 hA hn h hs
  generalize plusL L s = R at HLR HAT ⊢
  generalize hpl : placeL L = P at HAT HPL HPA
  clear hpl
  go_enter Tryz.func114, Tryz.ntmps114
  go_wp2_with (fail)
  go_loopw [21] (fun i wr => ∃ j : Nat, i = .int .i64 (j : Int) ∧ j ≤ n ∧ w = wr) (fun i _ => match i with | .int _ k => n - k.toNat | _ => 0)
  case atStart => exact ⟨0, rfl, Nat.zero_le _, rfl⟩
  case round =>
    obtain ⟨j, rfl, hj, rfl⟩ := hrel
    have x2 : 0 ≤ (j : Int) := by omega
    by_cases hlt : j < n
    · have x0 : (j : Int) < (n : Int) := by omega
      have x1 : decide ((j : Int) < (n : Int)) = true := decide_eq_true x0
      have HJ := Lib.hid (show j + 1 ≤ n by omega)
      obtain ⟨pb, po, e, hcell, _⟩ := HA.out.at (show j < L.length by rw [HN.out]; exact hlt)
      injection e with e
      injection e with e1 e2 _
      subst e1 e2
      rw [HE.out j hlt] at hcell
      have x3 := IntWalk.wrap64_in ((j : Int) + 1) (by omega)
      go_wp2_with (fail)
      exact ⟨⟨j + 1, rfl, HJ.out, by trivial⟩, vc_less j n hlt⟩
    · have hke : j = n := by omega
      have x0 : ¬ (j : Int) < (n : Int) := by omega
      have x1 : decide ((j : Int) < (n : Int)) = false := decide_eq_false x0
      have HMK1 := Lib.hid (show s * 8 ≤ 281474976710655 ∧ n * 8 ≤ 281474976710655 by omega)
      clear hke
      go_wp2_with (first | (at_make; refine wpList_make_row _ rfl _ _ 45 rfl 3 i0 (.int .i64 0) Tryz.underlying45 HI.out HZ0.out HZ1.out rfl .i64 .i64 s rfl rfl (by rw [HZ2.out]; have := HMK1.out; omega) (by have := HMK1.out; omega) ?_) | (at_make; refine wpList_make_row _ rfl _ _ 45 rfl 3 i0 (.int .i64 0) Tryz.underlying45 HI.out HZ0.out HZ1.out rfl .i64 .i64 n rfl rfl (by rw [HZ2.out]; have := HMK1.out; omega) (by have := HMK1.out; omega) ?_))
      have hs1 : (w.alloc (.cells (madeCells #[.int .i64 0] s) 3)).heap.size = w.heap.size + 1 := by simp
      have HR0 := Lib.hid (show ((w.alloc (.cells (madeCells #[.int .i64 0] s) 3)).alloc (.cells (madeCells #[.int .i64 0] n) 3)).rowIs w.heap.size 3 s (prt .i64 R 0) from
        World.rowIs.of_block ((World.rowIs_made w (.int .i64 0) s 3).congr fun i _ => by rw [prt_none]) (heap_alloc_old _ _ (by omega)))
      have HQ0 := Lib.hid (show ((w.alloc (.cells (madeCells #[.int .i64 0] s) 3)).alloc (.cells (madeCells #[.int .i64 0] n) 3)).rowIs (w.heap.size + 1) 3 n (fun _ => .int .i64 0) from by
        have := World.rowIs_made (w.alloc (.cells (madeCells #[.int .i64 0] s) 3)) (.int .i64 0) n 3
        rw [hs1] at this
        exact this)
      have HB0 := Lib.hid (((Below.refl w.heap.size w).alloc (Nat.le_refl _) (.cells (madeCells #[.int .i64 0] s) 3)).alloc (by omega) (.cells (madeCells #[.int .i64 0] n) 3))
      clear hs1 hlt x0 x1 hj x2 t2
      generalize (w.alloc (.cells (madeCells #[.int .i64 0] s) 3)).alloc (.cells (madeCells #[.int .i64 0] n) 3) = wx at HR0 HQ0 HB0 ⊢
      go_loopw [37] (fun i wz => ∃ (k : Nat) (F : Nat → Value), i = .int .i64 (k : Int) ∧ k ≤ s ∧ wz.rowIs w.heap.size 3 s (prt .i64 R k) ∧ wz.rowIs (w.heap.size + 1) 3 n F ∧ Below w.heap.size w wz) (fun i _ => match i with | .int _ k => s - k.toNat | _ => 0)
      case atStart => exact ⟨0, _, rfl, Nat.zero_le _, HR0.out, HQ0.out, HB0.out⟩
      case round =>
        clear HR0 HQ0 HB0
        obtain ⟨k, F, rfl, hk, hr, hq, hb⟩ := hrel
        have HR := Lib.hid hr
        have HQ := Lib.hid hq
        have HB := Lib.hid hb
        clear hr hq hb
        have y2 : 0 ≤ (k : Int) := by omega
        by_cases hks : k < s
        · have y0 : (k : Int) < (s : Int) := by omega
          have y1 : decide ((k : Int) < (s : Int)) = true := decide_eq_true y0
          go_wp2_with (fail)
          go_loopw [42] (fun i wz => ∃ (q : Nat) (F : Nat → Value), i = .int .i64 (q : Int) ∧ q ≤ n ∧ wz.rowIs w.heap.size 3 s (prt .i64 R k) ∧ wz.rowIs (w.heap.size + 1) 3 n F ∧ (∀ i, i < q → F i = .int .i64 ((P k).getD i 0)) ∧ Below w.heap.size w wz) (fun i _ => match i with | .int _ k => n - k.toNat | _ => 0)
          case atStart => exact ⟨0, F, rfl, Nat.zero_le _, HR.out, HQ.out, fun i hi => absurd hi (by omega), HB.out⟩
          case round =>
            clear HR HQ HB
            obtain ⟨q, F, rfl, hq, hr, hqr, hf, hb⟩ := hrel
            have HR := Lib.hid hr
            have HQ := Lib.hid hqr
            have HB := Lib.hid hb
            have HF := Lib.hid hf
            clear hr hqr hb hf
            have z2 : 0 ≤ (q : Int) := by omega
            by_cases hqn : q < n
            · have z0 : (q : Int) < (n : Int) := by omega
              have z1 : decide ((q : Int) < (n : Int)) = true := decide_eq_true z0
              have HJ := Lib.hid (show q + 1 ≤ n by omega)
              obtain ⟨pb, po, e, hcell, hkin⟩ := (HA.out.below HB.out (Nat.le_refl _)).at (show q < L.length by rw [HN.out]; exact hqn)
              injection e with e
              injection e with e1 e2 _
              subst e1 e2
              obtain ⟨vb, vo, eb, hcell2⟩ := hkin.at (show k < (L.getD q []).length by rw [HE.out q hqn]; exact hks)
              rw [HE.out q hqn, eb] at hcell
              have HPQ := Lib.hid (HPA.out k q hqn)
              rw [← HPA.out k q hqn] at hcell2
              clear hkin eb
              have f1 := HQ.out.frozen q
              have c1 := HQ.out.cell hqn
              have HFN := Lib.hid (show ∀ i, i < q + 1 → (if i = q then Value.int .i64 ((P k).getD q 0) else F i) = .int .i64 ((P k).getD i 0) from fun i hi => by
                by_cases h : i = q
                · rw [if_pos h, h]
                · rw [if_neg h]; exact HF.out i (by omega))
              have HQS := Lib.hid (HQ.out.set q (.int .i64 ((P k).getD q 0)))
              have HRS := Lib.hid (HR.out.setOther (a := ⟨w.heap.size + 1, q, none⟩) (by show w.heap.size ≠ w.heap.size + 1; omega) (.int .i64 ((P k).getD q 0)))
              have HBS := Lib.hid (HB.out.setCell (p := ⟨w.heap.size + 1, q, none⟩) (Nat.le_succ _) (.int .i64 ((P k).getD q 0)))
              have z3 := IntWalk.wrap64_in ((q : Int) + 1) (by omega)
              generalize (P k).getD q 0 = z at hcell2 HFN HQS HRS HBS
              go_wp2_with (fail)
              exact ⟨⟨q + 1, _, rfl, HJ.out, HRS.out, HQS.out, HFN.out, HBS.out⟩, vc_less q n hqn⟩
            · have hqe : q = n := by omega
              have z0 : ¬ (q : Int) < (n : Int) := by omega
              have z1 : decide ((q : Int) < (n : Int)) = false := decide_eq_false z0
              have HH := Lib.hid (show Holds wr (w.heap.size + 1) 0 (P k) from fun i hi => by
                rw [HPL.out k] at hi
                rw [Nat.zero_add, HQ.out.cell hi, HF.out i (by omega)])
              have HM := Lib.hid (show n ≤ maxLen by unfold maxLen; omega)
              have HJ := Lib.hid (show k + 1 ≤ s by omega)
              have HXK := Lib.hid (HAT.out k hks)
              clear hqe
              go_wp2_with (fail)
              refine (sum_any (w.heap.size + 1) 0 n n (P k) wr (HPL.out k) HM.out HH.out).mono ?_
              rintro e w4 ⟨rfl, rfl⟩
              go_wp2_with (fail)
              refine (sat_any _ _).mono ?_
              rintro e w6 ⟨rfl, rfl⟩
              rw [← HXK.out]
              have f1 := HR.out.frozen k
              have c1 := HR.out.cell hks
              have HP := Lib.hid (prt_set HR.out (rfl : R.getD k 0 = R.getD k 0))
              have HQS := Lib.hid (HQ.out.setOther (a := ⟨w.heap.size, k, none⟩) (by show w.heap.size + 1 ≠ w.heap.size; omega) (.int .i64 (R.getD k 0)))
              have HBS := Lib.hid (HB.out.setCell (p := ⟨w.heap.size, k, none⟩) (Nat.le_refl _) (.int .i64 (R.getD k 0)))
              have z3 := IntWalk.wrap64_in ((k : Int) + 1) (by omega)
              generalize R.getD k 0 = z at HP HQS HBS ⊢
              go_wp2_with (fail)
              exact ⟨⟨k + 1, _, rfl, HJ.out, HP.out, HQS.out, HBS.out⟩, vc_less k s hks⟩
        · have hke : k = s := by omega
          have y0 : ¬ (k : Int) < (s : Int) := by omega
          have y1 : decide ((k : Int) < (s : Int)) = false := decide_eq_false y0
          go_wp2_with (fail)
          refine bodyPost_ret (results_tmp2 rfl _ _ _) rfl ?_
          refine ⟨some ⟨w.heap.size, 0, none⟩, s, ?_, KIn.row (HR.out.congr fun i hi => by rw [hke]; exact prt_all _ _ _ _ hi) (Nat.le_of_eq HLR.out), HB.out⟩
          rw [HLR.out]
          rfl
end
end Go.Proofs.YtkdkeokldcehhaaGreatDoor
namespace Go.Proofs.YtkdkeokldcehhaaGreatDoor
open Go.ChangeShapes Go.WideShapes Go.ChangeAt Go.RowKit Nm Vc

namespace Vc
theorem KIn.alloc {kd : IntKind} {w : World} {A : Option Addr} {zs : List Int} (h : KIn kd w A zs) (o : Obj) : KIn kd (w.alloc o) A zs := h.below ((Below.refl _ _).alloc (Nat.le_refl _) o) (Nat.le_refl _)
/-- A row of two numbers, made now. -/
theorem kin2 (w : World) (b : Nat) (x y : Int) (hb : w.heap.size = b) : KIn .i64 (w.alloc (.cells #[.int .i64 x, .int .i64 y] 3)) (some ⟨b, 0, none⟩) [x, y] := fun _ =>
  ⟨_, _, rfl, fun i hi => by
    subst hb
    rw [cell_of_row _ _ _ _ _ _ (heap_alloc_new w _), Nat.zero_add]
    match i, hi with
    | 0, _ => rfl
    | 1, _ => rfl⟩
/-- One of two. -/
def two {α : Type} (a b : α) (i : Nat) : α := if i = 0 then a else b
/-- A list of two rows, made now. -/
theorem lin2 {w : World} {A B : Option Addr} {n m c d : Nat} {zs us : List Int} (b : Nat) (hb : w.heap.size = b) (hz : zs.length = n) (hu : us.length = m) (hA : KIn .i64 w A zs) (hB : KIn .i64 w B us) :
    LIn (w.alloc (.cells #[.slice A n c, .slice B m d] 45)) (some ⟨b, 0, none⟩) (two A B) (two c d) [zs, us] := fun _ =>
  ⟨_, _, rfl, fun i hi => by
    subst hb
    rw [cell_of_row _ _ _ _ _ _ (heap_alloc_new w _), Nat.zero_add]
    match i, hi with
    | 0, _ => exact ⟨by rw [← hz]; rfl, hA.alloc _⟩
    | 1, _ => exact ⟨by rw [← hu]; rfl, hB.alloc _⟩⟩
/-- A row of one number, and of three, made now. -/
theorem kin1 (w : World) (b : Nat) (x : Int) (hb : w.heap.size = b) : KIn .i64 (w.alloc (.cells #[.int .i64 x] 3)) (some ⟨b, 0, none⟩) [x] := fun _ =>
  ⟨_, _, rfl, fun i hi => by
    subst hb
    rw [cell_of_row _ _ _ _ _ _ (heap_alloc_new w _), Nat.zero_add]
    match i, hi with
    | 0, _ => rfl⟩
theorem kin3 (w : World) (b : Nat) (x y z : Int) (hb : w.heap.size = b) : KIn .i64 (w.alloc (.cells #[.int .i64 x, .int .i64 y, .int .i64 z] 3)) (some ⟨b, 0, none⟩) [x, y, z] := fun _ =>
  ⟨_, _, rfl, fun i hi => by
    subst hb
    rw [cell_of_row _ _ _ _ _ _ (heap_alloc_new w _), Nat.zero_add]
    match i, hi with
    | 0, _ => rfl
    | 1, _ => rfl
    | 2, _ => rfl⟩
/-- A list of one row, made now. -/
theorem lin1 {w : World} {A : Option Addr} {n c : Nat} {zs : List Int} (b : Nat) (hb : w.heap.size = b) (hz : zs.length = n) (hA : KIn .i64 w A zs) :
    LIn (w.alloc (.cells #[.slice A n c] 45)) (some ⟨b, 0, none⟩) (fun _ => A) (fun _ => c) [zs] := fun _ =>
  ⟨_, _, rfl, fun i hi => by
    subst hb
    rw [cell_of_row _ _ _ _ _ _ (heap_alloc_new w _), Nat.zero_add]
    match i, hi with
    | 0, _ => exact ⟨by rw [← hz]; rfl, hA.alloc _⟩⟩
end Vc
end Go.Proofs.YtkdkeokldcehhaaGreatDoor
namespace Go.Proofs.YtkdkeokldcehhaaGreatDoor
open Go.ChangeShapes Go.WideShapes Go.ChangeAt Go.RowKit Nm Vc

theorem results_cell_row_tmp {P : Program} {fn : Func} {p u : Tmp} {ty : TypeId} (h : fn.results = #[.cell p ty, .tmp u]) (tmps : Array Value) (w : World) (g : Nat) (t : TypeId) (cs : Array Value) (fr : Nat × Nat) (d : TypeDesc)
    (hp : tmps.getD p undef = .pointer (some ⟨g, 0, none⟩)) (hg : w.heap[g]? = some (.cells cs t fr))
    (hu : P.underlying ty = some d) (hd : (match d with | .struct _ | .array _ _ => true | _ => false) = true) (hi : (P.info? ty).map (·.size) = some cs.size) :
    (results fn tmps).run P w = .ok (.tuple #[.agg cs, tmps.getD u undef]) w := by
  rw [results_cell_tmp h, hp]
  simp [asAddr, run_loadVar_row w g t ty cs fr d hg hu hd hi]
namespace Vc
section
variable {W : World} {b : Nat} {x0 y0 : Int} {A0 : Option Addr} {n0 c0 : Nat} (h : W.heap[b]? = some (tbO x0 y0 A0 n0 c0)) (x y : Int) (A : Option Addr) (n c : Nat)
include h
theorem setT : (((W.setCell ⟨b, 0, none⟩ (.int .i64 x)).setCell ⟨b, 1, none⟩ (.int .i64 y)).setCell ⟨b, 2, none⟩ (.slice A n c)).heap[b]? = some (tbO x y A n c) :=
  heap_setCell_same _ b 2 _ _ _ (heap_setCell_same _ b 1 _ _ _ (heap_setCell_same W b 0 _ _ _ h))
theorem tbFz (i : Nat) : W.frozen? ⟨b, i, none⟩ = false := frozen_of_row W b i _ _ h
end
theorem below_setT {B : Nat} {w0 W : World} (h : Below B w0 W) {b : Nat} (hb : B ≤ b) (r k c : Value) : Below B w0 (((W.setCell ⟨b, 0, none⟩ r).setCell ⟨b, 1, none⟩ k).setCell ⟨b, 2, none⟩ c) :=
  ((h.setCell (p := ⟨b, 0, none⟩) hb r).setCell (p := ⟨b, 1, none⟩) hb k).setCell (p := ⟨b, 2, none⟩) hb c
theorem KIn.setT {kd : IntKind} {W : World} {b : Nat} {A : Option Addr} {zs : List Int} (h : KIn kd W A zs) (hb : ∀ a, A = some a → a.block ≠ b) (r k c : Value) : KIn kd (((W.setCell ⟨b, 0, none⟩ r).setCell ⟨b, 1, none⟩ k).setCell ⟨b, 2, none⟩ c) A zs := fun h0 => by
  obtain ⟨pb, po, e, hc⟩ := h h0
  have hne : pb ≠ b := hb ⟨pb, po, none⟩ e
  refine ⟨pb, po, e, fun i hi => ?_⟩
  rw [World.cell?_of_block (w := W) (a := ⟨pb, po + i, none⟩) (by
    rw [heap_setCell_other _ ⟨b, 2, none⟩ pb _ hne, heap_setCell_other _ ⟨b, 1, none⟩ pb _ hne, heap_setCell_other _ ⟨b, 0, none⟩ pb _ hne])]
  exact hc i hi
end Vc
theorem tbI (x y : Int) (A : Option Addr) (n c : Nat) : (Tryz.prog.info? 120).map (·.size) = some (tbA x y A n c).size := by kernel_rfl
section
variable (w : World) (x y : Int) (s : ByteArray)
set_option maxRecDepth 100000 in
set_option maxHeartbeats 800000 in
theorem vecs_of_arg (h : (fitB x && fitB y) = false) : Calls Tryz.prog 122 #[.int .i64 x, .int .i64 y, .string s] w fun e w' => e = .returned (.tuple #[tbV 0 0 none 0 0, .int .i64 1]) ∧ Below w.heap.size w w' := by
  have HB := Lib.hid ((Below.refl w.heap.size w).alloc (Nat.le_refl _) (tbO 0 0 none 0 0))
  have HN := Lib.hid (heap_alloc_new w (tbO 0 0 none 0 0))
  have HI := Lib.hid (tbI 0 0 none 0 0)
  have d0 := tb0 HN.out
  have d1 := tb1 HN.out
  have d2 := tb2 HN.out
  have df := tbFz HN.out
  unfold tbV
  cases hx : fitB x with
  | true =>
    have hy : fitB y = false := by rw [hx, Bool.true_and] at h; exact h
    clear h
    go_enter Tryz.func122, Tryz.ntmps122
    go_wp2_with (go_at_call 134; refine (vecs_fits _ _).mono ?_; rintro e w' ⟨rfl, rfl⟩)
    refine bodyPost_ret (results_cell_row_tmp rfl _ _ _ 120 _ _ _ rfl HN.out Tryz.underlying120 rfl HI.out) rfl ?_
    exact ⟨rfl, HB.out⟩
  | false =>
    clear h
    go_enter Tryz.func122, Tryz.ntmps122
    go_wp2_with (go_at_call 134; refine (vecs_fits _ _).mono ?_; rintro e w' ⟨rfl, rfl⟩)
    refine bodyPost_ret (results_cell_row_tmp rfl _ _ _ 120 _ _ _ rfl HN.out Tryz.underlying120 rfl HI.out) rfl ?_
    exact ⟨rfl, HB.out⟩
set_option maxRecDepth 100000 in
set_option maxHeartbeats 800000 in
theorem vecs_of_form (hx : fitB x = true) (hy : fitB y = true) (h : (s.size : Int) ≠ x * y) : Calls Tryz.prog 122 #[.int .i64 x, .int .i64 y, .string s] w fun e w' => e = .returned (.tuple #[tbV 0 0 none 0 0, .int .i64 5]) ∧ Below w.heap.size w w' := by
  have HB := Lib.hid ((Below.refl w.heap.size w).alloc (Nat.le_refl _) (tbO 0 0 none 0 0))
  have HN := Lib.hid (heap_alloc_new w (tbO 0 0 none 0 0))
  have HI := Lib.hid (tbI 0 0 none 0 0)
  have d0 := tb0 HN.out
  have d1 := tb1 HN.out
  have d2 := tb2 HN.out
  have df := tbFz HN.out
  have hs := sides (fitB_iff.1 hx) (fitB_iff.1 hy)
  have e1 := IntWalk.wrap64_in (x * y) (by omega)
  have e2 : IntKind.i64.wrap (x * y) = x * y := IntWalk.i64_in _ (by omega)
  generalize hq : x * y = q at e1 e2 hs h
  have t1 : ((s.size : Int) == q) = false := beq_eq_false_iff_ne.2 h
  unfold tbV
  go_enter Tryz.func122, Tryz.ntmps122
  go_wp2_with (go_at_call 134; refine (vecs_fits _ _).mono ?_; rintro e w' ⟨rfl, rfl⟩)
  refine bodyPost_ret (results_cell_row_tmp rfl _ _ _ 120 _ _ _ rfl HN.out Tryz.underlying120 rfl HI.out) rfl ?_
  exact ⟨rfl, HB.out⟩
set_option maxRecDepth 100000 in
set_option maxHeartbeats 1600000 in
theorem vecs_of_ok (hx : fitB x = true) (hy : fitB y = true) (h : (s.size : Int) = x * y) : Calls Tryz.prog 122 #[.int .i64 x, .int .i64 y, .string s] w fun e w' => ∃ A, e = .returned (.tuple #[tbV x y A s.size s.size, .int .i64 0]) ∧ KIn .i8 w' A (listD s) ∧ Below w.heap.size w w' := by
  have HB := Lib.hid ((Below.refl w.heap.size w).alloc (Nat.le_refl _) (tbO 0 0 none 0 0))
  have HN := Lib.hid (heap_alloc_new w (tbO 0 0 none 0 0))
  have hs1 : (w.alloc (tbO 0 0 none 0 0)).heap.size = w.heap.size + 1 := by simp
  have hs := sides (fitB_iff.1 hx) (fitB_iff.1 hy)
  have e1 := IntWalk.wrap64_in (x * y) (by omega)
  have e2 : IntKind.i64.wrap (x * y) = x * y := IntWalk.i64_in _ (by omega)
  have hm : s.size ≤ 4096 := by omega
  generalize hq : x * y = q at e1 e2 hs h
  subst h
  have HL := Lib.hid (listD_length s)
  obtain ⟨i0, hi, hz0, hz1, hz2⟩ := info_parts info_i8
  have HI := Lib.hid hi
  have HZ0 := Lib.hid hz0
  have HZ1 := Lib.hid hz1
  have HZ2 := Lib.hid hz2
  clear hi hz0 hz1 hz2 hs
  unfold tbV
  go_enter Tryz.func122, Tryz.ntmps122
  go_wp2_with (first | (go_at_call 134; refine (vecs_fits _ _).mono ?_; rintro e w' ⟨rfl, rfl⟩) | (at_make; refine wpList_make_row _ rfl _ _ 118 rfl 137 i0 (.int .i8 0) Tryz.underlying118 HI.out HZ0.out HZ1.out rfl .i64 .i64 s.size rfl rfl (by rw [HZ2.out]; omega) (by omega) ?_))
  have HR0 := Lib.hid (show ((w.alloc (tbO 0 0 none 0 0)).alloc (.cells (madeCells #[.int .i8 0] s.size) 137)).rowIs (w.heap.size + 1) 137 s.size (prt .i8 (listD s) 0) from by
    have := World.rowIs_made (w.alloc (tbO 0 0 none 0 0)) (.int .i8 0) s.size 137
    rw [hs1] at this
    exact this.congr fun i _ => by rw [prt_none])
  have HB0 := Lib.hid (HB.out.alloc (by omega) (.cells (madeCells #[.int .i8 0] s.size) 137))
  have HN0 := Lib.hid ((heap_alloc_old _ _ (by simp : w.heap.size < (w.alloc (tbO 0 0 none 0 0)).heap.size) : ((w.alloc (tbO 0 0 none 0 0)).alloc (.cells (madeCells #[.int .i8 0] s.size) 137)).heap[w.heap.size]? = _).trans HN.out)
  go_loopw [31] (fun i wr => ∃ k : Nat, i = .int .i64 (k : Int) ∧ k ≤ s.size ∧ wr.rowIs (w.heap.size + 1) 137 s.size (prt .i8 (listD s) k) ∧ Below w.heap.size w wr ∧ wr.heap[w.heap.size]? = some (tbO 0 0 none 0 0)) (fun i _ => match i with | .int _ k => s.size - k.toNat | _ => 0)
  case atStart => exact ⟨0, rfl, Nat.zero_le _, HR0.out, HB0.out, HN0.out⟩
  case round =>
    clear HR0 HB0 HB HN HN0 hs1
    obtain ⟨k, rfl, hk, hr, hb, hn⟩ := hrel
    have HR := Lib.hid hr
    have HB := Lib.hid hb
    have HN := Lib.hid hn
    clear hr hb hn
    have x2 : 0 ≤ (k : Int) := by omega
    by_cases hlt : k < s.size
    · have x0 : (k : Int) < (s.size : Int) := by omega
      have x1 : decide ((k : Int) < (s.size : Int)) = true := decide_eq_true x0
      have x3 := IntWalk.wrap64_in ((k : Int) + 1) (by omega)
      have f1 := HR.out.frozen k
      have c1 := HR.out.cell hlt
      have HP := Lib.hid (prt_set HR.out ((listD_at s k hlt).trans (wrap_i8 _).symm))
      have HBS := Lib.hid (HB.out.setCell (p := ⟨w.heap.size + 1, k, none⟩) (Nat.le_succ _) (.int .i8 (IntKind.i8.wrap ((s[k]'hlt).toNat : Int))))
      have HNS := Lib.hid ((heap_setCell_other wr ⟨w.heap.size + 1, k, none⟩ w.heap.size (.int .i8 (IntKind.i8.wrap ((s[k]'hlt).toNat : Int))) (by show w.heap.size ≠ w.heap.size + 1; omega)).trans HN.out)
      go_wp2_with (fail)
      exact ⟨⟨k + 1, rfl, by omega, HP.out, HBS.out, HNS.out⟩, by show s.size - ((k : Int) + 1).toNat < s.size - (k : Int).toNat; omega⟩
    · have hke : k = s.size := by omega
      have x0 : ¬ (k : Int) < (s.size : Int) := by omega
      have x1 : decide ((k : Int) < (s.size : Int)) = false := decide_eq_false x0
      have HI2 := Lib.hid (tbI x y (some ⟨w.heap.size + 1, 0, none⟩) s.size s.size)
      have d0 := tb0 HN.out
      have d1 := tb1 HN.out
      have d2 := tb2 HN.out
      have df := tbFz HN.out
      go_wp2_with (fail)
      refine bodyPost_ret (results_cell_row_tmp rfl _ _ _ 120 _ _ _ rfl (setT HN.out x y (some ⟨w.heap.size + 1, 0, none⟩) s.size s.size) Tryz.underlying120 rfl HI2.out) rfl ?_
      refine ⟨_, rfl, ?_, below_setT HB.out (Nat.le_refl _) _ _ _⟩
      refine KIn.setT (KIn.row (HR.out.congr fun i hi => by rw [hke]; exact prt_all _ _ _ _ hi) (Nat.le_of_eq HL.out)) (fun a ha => ?_) _ _ _
      injection ha with ha
      rw [← ha]
      exact Nat.succ_ne_self _
end
end Go.Proofs.YtkdkeokldcehhaaGreatDoor
namespace Go.Proofs.YtkdkeokldcehhaaGreatDoor
open Go.ChangeShapes Go.WideShapes Go.ChangeAt Go.RowKit Nm Vc

section
variable (w : World) (x y sh : Int) (A : Option Addr) (n c : Nat) (V : Option Addr) (m cv : Nat)
set_option maxRecDepth 100000 in
set_option maxHeartbeats 800000 in
theorem table_times_not (h : goodB x y n = false ∨ (m : Int) ≠ y) : Calls Tryz.prog 116 #[tbV x y A n c, .slice V m cv, .int .i64 sh] w fun e w' => e = .returned (.tuple #[.slice none 0 0, .int .i64 1]) ∧ Below w.heap.size w w' := by
  have HG := Lib.hid (fun W => vecs_good x y A n c W)
  have B0 := Lib.hid ((Below.refl w.heap.size w).alloc (Nat.le_refl _) (tbO x y A n c))
  have N0 := Lib.hid (heap_alloc_new w (tbO x y A n c))
  have H := Lib.hid h
  clear h
  unfold tbV tbA at HG ⊢
  cases hg : goodB x y n with
  | false =>
    rw [hg] at HG
    go_enter Tryz.func116, Tryz.ntmps116
    go_wp2_with (fail)
    refine (HG.out _).mono ?_
    rintro e w1 ⟨rfl, b1⟩
    have B1 := Lib.hid (B0.out.trans (b1.mono (by simp)))
    clear b1
    go_wp2_with (fail)
    refine bodyPost_ret (results_tmp2 rfl _ _ _) rfl ?_
    exact ⟨rfl, B1.out⟩
  | true =>
    rw [hg] at HG
    have h2 : (m : Int) ≠ y := by
      rcases H.out with h | h
      · rw [hg] at h; cases h
      · exact h
    have t1 : ((m : Int) == y) = false := beq_eq_false_iff_ne.2 h2
    go_enter Tryz.func116, Tryz.ntmps116
    go_wp2_with (fail)
    refine (HG.out _).mono ?_
    rintro e w1 ⟨rfl, b1⟩
    have B1 := Lib.hid (B0.out.trans (b1.mono (by simp)))
    have d0 := tb1 ((b1.block _ (by simp)).trans N0.out)
    clear b1
    go_wp2_with (fail)
    refine bodyPost_ret (results_tmp2 rfl _ _ _) rfl ?_
    exact ⟨rfl, B1.out⟩
end
namespace Vc
/-- The same, of a row that isn't longer than it may be. -/
def RowSaysC (w : World) (f : Value → Value) (R : List Int) (e : Ending) (w' : World) : Prop := ∃ A c, e = .returned (f (.slice A R.length c)) ∧ KIn .i64 w' A R ∧ R.length ≤ c ∧ Below w.heap.size w w'
/-- The same, of a row of one's own. -/
def RowSaysN (w : World) (f : Value → Value) (R : List Int) (e : Ending) (w' : World) : Prop := ∃ A c, e = .returned (f (.slice A R.length c)) ∧ KIn .i64 w' A R ∧ R.length ≤ c ∧ (∀ a, A = some a → w.heap.size ≤ a.block) ∧ Below w.heap.size w w'
theorem RowSaysN.cap {w w' : World} {f : Value → Value} {R : List Int} {e : Ending} (h : RowSaysN w f R e w') : RowSaysC w f R e w' := by
  obtain ⟨A, c, he, hk, hc, _, hb⟩ := h
  exact ⟨A, c, he, hk, hc, hb⟩
theorem RowSaysC.says {w w' : World} {f : Value → Value} {R : List Int} {e : Ending} (h : RowSaysC w f R e w') : RowSays w f R e w' := by
  obtain ⟨A, c, he, hk, _, hb⟩ := h
  exact ⟨A, c, he, hk, hb⟩
end Vc
section
variable (w : World) (x y : Nat) (sh : Int) (A : Option Addr) (n c : Nat) (D : List Int) (V : Option Addr) (cv : Nat) (zs : List Int)
set_option maxRecDepth 100000 in
set_option maxHeartbeats 1600000 in
theorem table_times_new (h : goodB (x : Int) (y : Int) n = true) (hD : D.length = n) (hA : KIn .i8 w A D) (hI : I8 D) (hz : zs.length = y) (hV : KIn .i64 w V zs) :
    Calls Tryz.prog 116 #[tbV (x : Int) (y : Int) A n c, .slice V y cv, .int .i64 sh] w (RowSaysN w (fun v => .tuple #[v, .int .i64 0]) (timesL D x y zs sh)) := by
  have HG := Lib.hid (fun W => vecs_good (x : Int) (y : Int) A n c W)
  have HRW := Lib.hid (fun W k hk ha => table_row W x y k A n c D h hD hk ha hI)
  have B0 := Lib.hid ((Below.refl w.heap.size w).alloc (Nat.le_refl _) (tbO (x : Int) (y : Int) A n c))
  have N0 := Lib.hid (heap_alloc_new w (tbO (x : Int) (y : Int) A n c))
  have HA := Lib.hid hA
  have HV := Lib.hid hV
  rw [h] at HG
  obtain ⟨hx, hy, hxy⟩ := goodB_iff.1 h
  have hy2 : y ≤ 64 := by omega
  have hy1 : 1 ≤ y := by omega
  have hx2 : x ≤ 64 := by omega
  have t1 : ((y : Int) == (y : Int)) = true := beq_self_eq_true _
  obtain ⟨i0, hi, hz0, hz1, hz2⟩ := info_parts info_int
  have HI := Lib.hid hi
  have HZ0 := Lib.hid hz0
  have HZ1 := Lib.hid hz1
  have HZ2 := Lib.hid hz2
  have HZL := Lib.hid hz
  have HRL := Lib.hid (rowD_length D y)
  have HLR := Lib.hid (timesL_length D x y zs sh)
  have HAT := Lib.hid (timesL_at D x y zs sh)
  obtain ⟨vb, vo, rfl, _⟩ := hV (by omega)
  clear hA h hi hz0 hz1 hz2 hD hx hy hxy hV hI hz
  generalize timesL D x y zs sh = R at HLR HAT ⊢
  generalize hrw : rowD D y = rw_ at HRW HAT HRL
  clear hrw
  unfold tbV tbA at HG HRW ⊢
  go_enter Tryz.func116, Tryz.ntmps116
  go_wp2_with (fail)
  refine (HG.out _).mono ?_
  rintro e w1 ⟨rfl, b1⟩
  have hs1 : w.heap.size + 1 ≤ w1.heap.size := by have := b1.size; simp at this; omega
  have B1 := Lib.hid (B0.out.trans (b1.mono (by simp)))
  have N1 := Lib.hid ((b1.block _ (by simp)).trans N0.out)
  clear b1 HG B0 N0
  have d0 := tb0 N1.out
  have d1 := tb1 N1.out
  go_wp2_with (at_make; refine wpList_make_row _ rfl _ _ 45 rfl 3 i0 (.int .i64 0) Tryz.underlying45 HI.out HZ0.out HZ1.out rfl .i64 .i64 x rfl rfl (by rw [HZ2.out]; omega) (by omega) ?_)
  have HR0 := Lib.hid (show (w1.alloc (.cells (madeCells #[.int .i64 0] x) 3)).rowIs w1.heap.size 3 x (prt .i64 R 0) from (World.rowIs_made w1 (.int .i64 0) x 3).congr fun i _ => by rw [prt_none])
  have HB0 := Lib.hid (B1.out.alloc B1.out.size (.cells (madeCells #[.int .i64 0] x) 3))
  have HN0 := Lib.hid ((heap_alloc_old _ (.cells (madeCells #[.int .i64 0] x) 3) (show w.heap.size < w1.heap.size by omega)).trans N1.out)
  clear d0 d1 N1 B1
  obtain ⟨g, hg⟩ : ∃ g, g = w1.heap.size := ⟨_, rfl⟩
  rw [← hg] at HR0 ⊢
  have hgw : w.heap.size < g := by omega
  generalize w1.alloc (.cells (madeCells #[.int .i64 0] x) 3) = w2 at HR0 HB0 HN0 ⊢
  clear hg hs1
  go_loopw [25] (fun i wr => ∃ j : Nat, i = .int .i64 (j : Int) ∧ j ≤ x ∧ wr.rowIs g 3 x (prt .i64 R j) ∧ Below w.heap.size w wr ∧ wr.heap[w.heap.size]? = some (tbO (x : Int) (y : Int) A n c)) (fun i _ => match i with | .int _ k => x - k.toNat | _ => 0)
  case atStart => exact ⟨0, rfl, Nat.zero_le _, HR0.out, HB0.out, HN0.out⟩
  case round =>
    clear HR0 HB0 HN0
    obtain ⟨j, rfl, hj, hr, hb, hn⟩ := hrel
    have HR := Lib.hid hr
    have HB := Lib.hid hb
    have HN := Lib.hid hn
    clear hr hb hn
    have x2 : 0 ≤ (j : Int) := by omega
    by_cases hlt : j < x
    · have x0 : (j : Int) < (x : Int) := by omega
      have x1 : decide ((j : Int) < (x : Int)) = true := decide_eq_true x0
      have d0 := tb0 HN.out
      have d1 := tb1 HN.out
      have d2 := tb2 HN.out
      have HM := Lib.hid (show y ≤ maxLen by unfold maxLen; omega)
      have HLT := Lib.hid (show j + 1 ≤ x ∧ w.heap.size ≤ g ∧ w.heap.size ≠ g by omega)
      have HDI := Lib.hid (dot_in (rw_ j) zs)
      have HFT := Lib.hid (show Fits (dot (rw_ j) zs) from ⟨by have := HDI.out; omega, by have := HDI.out; omega⟩)
      have h0y : 0 < (rw_ j).length := by rw [HRL.out j]; omega
      have HXJ := Lib.hid (HAT.out j hlt)
      go_wp2_with (fail)
      refine (HRW.out wr j hlt (HA.out.below HB.out (Nat.le_refl _))).mono ?_
      rintro e w3 ⟨A3, c3, rfl, k3, b3⟩
      obtain ⟨g3, o3, rfl, _⟩ := k3 h0y
      have HD1 := Lib.hid k3.holds
      have HB3 := Lib.hid (HB.out.trans (b3.mono HB.out.size))
      have HR3 := Lib.hid (HR.out.of_block (b3.block g HR.out.lt))
      have HN3 := Lib.hid ((b3.block w.heap.size (Array.getElem?_eq_some_iff.1 HN.out).1).trans HN.out)
      have HD2 := Lib.hid (HV.out.below HB3.out (Nat.le_refl _)).holds
      clear k3 b3 HR HB HN d0 d1 d2 h0y
      go_wp2_with (fail)
      refine (dot_any g3 o3 _ c3 vb vo y cv (rw_ j) zs w3 rfl HZL.out (by rw [HRL.out j]; exact HM.out) HM.out HD1.out HD2.out).mono ?_
      rintro e w4 ⟨rfl, d4, rfl⟩
      go_wp2_with (fail)
      refine (shift_any _ sh _ HFT.out).mono ?_
      rintro e w5 ⟨rfl, d5, rfl⟩
      go_wp2_with (fail)
      refine (sat_any _ _).mono ?_
      rintro e w6 ⟨rfl, rfl⟩
      rw [← HXJ.out]
      have HB4 := Lib.hid (below_drewN HB3.out (d4 + d5))
      have HR4 : Hid ((w3.drewN (d4 + d5)).rowIs g 3 x (prt .i64 R j)) := HR3
      have HN4 : Hid ((w3.drewN (d4 + d5)).heap[w.heap.size]? = some (tbO (x : Int) (y : Int) A n c)) := HN3
      clear HB3 HR3 HN3 HD1 HD2
      generalize w3.drewN (d4 + d5) = w7 at HB4 HR4 HN4 ⊢
      have f1 := HR4.out.frozen j
      have c1 := HR4.out.cell hlt
      have HP := Lib.hid (prt_set HR4.out (rfl : R.getD j 0 = R.getD j 0))
      have HBS := Lib.hid (HB4.out.setCell (p := ⟨g, j, none⟩) HLT.out.2.1 (.int .i64 (R.getD j 0)))
      have HNS := Lib.hid ((heap_setCell_other w7 ⟨g, j, none⟩ w.heap.size (.int .i64 (R.getD j 0)) HLT.out.2.2).trans HN4.out)
      have x3 := IntWalk.wrap64_in ((j : Int) + 1) (by omega)
      generalize R.getD j 0 = z at HP HBS HNS ⊢
      go_wp2_with (fail)
      exact ⟨⟨j + 1, rfl, HLT.out.1, HP.out, HBS.out, HNS.out⟩, vc_less j x hlt⟩
    · have hke : j = x := by omega
      have x0 : ¬ (j : Int) < (x : Int) := by omega
      have x1 : decide ((j : Int) < (x : Int)) = false := decide_eq_false x0
      go_wp2_with (fail)
      refine bodyPost_ret (results_tmp2 rfl _ _ _) rfl ?_
      refine ⟨some ⟨g, 0, none⟩, x, ?_, KIn.row (HR.out.congr fun i hi => by rw [hke]; exact prt_all _ _ _ _ hi) (Nat.le_of_eq HLR.out), Nat.le_of_eq HLR.out, fun a ha => by injection ha with ha; rw [← ha]; show w.heap.size ≤ g; omega, HB.out⟩
      rw [HLR.out]
      rfl
theorem table_times_cap (h : goodB (x : Int) (y : Int) n = true) (hD : D.length = n) (hA : KIn .i8 w A D) (hI : I8 D) (hz : zs.length = y) (hV : KIn .i64 w V zs) :
    Calls Tryz.prog 116 #[tbV (x : Int) (y : Int) A n c, .slice V y cv, .int .i64 sh] w (RowSaysC w (fun v => .tuple #[v, .int .i64 0]) (timesL D x y zs sh)) :=
  (table_times_new w x y sh A n c D V cv zs h hD hA hI hz hV).mono fun _ _ h => h.cap
theorem table_times (h : goodB (x : Int) (y : Int) n = true) (hD : D.length = n) (hA : KIn .i8 w A D) (hI : I8 D) (hz : zs.length = y) (hV : KIn .i64 w V zs) :
    Calls Tryz.prog 116 #[tbV (x : Int) (y : Int) A n c, .slice V y cv, .int .i64 sh] w (RowSays w (fun v => .tuple #[v, .int .i64 0]) (timesL D x y zs sh)) :=
  (table_times_cap w x y sh A n c D V cv zs h hD hA hI hz hV).mono fun _ _ h => h.says
end
end Go.Proofs.YtkdkeokldcehhaaGreatDoor
