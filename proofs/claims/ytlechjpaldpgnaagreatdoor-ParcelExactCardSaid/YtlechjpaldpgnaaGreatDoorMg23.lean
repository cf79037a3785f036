/-
  Package manifest: Bytes. Conditions: both tables of sha lie as the program's text lays them; the sums stand behind the slice.
  Package manifest: numbers (those that are read first). Condition: the eye stands in a block of its own.
-/
import Derived.Test.YtlechjpaldpgnaaGreatDoorMg12
import Derived.Test.YtlechjpaldpgnaaGreatDoorMg3
import Derived.Test.YtlechjpaldpgnaaGreatDoorMg19
import Derived.Test.YtlechjpaldpgnaaGreatDoorMg9
import Derived.Test.YtlechjpaldpgnaaGreatDoorMg22
import Derived.Test.YtlechjpaldpgnaaGreatDoorMg10
import Derived.Test.YtlechjpaldpgnaaGreatDoorMg11
import Derived.Great.Walk
set_option maxRecDepth 100000
namespace Go.Proofs.YtlechjpaldpgnaaGreatDoor
open Go.ChangeShapes Go.WideShapes Go.ChangeAt Go.RowKit Sh Pn Mf

theorem mf_calls {P : Program} {f : FuncId} {args : Array Value} {w : World} {Q : Ending → World → Prop} (R : World → Prop) (h0 : R w) (h : ∀ wr, R wr → Calls P f args wr Q) : Calls P f args w Q := h w h0
theorem fourInts (a b c d : Int) : Tryz.prog.builtSlice 3 4 [(0, .int .i64 a), (1, .int .i64 b), (2, .int .i64 c), (3, .int .i64 d)] = some #[.int .i64 a, .int .i64 b, .int .i64 c, .int .i64 d] := by kernel_rfl
theorem twoDigs (f g : Nat → UInt8) : Tryz.prog.builtSlice 24 2 [(0, .agg (digF f)), (1, .agg (digF g))] = some (digF f ++ digF g) := by kernel_rfl
namespace Mf
theorem bsize {l : List UInt8} {n : Nat} (h : l.length = n) : (⟨l.toArray⟩ : ByteArray).size = n := by rw [← h]; simp [ByteArray.size]
/-- The four numbers. -/
def nthM (m : Man) : Nat → Int
  | 0 => m.b
  | 1 => m.v
  | 2 => m.s
  | _ => m.c
theorem nth_head (m : Man) : numsL (nthM m) 4 = headL m := by
  rw [numsL_next, numsL_next, numsL_next, numsL_next]
  show (((([] : List UInt8) ++ numL m.b) ++ numL m.v) ++ numL m.s) ++ numL m.c = numL m.b ++ (numL m.v ++ (numL m.s ++ numL m.c))
  rw [List.nil_append, List.append_assoc, List.append_assoc]
def atS (L : List (Nat → UInt8)) (i : Nat) : Nat → UInt8 := L.getD i fun _ => 0
theorem digs_sums (L : List (Nat → UInt8)) : ∀ n, n ≤ L.length → digsL (atS L) n = sumsL (L.take n)
  | 0, _ => by rw [List.take_zero]; rfl
  | n + 1, h => by
    rw [digsL_next, digs_sums L n (by omega), List.take_succ_eq_append_getElem (by omega)]
    unfold sumsL
    rw [List.flatMap_append]
    simp [atS, List.getD_eq_getElem?_getD, List.getElem?_eq_getElem (show n < L.length by omega)]
theorem digs_all (L : List (Nat → UInt8)) : digsL (atS L) L.length = sumsL L := by rw [digs_sums L _ (Nat.le_refl _), List.take_length]
theorem pen_man (m : Man) : penL [⟨(digsL (atS [m.res, rootF m.sums]) 2).toArray⟩, ⟨(digsL (atS m.sums) m.sums.length).toArray⟩, ⟨(numsL (nthM m) 4).toArray⟩] = headL m ++ (sumsL m.sums ++ (digL m.res ++ digL (rootF m.sums))) := by
  rw [digs_all, nth_head, show digsL (atS [m.res, rootF m.sums]) 2 = sumsL [m.res, rootF m.sums] from digs_all [m.res, rootF m.sums]]
  simp [penL, sumsL]
theorem text_root {m : Man} (h : 0 < m.sums.length) : textM m = headL m ++ (sumsL m.sums ++ (digL m.res ++ digL (rootF m.sums))) := by unfold textM; rw [rootF_pos h]
theorem digs_two (f g : Nat → UInt8) : dcells [f, g] = (digF f ++ digF g).toList := by
  unfold dcells
  simp
theorem At.row {w : World} {b : Nat} {t : TypeId} {m : Man} {A : Option Addr} {k : Nat} (h : At w b t m A k) : w.rangeAt b 0 (manA m A k).toList := fun j u hj => by
  rw [cell_of_row w b (0 + j) _ _ _ h.h, Nat.zero_add, ← hj, Array.getElem?_toList]
theorem sin_two (t : TypeId) (w : World) (f g : Nat → UInt8) : SIn (w.alloc (.cells (digF f ++ digF g) t)) (some ⟨w.heap.size, 0, none⟩) 2 [f, g] :=
  ⟨Nat.le_refl _, fun _ => ⟨_, 0, rfl, fun j u hj => by rw [Nat.zero_add, cell_of_row _ _ _ _ _ _ (heap_alloc_new w _), ← hj, digs_two, Array.getElem?_toList]⟩⟩
theorem pen_sums {w : World} {A : Option Addr} {k p : Nat} {L : List (Nat → UInt8)} (h : SIn w A k L) (hp : ∀ pb po, A = some ⟨pb, po, none⟩ → pb ≠ p) : 0 < L.length → ∃ pb po, A = some ⟨pb, po, none⟩ ∧ pb ≠ p ∧ ∀ i, i < L.length → w.rangeAt pb (po + i * 32) (dgV (atS L i)).toList := fun h0 => by
  obtain ⟨pb, po, rfl, hd⟩ := h.2 h0
  refine ⟨pb, po, rfl, hp _ _ rfl, fun i hi => ?_⟩
  obtain ⟨pb', po', he, _, hr⟩ := h.at hi
  cases he
  exact hr
end Mf
theorem manIL (m : Man) (A : Option Addr) (k : Nat) : (Tryz.prog.info? 26).map (·.size) = some (manA m A k).toList.length := by rw [Array.length_toList]; exact manI m A k
theorem digIL (f : Nat → UInt8) : (Tryz.prog.info? 24).map (·.size) = some (digF f).toList.length := by rw [Array.length_toList]; exact hiDigF f
end Go.Proofs.YtlechjpaldpgnaaGreatDoor
namespace Go.Proofs.YtlechjpaldpgnaaGreatDoor
open Go.ChangeShapes Go.WideShapes Go.ChangeAt Go.RowKit Sh Pn Mf Cf

namespace Mf
def zeroM : Man := ⟨0, 0, 0, 0, [], fun _ => 0⟩
section
variable {w : World} {b : Nat} {t : TypeId} {m : Man} {A : Option Addr} {k : Nat}
theorem manA_set0 (m : Man) (A : Option Addr) (k : Nat) (x : Int) : (manA m A k).setIfInBounds 0 (.int .i64 x) = manA { m with b := x } A k := by kernel_rfl
theorem manA_set1 (m : Man) (A : Option Addr) (k : Nat) (x : Int) : (manA m A k).setIfInBounds 1 (.int .i64 x) = manA { m with v := x } A k := by kernel_rfl
theorem manA_set2 (m : Man) (A : Option Addr) (k : Nat) (x : Int) : (manA m A k).setIfInBounds 2 (.int .i64 x) = manA { m with s := x } A k := by kernel_rfl
theorem manA_set3 (m : Man) (A : Option Addr) (k : Nat) (x : Int) : (manA m A k).setIfInBounds 3 (.int .i64 x) = manA { m with c := x } A k := by kernel_rfl
theorem manA_set4 (m : Man) (A : Option Addr) (k : Nat) (L : List (Nat → UInt8)) (B : Option Addr) (q : Nat) : (manA m A k).setIfInBounds 4 (.slice B L.length q) = manA { m with sums := L } B q := by kernel_rfl
theorem At.setBase (h : At w b t m A k) (x : Int) : At (w.setCell ⟨b, 0, none⟩ (.int .i64 x)) b t { m with b := x } A k := ⟨(heap_setCell_same w b 0 _ _ _ h.h).trans (by rw [manA_set0])⟩
theorem At.setVer (h : At w b t m A k) (x : Int) : At (w.setCell ⟨b, 1, none⟩ (.int .i64 x)) b t { m with v := x } A k := ⟨(heap_setCell_same w b 1 _ _ _ h.h).trans (by rw [manA_set1])⟩
theorem At.setSize (h : At w b t m A k) (x : Int) : At (w.setCell ⟨b, 2, none⟩ (.int .i64 x)) b t { m with s := x } A k := ⟨(heap_setCell_same w b 2 _ _ _ h.h).trans (by rw [manA_set2])⟩
theorem At.setChunk (h : At w b t m A k) (x : Int) : At (w.setCell ⟨b, 3, none⟩ (.int .i64 x)) b t { m with c := x } A k := ⟨(heap_setCell_same w b 3 _ _ _ h.h).trans (by rw [manA_set3])⟩
theorem At.setSums (h : At w b t m A k) (L : List (Nat → UInt8)) (B : Option Addr) (n q : Nat) (hn : n = L.length) : At (w.setCell ⟨b, 4, none⟩ (.slice B n q)) b t { m with sums := L } B q := by
  subst hn
  exact ⟨(heap_setCell_same w b 4 _ _ _ h.h).trans (by rw [manA_set4])⟩
/-- A row with another one laid in from o on. -/
def laidIn : Array Value → Nat → List Value → Array Value
  | cs, _, [] => cs
  | cs, o, v :: r => laidIn (cs.setIfInBounds o v) (o + 1) r
theorem laid_res (m : Man) (A : Option Addr) (k : Nat) (f : Nat → UInt8) : laidIn (manA m A k) 5 (digF f).toList = manA { m with res := f } A k := by kernel_rfl
end
theorem heap_setCells (b : Nat) (t : TypeId) : ∀ (vs : List Value) (o : Nat) (w : World) (cs : Array Value), w.heap[b]? = some (.cells cs t (0, 0)) → (w.setCells b o vs).heap[b]? = some (.cells (laidIn cs o vs) t (0, 0))
  | [], _, _, _, h => h
  | v :: r, o, w, cs, h => by
    rw [World.setCells]
    exact heap_setCells b t r (o + 1) _ _ (heap_setCell_same w b o _ _ _ h)
theorem setCells_size (b : Nat) : ∀ (vs : List Value) (o : Nat) (w : World), (w.setCells b o vs).heap.size = w.heap.size
  | [], _, _ => rfl
  | v :: r, o, w => by rw [World.setCells, setCells_size b r]; simp [World.setCell]
theorem setCells_below {B b : Nat} (hb : B ≤ b) {w0 : World} : ∀ (vs : List Value) (o : Nat) (w : World), Below B w0 w → Below B w0 (w.setCells b o vs)
  | [], _, _, h => h
  | v :: r, o, w, h => by rw [World.setCells]; exact setCells_below hb r (o + 1) _ (h.setCell (p := ⟨b, o, none⟩) hb v)
theorem setCells_only {b g : Nat} {w0 : World} (hg : g = b ∨ w0.heap.size ≤ g) : ∀ (vs : List Value) (o : Nat) (w : World), Only w0 w b → Only w0 (w.setCells g o vs) b
  | [], _, _, h => h
  | v :: r, o, w, h => by rw [World.setCells]; exact setCells_only hg r (o + 1) _ (h.setCell (a := ⟨g, o, none⟩) hg v)
theorem setCells_other {b i : Nat} (hi : i ≠ b) : ∀ (vs : List Value) (o : Nat) (w : World), (w.setCells b o vs).heap[i]? = w.heap[i]?
  | [], _, _ => rfl
  | v :: r, o, w => by
    rw [World.setCells, setCells_other hi r (o + 1)]
    exact heap_setCell_other w _ i _ hi
theorem At.setRes {w : World} {b : Nat} {t : TypeId} {m : Man} {A : Option Addr} {k : Nat} (h : At w b t m A k) (f : Nat → UInt8) : At (w.setCells b 5 (digF f).toList) b t { m with res := f } A k :=
  ⟨(heap_setCells b t _ 5 w _ h.h).trans (by rw [laid_res])⟩
theorem At.there {w : World} {b : Nat} {t : TypeId} {m : Man} {A : Option Addr} {k : Nat} (h : At w b t m A k) (n : Nat) (hn : n = 32) : w.there b 5 n := fun j hj => by
  refine ⟨?_, h.fz _⟩
  rw [cell_of_row w b (5 + j) _ _ _ h.h, manA_high]
  unfold digF
  rw [vals_get 32 _ j (by omega)]
  rfl
/-- What is read at most. -/
def limM : Nat → Int
  | 0 => 2147483647
  | 1 => 2147483647
  | 2 => 4096
  | _ => 256
/-- An eye behind i numbers; both blocks of numbers. -/
structure Nums (t : TypeId) (w : World) (b : Nat) (s : ByteArray) (i : Nat) (m : Man) (W : World) : Prop where
  eye : EyeAt W b (rsT limM s i) (bsT limM s i)
  out : At W w.heap.size t zeroM none 0
  own : At W (w.heap.size + 1) t m none 0
  only : Only w W b
theorem Nums.setBase {t : TypeId} {w W : World} {b : Nat} {s : ByteArray} {i : Nat} {m : Man} (h : Nums t w b s i m W) (hb : b < w.heap.size) (x : Int) : Nums t w b s i { m with b := x } (W.setCell ⟨w.heap.size + 1, 0, none⟩ (.int .i64 x)) :=
  ⟨h.eye.of_block (heap_setCell_other W _ _ _ (by show b ≠ w.heap.size + 1; omega)), h.out.of_block (heap_setCell_other W _ _ _ (by show w.heap.size ≠ w.heap.size + 1; omega)), h.own.setBase x, h.only.setCell (.inr (by show w.heap.size ≤ w.heap.size + 1; omega)) _⟩
theorem Nums.setVer {t : TypeId} {w W : World} {b : Nat} {s : ByteArray} {i : Nat} {m : Man} (h : Nums t w b s i m W) (hb : b < w.heap.size) (x : Int) : Nums t w b s i { m with v := x } (W.setCell ⟨w.heap.size + 1, 1, none⟩ (.int .i64 x)) :=
  ⟨h.eye.of_block (heap_setCell_other W _ _ _ (by show b ≠ w.heap.size + 1; omega)), h.out.of_block (heap_setCell_other W _ _ _ (by show w.heap.size ≠ w.heap.size + 1; omega)), h.own.setVer x, h.only.setCell (.inr (by show w.heap.size ≤ w.heap.size + 1; omega)) _⟩
theorem Nums.setSize {t : TypeId} {w W : World} {b : Nat} {s : ByteArray} {i : Nat} {m : Man} (h : Nums t w b s i m W) (hb : b < w.heap.size) (x : Int) : Nums t w b s i { m with s := x } (W.setCell ⟨w.heap.size + 1, 2, none⟩ (.int .i64 x)) :=
  ⟨h.eye.of_block (heap_setCell_other W _ _ _ (by show b ≠ w.heap.size + 1; omega)), h.out.of_block (heap_setCell_other W _ _ _ (by show w.heap.size ≠ w.heap.size + 1; omega)), h.own.setSize x, h.only.setCell (.inr (by show w.heap.size ≤ w.heap.size + 1; omega)) _⟩
theorem Nums.setChunk {t : TypeId} {w W : World} {b : Nat} {s : ByteArray} {i : Nat} {m : Man} (h : Nums t w b s i m W) (hb : b < w.heap.size) (x : Int) : Nums t w b s i { m with c := x } (W.setCell ⟨w.heap.size + 1, 3, none⟩ (.int .i64 x)) :=
  ⟨h.eye.of_block (heap_setCell_other W _ _ _ (by show b ≠ w.heap.size + 1; omega)), h.out.of_block (heap_setCell_other W _ _ _ (by show w.heap.size ≠ w.heap.size + 1; omega)), h.own.setChunk x, h.only.setCell (.inr (by show w.heap.size ≤ w.heap.size + 1; omega)) _⟩
end Mf
theorem nums_step {t : TypeId} {w W : World} {b : Nat} {s : ByteArray} {i : Nat} {m : Man} (hb : b < w.heap.size) (h : Nums t w b s i m W) : Calls Tryz.prog 99 #[.pointer (some ⟨b, 0, none⟩), .int .i64 (limM i)] W fun e w' => e = .returned (.int .i64 (vsT limM s i : Int)) ∧ Nums t w b s (i + 1) m w' := by
  refine (eye_num W b _ _ h.eye (limM i)).mono ?_
  rintro e w' ⟨rfl, e1, o1⟩
  exact ⟨rfl, e1, h.out.of_block (o1.block _ h.out.lt (by omega)), h.own.of_block (o1.block _ h.own.lt (by omega)), h.only.trans o1⟩
end Go.Proofs.YtlechjpaldpgnaaGreatDoor
