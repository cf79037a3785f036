/-
  Models in plain words: a shape and its weights, the bytes that each part has, and that the parts, one behind the other, are the weights. No program's function here. Condition: the shape can be, and the weights are as many as it has.
  Package brain: what Weights answers. Condition: a model stands in its block.
  Package brain: what Table and Row answer. Conditions: a model stands in its block; its shape can be, and its weights are as many.
-/
import Derived.Test.YtkdkeokldcehhaaGreatDoorMg2
import Derived.Test.YtkdkeokldcehhaaGreatDoorMg4
import Derived.Test.YtkdkeokldcehhaaGreatDoorMg6
set_option maxRecDepth 100000
namespace Go.Proofs.YtkdkeokldcehhaaGreatDoor
open Go.ChangeShapes Go.WideShapes Go.ChangeAt Go.RowKit Nm Cf Vc
namespace Br

def brA (x : Cfg) (s : ByteArray) : Array Value := #[.int .i64 x.v, .int .i64 x.d, .int .i64 x.h, .int .i64 x.b, .int .i64 x.n, .int .i64 x.c, .string s]
def brO (x : Cfg) (s : ByteArray) : Obj := .cells (brA x s) 64 (0, 0)
/-- A model's block, and its seven cells. -/
theorem seven {w : World} {b : Nat} {x : Cfg} {s : ByteArray} (h : w.heap[b]? = some (brO x s)) : w.cell? ⟨b, 0, none⟩ = some (.int .i64 x.v) ∧ w.cell? ⟨b, 1, none⟩ = some (.int .i64 x.d) ∧ w.cell? ⟨b, 2, none⟩ = some (.int .i64 x.h) ∧ w.cell? ⟨b, 3, none⟩ = some (.int .i64 x.b) ∧ w.cell? ⟨b, 4, none⟩ = some (.int .i64 x.n) ∧ w.cell? ⟨b, 5, none⟩ = some (.int .i64 x.c) ∧ w.cell? ⟨b, 6, none⟩ = some (.string s) := by
  refine ⟨?_, ?_, ?_, ?_, ?_, ?_, ?_⟩
  · rw [cell_of_row w b 0 _ _ _ h]; rfl
  · rw [cell_of_row w b 1 _ _ _ h]; rfl
  · rw [cell_of_row w b 2 _ _ _ h]; rfl
  · rw [cell_of_row w b 3 _ _ _ h]; rfl
  · rw [cell_of_row w b 4 _ _ _ h]; rfl
  · rw [cell_of_row w b 5 _ _ _ h]; rfl
  · rw [cell_of_row w b 6 _ _ _ h]; rfl
theorem stays {w1 w2 : World} {b : Nat} {x : Cfg} {s : ByteArray} (h : w1.heap[b]? = some (brO x s)) (hb : Below w1.heap.size w1 w2) : w2.heap[b]? = some (brO x s) := (hb.block b (Array.getElem?_eq_some_iff.1 h).1).trans h
/-- Its bytes. -/
def bytesB (x : Cfg) (s : ByteArray) : ByteArray := cfgB x ++ s
theorem bytesB_size (x : Cfg) (s : ByteArray) : (bytesB x s).size = 24 + s.size := by unfold bytesB; rw [ByteArray.size_append, cfgB_size]
structure Ok (x : Cfg) (s : ByteArray) : Prop where
  good : Cf.Good x
  size : (s.size : Int) = totZ x
theorem Ok.most {x : Cfg} {s : ByteArray} (h : Ok x s) : s.size ≤ 8192 := by have := h.size; have := h.good.fits; omega
theorem Ok.least {x : Cfg} {s : ByteArray} (h : Ok x s) : 1 ≤ s.size := by
  have h1 := h.size
  have h2 := span_in h.good.is 0 2 (by omega)
  have h3 := span_in h.good.is 11 1 (by omega)
  have h4 := mid_in h.good.is
  unfold totZ at h1
  omega
theorem isZ_iff {x : Cfg} {p k : Int} : isZ x p k = true ↔ Cf.Good x ∧ 0 ≤ p ∧ p ≤ 11 ∧ 0 ≤ k ∧ k < timesZ x p := by
  unfold isZ
  simp only [Bool.and_eq_true, decide_eq_true_iff, good_iff]
/-- The bytes of a part of a block. -/
def pieceB (x : Cfg) (s : ByteArray) (p k : Int) : ByteArray := s.extract (fromZ x p k).toNat (fromZ x p k + areaZ x p).toNat
theorem piece_size {x : Cfg} {s : ByteArray} (h : Ok x s) {p k : Nat} (hp : p ≤ 11) (hk : (k : Int) < timesZ x (p : Int)) : ((pieceB x s (p : Int) (k : Int)).size : Int) = areaZ x (p : Int) := by
  have h1 := hit_within h.good.is hp hk
  have h2 := h.size
  have h3 := area_in h.good.is (p := (p : Int)) (by omega) (by omega)
  unfold pieceB
  rw [ByteArray.size_extract]
  omega
theorem piece_sizeZ {x : Cfg} {s : ByteArray} (h : Ok x s) {p k : Int} (hi : isZ x p k = true) : ((pieceB x s p k).size : Int) = areaZ x p := by
  unfold isZ at hi
  simp only [Bool.and_eq_true, decide_eq_true_iff] at hi
  obtain ⟨_, h0, h1, h2, h3⟩ := hi
  have hp : ((p.toNat : Nat) : Int) = p := by omega
  have hk : ((k.toNat : Nat) : Int) = k := by omega
  have := piece_size h (p := p.toNat) (k := k.toNat) (by omega) (by rw [hp, hk]; exact h3)
  rwa [hp, hk] at this
theorem ext_more {s : ByteArray} {a b : Nat} (h : a ≤ b) : s.extract 0 a ++ s.extract a b = s.extract 0 b := by
  rw [ByteArray.extract_append_extract, Nat.min_eq_left (Nat.zero_le _), Nat.max_eq_right h]
/-- The weights up to a part. -/
def preF (x : Cfg) (s : ByteArray) (p : Nat) : ByteArray := s.extract 0 (spanZ x 0 p).toNat
def preM (x : Cfg) (s : ByteArray) (k q : Nat) : ByteArray := s.extract 0 (spanZ x 0 2 + (k : Int) * spanZ x 2 9 + spanZ x 2 q).toNat
theorem pre_zero (x : Cfg) (s : ByteArray) : preF x s 0 = ByteArray.empty := by
  unfold preF
  rw [show (spanZ x 0 0).toNat = 0 from rfl]
  apply ByteArray.ext
  rw [ByteArray.data_extract]
  simp
theorem pre_two (x : Cfg) (s : ByteArray) : preF x s 2 = preM x s 0 0 := by
  unfold preF preM
  rw [show ((0 : Nat) : Int) * spanZ x 2 9 = 0 from Int.zero_mul _, show spanZ x 2 0 = 0 from rfl, Int.add_zero, Int.add_zero]
theorem pre_nine (x : Cfg) (s : ByteArray) (k : Nat) : preM x s k 9 = preM x s (k + 1) 0 := by
  unfold preM
  rw [show spanZ x 2 0 = 0 from rfl, Int.add_zero, show ((k + 1 : Nat) : Int) = (k : Int) + 1 by omega, Int.add_mul, Int.one_mul, ← Int.add_assoc]
section
variable {x : Cfg} {s : ByteArray} (h : Ok x s)
include h
theorem pre_first {p : Nat} (hp : p < 2) : preF x s p ++ pieceB x s (p : Int) ((0 : Nat) : Int) = preF x s (p + 1) := by
  have h1 := span_nonneg h.good.is 0 p (by omega)
  have h2 := area_in h.good.is (p := (p : Int)) (by omega) (by omega)
  unfold preF pieceB
  rw [from_first hp]
  have h3 : spanZ x 0 (p + 1) = spanZ x 0 p + areaZ x ((0 + p : Nat) : Int) := rfl
  rw [Nat.zero_add] at h3
  rw [h3]
  exact ext_more (by omega)
theorem pre_mid {k q : Nat} (hq : q < 9) : preM x s k q ++ pieceB x s ((2 + q : Nat) : Int) (k : Int) = preM x s k (q + 1) := by
  have hS := span_nonneg h.good.is 2 9 (by omega)
  have h0 := span_nonneg h.good.is 0 2 (by omega)
  have h1 := span_nonneg h.good.is 2 q (by omega)
  have h2 := area_in h.good.is (p := ((2 + q : Nat) : Int)) (by omega) (by omega)
  have h4 : 0 ≤ (k : Int) * spanZ x 2 9 := Int.mul_nonneg (by omega) hS
  unfold preM pieceB
  rw [from_mid hq]
  have h3 : spanZ x 2 (q + 1) = spanZ x 2 q + areaZ x ((2 + q : Nat) : Int) := rfl
  rw [h3]
  rw [show spanZ x 0 2 + (k : Int) * spanZ x 2 9 + spanZ x 2 q + areaZ x ((2 + q : Nat) : Int) = spanZ x 0 2 + (k : Int) * spanZ x 2 9 + (spanZ x 2 q + areaZ x ((2 + q : Nat) : Int)) from Int.add_assoc _ _ _]
  exact ext_more (by omega)
theorem pre_last {B : Nat} (hB : (B : Int) = x.b) : preM x s B 0 ++ pieceB x s ((11 : Nat) : Int) ((0 : Nat) : Int) = s := by
  have h0 := span_nonneg h.good.is 0 2 (by omega)
  have h1 := mid_in h.good.is
  have h2 := area_in h.good.is (p := ((11 : Nat) : Int)) (by omega) (by omega)
  have h3 := h.size
  unfold preM pieceB
  rw [from_last, show spanZ x 2 0 = 0 from rfl, Int.add_zero, hB, ext_more (by omega)]
  have h4 : spanZ x 11 1 = 0 + areaZ x ((11 + 0 : Nat) : Int) := rfl
  rw [Int.zero_add, Nat.add_zero] at h4
  rw [show (spanZ x 0 2 + x.b * spanZ x 2 9 + areaZ x ((11 : Nat) : Int)).toNat = s.size by unfold totZ at h3; omega]
  exact ByteArray.extract_zero_size
theorem pre_sizes (k q : Nat) (p : Nat) : (preM x s k q).size ≤ 8192 ∧ (preF x s p).size ≤ 8192 ∧ ∀ p k : Int, (pieceB x s p k).size ≤ 8192 := by
  have := h.most
  unfold preM preF pieceB
  refine ⟨?_, ?_, fun p k => ?_⟩ <;> rw [ByteArray.size_extract] <;> omega
end
/-- The numbers of a row of a part of a block; nothing, if there is none. -/
def rowZ (x : Cfg) (s : ByteArray) (p k a : Int) : List Int := if isZ x p k = true ∧ 0 ≤ a ∧ a < rowsZ x p then rowD (listD (pieceB x s p k)) (colsZ x p).toNat a.toNat else []
theorem rows_fit {x : Cfg} (h : In x) {p : Int} (h0 : 0 ≤ p) (h1 : p ≤ 11) : fitB (rowsZ x p) = true ∧ fitB (colsZ x p) = true := by
  have a := rows_in h h0 h1
  have b := cols_in h h0 h1
  exact ⟨fitB_iff.2 ⟨a.1, by omega⟩, fitB_iff.2 ⟨b.1, by omega⟩⟩
end Br
end Go.Proofs.YtkdkeokldcehhaaGreatDoor
namespace Go.Proofs.YtkdkeokldcehhaaGreatDoor
open Go.ChangeShapes Go.WideShapes Go.ChangeAt Go.RowKit Cf Br

theorem brain_weights' (w : World) (b : Nat) (x : Cfg) (s : ByteArray) (h : w.heap[b]? = some (brO x s)) : Calls Tryz.prog 57 #[.pointer (some ⟨b, 0, none⟩)] w fun e w' => e = .returned (.string s) ∧ w = w' := by
  obtain ⟨e0, e1, e2, e3, e4, e5, e6⟩ := seven h
  clear h
  go_enter Tryz.func57, Tryz.ntmps57
  go_wp2
  go_ret
  exact ⟨rfl, rfl⟩
end Go.Proofs.YtkdkeokldcehhaaGreatDoor
namespace Go.Proofs.YtkdkeokldcehhaaGreatDoor
open Go.ChangeShapes Go.WideShapes Go.ChangeAt Go.RowKit Nm Cf Vc Br

namespace Br
/-- A row of small numbers beside a table's block, that turns. -/
theorem kin_beside {W : World} {b n0 c0 : Nat} {x0 y0 : Int} {A0 A : Option Addr} {zs : List Int} (h : W.heap[b]? = some (tbO x0 y0 A0 n0 c0)) (hk : KIn .i8 W A zs) (r k c : Value) : KIn .i8 (((W.setCell ⟨b, 0, none⟩ r).setCell ⟨b, 1, none⟩ k).setCell ⟨b, 2, none⟩ c) A zs := fun h0 => by
  obtain ⟨pb, po, e, hc⟩ := hk h0
  have hne : pb ≠ b := by
    rintro rfl
    have h1 := hc 0 h0
    rw [cell_of_row W pb _ _ _ _ h] at h1
    unfold tbA at h1
    rw [Nat.add_zero] at h1
    match po with
    | 0 => simp at h1
    | 1 => simp at h1
    | 2 => simp at h1
    | n + 3 => simp at h1
  refine ⟨pb, po, e, fun i hi => ?_⟩
  rw [World.cell?_of_block (w := W) (a := ⟨pb, po + i, none⟩) (by
    rw [heap_setCell_other _ ⟨b, 2, none⟩ pb _ hne, heap_setCell_other _ ⟨b, 1, none⟩ pb _ hne, heap_setCell_other _ ⟨b, 0, none⟩ pb _ hne])]
  exact hc i hi
end Br
section
variable (w : World) (b : Nat) (x : Cfg) (s : ByteArray) (h : w.heap[b]? = some (brO x s))
include h
set_option maxRecDepth 100000 in
set_option maxHeartbeats 1600000 in
theorem brain_table_not (p k : Int) (hn : isZ x p k = false) : Calls Tryz.prog 95 #[.pointer (some ⟨b, 0, none⟩), .int .i64 p, .int .i64 k] w fun e w' => e = .returned (.tuple #[tbV 0 0 none 0 0, .bool false]) ∧ Below w.heap.size w w' := by
  have HR := Lib.hid (fun W => conf_range W x p k)
  unfold rangeV at HR
  rw [if_neg (by rw [hn]; exact Bool.false_ne_true)] at HR
  have HB := Lib.hid ((Below.refl w.heap.size w).alloc (Nat.le_refl _) (tbO 0 0 none 0 0))
  have HN := Lib.hid (heap_alloc_new w (tbO 0 0 none 0 0))
  have HH := Lib.hid ((heap_alloc_old w (tbO 0 0 none 0 0) (Array.getElem?_eq_some_iff.1 h).1).trans h)
  have HI := Lib.hid (tbI 0 0 none 0 0)
  obtain ⟨e0, e1, e2, e3, e4, e5, e6⟩ := seven HH.out
  unfold tbO tbA at e0 e1 e2 e3 e4 e5 e6
  clear h hn
  unfold cfV cfA at HR
  unfold tbV
  go_enter Tryz.func95, Tryz.ntmps95
  go_wp2_with (fail)
  refine (HR.out _).mono ?_
  rintro e w1 ⟨rfl, b1⟩
  have HB1 := Lib.hid (HB.out.trans (b1.mono HB.out.size))
  have HN1 := Lib.hid ((b1.block _ (Array.getElem?_eq_some_iff.1 HN.out).1).trans HN.out)
  have d0 := tb0 HN1.out
  have d1 := tb1 HN1.out
  have d2 := tb2 HN1.out
  have df := tbFz HN1.out
  clear e0 e1 e2 e3 e4 e5 e6 b1 HB HN HR
  go_wp2_with (fail)
  refine bodyPost_ret (results_cell_row_tmp rfl _ _ _ 120 _ _ _ rfl (setT HN1.out 0 0 none 0 0) Tryz.underlying120 rfl HI.out) rfl ?_
  exact ⟨rfl, below_setT HB1.out (Nat.le_refl _) _ _ _⟩
set_option maxRecDepth 100000 in
set_option maxHeartbeats 3200000 in
theorem brain_table (hk : Ok x s) (p k : Int) (hi : isZ x p k = true) : Calls Tryz.prog 95 #[.pointer (some ⟨b, 0, none⟩), .int .i64 p, .int .i64 k] w fun e w' => ∃ A, e = .returned (.tuple #[tbV (rowsZ x p) (colsZ x p) A (pieceB x s p k).size (pieceB x s p k).size, .bool true]) ∧ KIn .i8 w' A (listD (pieceB x s p k)) ∧ Below w.heap.size w w' := by
  have HR := Lib.hid (fun W => conf_range W x p k)
  unfold rangeV at HR
  rw [if_pos hi] at HR
  have HSD := Lib.hid (fun W => conf_Side W x p)
  rw [if_pos (good_iff.2 hk.good), if_pos (good_iff.2 hk.good)] at HSD
  obtain ⟨_, hp0, hp1, hk0, hk1⟩ := is_iff.1 hi
  obtain ⟨hfx, hfy⟩ := rows_fit hk.good.is hp0 hp1
  have hps := piece_sizeZ hk hi
  have hvo := fun W => vecs_of_ok W (rowsZ x p) (colsZ x p) (pieceB x s p k) hfx hfy hps
  have HV := Lib.hid hvo
  have hw := hit_within hk.good.is (p := p.toNat) (k := k.toNat) (by omega) (by rw [show ((p.toNat : Nat) : Int) = p by omega, show ((k.toNat : Nat) : Int) = k by omega]; exact hk1)
  rw [show ((p.toNat : Nat) : Int) = p by omega, show ((k.toNat : Nat) : Int) = k by omega] at hw
  have har := area_in hk.good.is hp0 hp1
  have hsz := hk.size
  have hmo := hk.most
  obtain ⟨i, hi'⟩ : ∃ i : Nat, (i : Int) = fromZ x p k := ⟨(fromZ x p k).toNat, by omega⟩
  obtain ⟨j, hj'⟩ : ∃ j : Nat, (j : Int) = fromZ x p k + areaZ x p := ⟨(fromZ x p k + areaZ x p).toNat, by omega⟩
  have HP := Lib.hid (show s.extract i j = pieceB x s p k by unfold pieceB; rw [show (fromZ x p k).toNat = i by omega, show (fromZ x p k + areaZ x p).toNat = j by omega])
  have a1 : wrap64 ((i : Int) + areaZ x p) = (j : Int) := by rw [hi', ← hj']; exact IntWalk.wrap64_in _ (by omega)
  have a2 : IntKind.i64.wrap ((i : Int) + areaZ x p) = (j : Int) := by rw [hi', ← hj']; exact IntWalk.i64_in _ (by omega)
  have hij : i ≤ j := by omega
  have hjs : j ≤ s.size := by omega
  have hcut := str_cut s i j _ _ rfl rfl hij hjs
  rw [HP.out] at hcut
  have t1 : ¬ (s.size : Int) < (j : Int) := by omega
  have t2 : decide ((s.size : Int) < (j : Int)) = false := decide_eq_false t1
  rw [← hi'] at HR
  have HB := Lib.hid ((Below.refl w.heap.size w).alloc (Nat.le_refl _) (tbO 0 0 none 0 0))
  have HN := Lib.hid (heap_alloc_new w (tbO 0 0 none 0 0))
  have HH := Lib.hid ((heap_alloc_old w (tbO 0 0 none 0 0) (Array.getElem?_eq_some_iff.1 h).1).trans h)
  obtain ⟨e0, e1, e2, e3, e4, e5, e6⟩ := seven HH.out
  unfold tbO tbA at e0 e1 e2 e3 e4 e5 e6
  have A1 := Lib.hid a1
  have A2 := Lib.hid a2
  have T1 := Lib.hid t1
  have T2 := Lib.hid t2
  have HC := Lib.hid hcut
  clear h hk hi hp0 hp1 hk0 hk1 hfx hfy hps hvo hw har hsz hmo hi' hj' a1 a2 hij hjs hcut t1 t2
  generalize areaZ x p = Ar at *
  generalize rowsZ x p = R at *
  generalize colsZ x p = C at *
  generalize pieceB x s p k = P at *
  unfold cfV cfA at HR HSD
  unfold tbV at HV ⊢
  have HTA := Lib.hid (show ∀ A, tbA R C A P.size P.size = #[.int .i64 R, .int .i64 C, .slice A P.size P.size] from fun _ => rfl)
  go_enter Tryz.func95, Tryz.ntmps95
  go_wp2_with (fail)
  refine (HR.out _).mono ?_
  rintro e w1 ⟨rfl, b1⟩
  have HB1 := Lib.hid (HB.out.trans (b1.mono HB.out.size))
  have HH1 := Lib.hid (Br.stays HH.out b1)
  have HN1 := Lib.hid ((b1.block _ (Array.getElem?_eq_some_iff.1 HN.out).1).trans HN.out)
  clear e0 e1 e2 e3 e4 e5 e6 b1 HB HH HR HN
  obtain ⟨e0, e1, e2, e3, e4, e5, e6⟩ := seven HH1.out
  have a1 := A1.out
  have a2 := A2.out
  have t1 := T1.out
  have t2 := T2.out
  go_wp2_with (fail)
  refine (HSD.out _).mono ?_
  rintro e w2 ⟨rfl, b2⟩
  have HB2 := Lib.hid (HB1.out.trans (b2.mono HB1.out.size))
  have HH2 := Lib.hid (Br.stays HH1.out b2)
  have HN2 := Lib.hid ((b2.block _ (Array.getElem?_eq_some_iff.1 HN1.out).1).trans HN1.out)
  clear e0 e1 e2 e3 e4 e5 e6 b2 HB1 HH1 HSD HN1
  obtain ⟨e0, e1, e2, e3, e4, e5, e6⟩ := seven HH2.out
  have hcut := HC.out
  go_wp2_with (fail)
  refine (HV.out _).mono ?_
  rintro e w3 ⟨A, rfl, hA, b3⟩
  have HB3 := Lib.hid (HB2.out.trans (b3.mono HB2.out.size))
  have HA := Lib.hid hA
  have HI := Lib.hid (tbI R C A P.size P.size)
  have hN3 := (b3.block _ (Array.getElem?_eq_some_iff.1 HN2.out).1).trans HN2.out
  have HN4 := Lib.hid ((heap_alloc_old w3 (tbO R C A P.size P.size) (Array.getElem?_eq_some_iff.1 hN3).1).trans hN3)
  have HB4 := Lib.hid (HB3.out.alloc HB3.out.size (tbO R C A P.size P.size))
  have HA4 := Lib.hid (show KIn .i8 (w3.alloc (tbO R C A P.size P.size)) A (listD P) from hA.below ((Below.refl _ _).alloc (Nat.le_refl _) _) (Nat.le_refl _))
  have d0 := tb0 HN4.out
  have d1 := tb1 HN4.out
  have d2 := tb2 HN4.out
  have df := tbFz HN4.out
  clear e0 e1 e2 e3 e4 e5 e6 b3 hA hcut a1 a2 t1 t2 hN3
  rw [HTA.out]
  unfold tbO tbA at d0 d1 d2 df
  go_wp2_with (fail)
  refine bodyPost_ret (results_cell_row_tmp rfl _ _ _ 120 _ _ _ rfl (setT HN4.out R C A P.size P.size) Tryz.underlying120 rfl HI.out) rfl ?_
  exact ⟨A, rfl, kin_beside HN4.out HA4.out _ _ _, below_setT HB4.out (Nat.le_refl _) _ _ _⟩
omit h in
set_option maxRecDepth 100000 in
set_option maxHeartbeats 3200000 in
/-- Row, by what Table and the table's Row say. -/
theorem brain_row_by (p k a : Int) (R C : Int) (P : List Int) (n : Nat) (f : Bool) (L : List Int)
    (hT : Calls Tryz.prog 95 #[.pointer (some ⟨b, 0, none⟩), .int .i64 p, .int .i64 k] w fun e w' => ∃ A, e = .returned (.tuple #[tbV R C A n n, .bool f]) ∧ KIn .i8 w' A P ∧ Below w.heap.size w w')
    (hR : ∀ W A, KIn .i8 W A P → Calls Tryz.prog 98 #[tbV R C A n n, .int .i64 a] W (RowSays W (fun v => v) L)) :
    Calls Tryz.prog 90 #[.pointer (some ⟨b, 0, none⟩), .int .i64 p, .int .i64 k, .int .i64 a] w (RowSays w (fun v => v) L) := by
  have HT := Lib.hid hT
  have HR := Lib.hid hR
  have HTA := Lib.hid (show ∀ A, tbV R C A n n = .agg #[.int .i64 R, .int .i64 C, .slice A n n] from fun _ => rfl)
  clear hT hR
  simp only [HTA.out] at HT HR
  go_enter Tryz.func90, Tryz.ntmps90
  go_wp2_with (fail)
  refine HT.out.mono ?_
  rintro e w1 ⟨A, rfl, hA, b1⟩
  have HB1 := Lib.hid (b1.alloc b1.size (tbO R C A n n))
  have HA1 := Lib.hid (show KIn .i8 (w1.alloc (tbO R C A n n)) A P from hA.below ((Below.refl _ _).alloc (Nat.le_refl _) _) (Nat.le_refl _))
  have hN1 := heap_alloc_new w1 (tbO R C A n n)
  have d0 := tb0 hN1
  have d1 := tb1 hN1
  have d2 := tb2 hN1
  unfold tbO tbA at d0 d1 d2 HA1 HB1
  clear b1 hA hN1
  go_wp2_with (fail)
  refine (HR.out _ _ HA1.out).mono ?_
  rintro e w2 ⟨B, c, rfl, hB, b2⟩
  have HB2 := Lib.hid (HB1.out.trans (b2.mono HB1.out.size))
  have HK2 := Lib.hid hB
  clear b2 hB d0 d1 d2
  go_wp2_with (fail)
  exact bodyPost_ret (results_tmp rfl _ _ _) rfl ⟨B, c, rfl, HK2.out, HB2.out⟩
theorem brain_row (hk : Ok x s) (p k a : Int) : Calls Tryz.prog 90 #[.pointer (some ⟨b, 0, none⟩), .int .i64 p, .int .i64 k, .int .i64 a] w (RowSays w (fun v => v) (rowZ x s p k a)) := by
  by_cases hi : isZ x p k = true
  · obtain ⟨_, hp0, hp1, _, _⟩ := is_iff.1 hi
    obtain ⟨hfx, hfy⟩ := rows_fit hk.good.is hp0 hp1
    have hps := piece_sizeZ hk hi
    have hgd : goodB (rowsZ x p) (colsZ x p) (pieceB x s p k).size = true := goodB_iff.2 ⟨fitB_iff.1 hfx, fitB_iff.1 hfy, hps⟩
    refine brain_row_by w b p k a (rowsZ x p) (colsZ x p) (listD (pieceB x s p k)) (pieceB x s p k).size true _ (brain_table w b x s h hk p k hi) fun W A hA => ?_
    have hR : ((rowsZ x p).toNat : Int) = rowsZ x p := by have := (fitB_iff.1 hfx).1; omega
    have hC : ((colsZ x p).toNat : Int) = colsZ x p := by have := (fitB_iff.1 hfy).1; omega
    by_cases ha : 0 ≤ a ∧ a < rowsZ x p
    · unfold rowZ
      rw [if_pos ⟨hi, ha⟩]
      have := table_row W (rowsZ x p).toNat (colsZ x p).toNat a.toNat A (pieceB x s p k).size (pieceB x s p k).size (listD (pieceB x s p k)) (by rw [hR, hC]; exact hgd) (listD_length _) (by omega) hA (listD_I8 _)
      rwa [hR, hC, show ((a.toNat : Nat) : Int) = a by omega] at this
    · unfold rowZ
      rw [if_neg fun hh => ha hh.2]
      refine (table_row_not W (rowsZ x p) (colsZ x p) a A _ _ (.inr (by omega))).mono ?_
      rintro e w' ⟨rfl, hb⟩
      exact ⟨none, 0, rfl, fun h0 => absurd h0 (Nat.lt_irrefl _), hb⟩
  · unfold rowZ
    rw [if_neg fun hh => hi hh.1]
    refine brain_row_by w b p k a 0 0 [] 0 false _ ((brain_table_not w b x s h p k (Bool.not_eq_true _ ▸ hi)).mono ?_) fun W A hA => (table_row_not W 0 0 a A 0 0 (.inl rfl)).mono ?_
    · rintro e w' ⟨rfl, hb⟩
      exact ⟨none, rfl, fun h0 => absurd h0 (Nat.lt_irrefl _), hb⟩
    · rintro e w' ⟨rfl, hb⟩
      exact ⟨none, 0, rfl, fun h0 => absurd h0 (Nat.lt_irrefl _), hb⟩
end
end Go.Proofs.YtkdkeokldcehhaaGreatDoor
