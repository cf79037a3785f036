/-
  Package brain: what Table and Row answer. Conditions: a model stands in its block; its shape can be, and its weights are as many.
-/
import Derived.Test.YtgenpfhcbopokaaDoorMg10
import Derived.Test.YtgenpfhcbopokaaDoorMg15
import Derived.Test.YtgenpfhcbopokaaDoorMg9
import Derived.Test.YtgenpfhcbopokaaDoorMg16
set_option maxRecDepth 100000
namespace Go.Proofs.YtgenpfhcbopokaaDoor
open Go.ChangeShapes Go.WideShapes Go.ChangeAt Go.RowKit Nm Cf Vc Br

namespace Br
/-- A row of small numbers beside a table's block, that turns. -/
theorem kin_beside {W : World} {b n0 c0 : Nat} {x0 y0 : Int} {A0 A : Option Addr} {zs : List Int} (h : W.heap[b]? = some (tbO x0 y0 A0 n0 c0)) (hk : KIn .i8 W A zs) (r k c : Value) : KIn .i8 (((W.setCell ⟨b, 0, none⟩ r).setCell ⟨b, 1, none⟩ k).setCell ⟨b, 2, none⟩ c) A zs := fun h0 => by
  obtain ⟨pb, po, e, hc⟩ := hk h0
  have hne : pb ≠ b := by
    rintro rfl
    have h1 := hc 0 h0
    rw [cell_of_row W pb _ _ _ _ h] at h1
    unfold tbA at h1
    rw [Nat.add_zero] at h1
    match po with
    | 0 => simp at h1
    | 1 => simp at h1
    | 2 => simp at h1
    | n + 3 => simp at h1
  refine ⟨pb, po, e, fun i hi => ?_⟩
  rw [World.cell?_of_block (w := W) (a := ⟨pb, po + i, none⟩) (by
    rw [heap_setCell_other _ ⟨b, 2, none⟩ pb _ hne, heap_setCell_other _ ⟨b, 1, none⟩ pb _ hne, heap_setCell_other _ ⟨b, 0, none⟩ pb _ hne])]
  exact hc i hi
end Br
section
variable (w : World) (b : Nat) (x : Cfg) (s : ByteArray) (h : w.heap[b]? = some (brO x s))
include h
set_option maxRecDepth 100000 in
set_option maxHeartbeats 1600000 in
theorem brain_table_not (p k : Int) (hn : isZ x p k = false) : Calls Tryd.prog 14 #[.pointer (some ⟨b, 0, none⟩), .int .i64 p, .int .i64 k] w fun e w' => e = .returned (.tuple #[tbV 0 0 none 0 0, .bool false]) ∧ Below w.heap.size w w' := by
  have HR := Lib.hid (fun W => conf_range W x p k)
  unfold rangeV at HR
  rw [if_neg (by rw [hn]; exact Bool.false_ne_true)] at HR
  have HB := Lib.hid ((Below.refl w.heap.size w).alloc (Nat.le_refl _) (tbO 0 0 none 0 0))
  have HN := Lib.hid (heap_alloc_new w (tbO 0 0 none 0 0))
  have HH := Lib.hid ((heap_alloc_old w (tbO 0 0 none 0 0) (Array.getElem?_eq_some_iff.1 h).1).trans h)
  have HI := Lib.hid (tbI 0 0 none 0 0)
  obtain ⟨e0, e1, e2, e3, e4, e5, e6⟩ := seven HH.out
  unfold tbO tbA at e0 e1 e2 e3 e4 e5 e6
  clear h hn
  unfold cfV cfA at HR
  unfold tbV
  go_enter Tryd.func14, Tryd.ntmps14
  go_wp2_with (fail)
  refine (HR.out _).mono ?_
  rintro e w1 ⟨rfl, b1⟩
  have HB1 := Lib.hid (HB.out.trans (b1.mono HB.out.size))
  have HN1 := Lib.hid ((b1.block _ (Array.getElem?_eq_some_iff.1 HN.out).1).trans HN.out)
  have d0 := tb0 HN1.out
  have d1 := tb1 HN1.out
  have d2 := tb2 HN1.out
  have df := tbFz HN1.out
  clear e0 e1 e2 e3 e4 e5 e6 b1 HB HN HR
  go_wp2_with (fail)
  refine bodyPost_ret (results_cell_row_tmp rfl _ _ _ 46 _ _ _ rfl (setT HN1.out 0 0 none 0 0) Tryd.underlying46 rfl HI.out) rfl ?_
  exact ⟨rfl, below_setT HB1.out (Nat.le_refl _) _ _ _⟩
set_option maxRecDepth 100000 in
set_option maxHeartbeats 3200000 in
theorem brain_table (hk : Ok x s) (p k : Int) (hi : isZ x p k = true) : Calls Tryd.prog 14 #[.pointer (some ⟨b, 0, none⟩), .int .i64 p, .int .i64 k] w fun e w' => ∃ A, e = .returned (.tuple #[tbV (rowsZ x p) (colsZ x p) A (pieceB x s p k).size (pieceB x s p k).size, .bool true]) ∧ KIn .i8 w' A (listD (pieceB x s p k)) ∧ Below w.heap.size w w' := by
  have HR := Lib.hid (fun W => conf_range W x p k)
  unfold rangeV at HR
  rw [if_pos hi] at HR
  have HSD := Lib.hid (fun W => conf_Side W x p)
  rw [if_pos (good_iff.2 hk.good), if_pos (good_iff.2 hk.good)] at HSD
  obtain ⟨_, hp0, hp1, hk0, hk1⟩ := is_iff.1 hi
  obtain ⟨hfx, hfy⟩ := rows_fit hk.good.is hp0 hp1
  have hps := piece_sizeZ hk hi
  have hvo := fun W => vecs_of_ok W (rowsZ x p) (colsZ x p) (pieceB x s p k) hfx hfy hps
  have HV := Lib.hid hvo
  have hw := hit_within hk.good.is (p := p.toNat) (k := k.toNat) (by omega) (by rw [show ((p.toNat : Nat) : Int) = p by omega, show ((k.toNat : Nat) : Int) = k by omega]; exact hk1)
  rw [show ((p.toNat : Nat) : Int) = p by omega, show ((k.toNat : Nat) : Int) = k by omega] at hw
  have har := area_in hk.good.is hp0 hp1
  have hsz := hk.size
  have hmo := hk.most
  obtain ⟨i, hi'⟩ : ∃ i : Nat, (i : Int) = fromZ x p k := ⟨(fromZ x p k).toNat, by omega⟩
  obtain ⟨j, hj'⟩ : ∃ j : Nat, (j : Int) = fromZ x p k + areaZ x p := ⟨(fromZ x p k + areaZ x p).toNat, by omega⟩
  have HP := Lib.hid (show s.extract i j = pieceB x s p k by unfold pieceB; rw [show (fromZ x p k).toNat = i by omega, show (fromZ x p k + areaZ x p).toNat = j by omega])
  have a1 : wrap64 ((i : Int) + areaZ x p) = (j : Int) := by rw [hi', ← hj']; exact IntWalk.wrap64_in _ (by omega)
  have a2 : IntKind.i64.wrap ((i : Int) + areaZ x p) = (j : Int) := by rw [hi', ← hj']; exact IntWalk.i64_in _ (by omega)
  have hij : i ≤ j := by omega
  have hjs : j ≤ s.size := by omega
  have hcut := str_cut s i j _ _ rfl rfl hij hjs
  rw [HP.out] at hcut
  have t1 : ¬ (s.size : Int) < (j : Int) := by omega
  have t2 : decide ((s.size : Int) < (j : Int)) = false := decide_eq_false t1
  rw [← hi'] at HR
  have HB := Lib.hid ((Below.refl w.heap.size w).alloc (Nat.le_refl _) (tbO 0 0 none 0 0))
  have HN := Lib.hid (heap_alloc_new w (tbO 0 0 none 0 0))
  have HH := Lib.hid ((heap_alloc_old w (tbO 0 0 none 0 0) (Array.getElem?_eq_some_iff.1 h).1).trans h)
  obtain ⟨e0, e1, e2, e3, e4, e5, e6⟩ := seven HH.out
  unfold tbO tbA at e0 e1 e2 e3 e4 e5 e6
  have A1 := Lib.hid a1
  have A2 := Lib.hid a2
  have T1 := Lib.hid t1
  have T2 := Lib.hid t2
  have HC := Lib.hid hcut
  clear h hk hi hp0 hp1 hk0 hk1 hfx hfy hps hvo hw har hsz hmo hi' hj' a1 a2 hij hjs hcut t1 t2
  generalize areaZ x p = Ar at *
  generalize rowsZ x p = R at *
  generalize colsZ x p = C at *
  generalize pieceB x s p k = P at *
  unfold cfV cfA at HR HSD
  unfold tbV at HV ⊢
  have HTA := Lib.hid (show ∀ A, tbA R C A P.size P.size = #[.int .i64 R, .int .i64 C, .slice A P.size P.size] from fun _ => rfl)
  go_enter Tryd.func14, Tryd.ntmps14
  go_wp2_with (fail)
  refine (HR.out _).mono ?_
  rintro e w1 ⟨rfl, b1⟩
  have HB1 := Lib.hid (HB.out.trans (b1.mono HB.out.size))
  have HH1 := Lib.hid (Br.stays HH.out b1)
  have HN1 := Lib.hid ((b1.block _ (Array.getElem?_eq_some_iff.1 HN.out).1).trans HN.out)
  clear e0 e1 e2 e3 e4 e5 e6 b1 HB HH HR HN
  obtain ⟨e0, e1, e2, e3, e4, e5, e6⟩ := seven HH1.out
  have a1 := A1.out
  have a2 := A2.out
  have t1 := T1.out
  have t2 := T2.out
  go_wp2_with (fail)
  refine (HSD.out _).mono ?_
  rintro e w2 ⟨rfl, b2⟩
  have HB2 := Lib.hid (HB1.out.trans (b2.mono HB1.out.size))
  have HH2 := Lib.hid (Br.stays HH1.out b2)
  have HN2 := Lib.hid ((b2.block _ (Array.getElem?_eq_some_iff.1 HN1.out).1).trans HN1.out)
  clear e0 e1 e2 e3 e4 e5 e6 b2 HB1 HH1 HSD HN1
  obtain ⟨e0, e1, e2, e3, e4, e5, e6⟩ := seven HH2.out
  have hcut := HC.out
  go_wp2_with (fail)
  refine (HV.out _).mono ?_
  rintro e w3 ⟨A, rfl, hA, b3⟩
  have HB3 := Lib.hid (HB2.out.trans (b3.mono HB2.out.size))
  have HA := Lib.hid hA
  have HI := Lib.hid (tbI R C A P.size P.size)
  have hN3 := (b3.block _ (Array.getElem?_eq_some_iff.1 HN2.out).1).trans HN2.out
  have HN4 := Lib.hid ((heap_alloc_old w3 (tbO R C A P.size P.size) (Array.getElem?_eq_some_iff.1 hN3).1).trans hN3)
  have HB4 := Lib.hid (HB3.out.alloc HB3.out.size (tbO R C A P.size P.size))
  have HA4 := Lib.hid (show KIn .i8 (w3.alloc (tbO R C A P.size P.size)) A (listD P) from hA.below ((Below.refl _ _).alloc (Nat.le_refl _) _) (Nat.le_refl _))
  have d0 := tb0 HN4.out
  have d1 := tb1 HN4.out
  have d2 := tb2 HN4.out
  have df := tbFz HN4.out
  clear e0 e1 e2 e3 e4 e5 e6 b3 hA hcut a1 a2 t1 t2 hN3
  rw [HTA.out]
  unfold tbO tbA at d0 d1 d2 df
  go_wp2_with (fail)
  refine bodyPost_ret (results_cell_row_tmp rfl _ _ _ 46 _ _ _ rfl (setT HN4.out R C A P.size P.size) Tryd.underlying46 rfl HI.out) rfl ?_
  exact ⟨A, rfl, kin_beside HN4.out HA4.out _ _ _, below_setT HB4.out (Nat.le_refl _) _ _ _⟩
omit h in
set_option maxRecDepth 100000 in
set_option maxHeartbeats 3200000 in
/-- Row, by what Table and the table's Row say. -/
theorem brain_row_by (p k a : Int) (R C : Int) (P : List Int) (n : Nat) (f : Bool) (L : List Int)
    (hT : Calls Tryd.prog 14 #[.pointer (some ⟨b, 0, none⟩), .int .i64 p, .int .i64 k] w fun e w' => ∃ A, e = .returned (.tuple #[tbV R C A n n, .bool f]) ∧ KIn .i8 w' A P ∧ Below w.heap.size w w')
    (hR : ∀ W A, KIn .i8 W A P → Calls Tryd.prog 20 #[tbV R C A n n, .int .i64 a] W (RowSays W (fun v => v) L)) :
    Calls Tryd.prog 12 #[.pointer (some ⟨b, 0, none⟩), .int .i64 p, .int .i64 k, .int .i64 a] w (RowSays w (fun v => v) L) := by
  have HT := Lib.hid hT
  have HR := Lib.hid hR
  have HTA := Lib.hid (show ∀ A, tbV R C A n n = .agg #[.int .i64 R, .int .i64 C, .slice A n n] from fun _ => rfl)
  clear hT hR
  simp only [HTA.out] at HT HR
  go_enter Tryd.func12, Tryd.ntmps12
  go_wp2_with (fail)
  refine HT.out.mono ?_
  rintro e w1 ⟨A, rfl, hA, b1⟩
  have HB1 := Lib.hid (b1.alloc b1.size (tbO R C A n n))
  have HA1 := Lib.hid (show KIn .i8 (w1.alloc (tbO R C A n n)) A P from hA.below ((Below.refl _ _).alloc (Nat.le_refl _) _) (Nat.le_refl _))
  have hN1 := heap_alloc_new w1 (tbO R C A n n)
  have d0 := tb0 hN1
  have d1 := tb1 hN1
  have d2 := tb2 hN1
  unfold tbO tbA at d0 d1 d2 HA1 HB1
  clear b1 hA hN1
  go_wp2_with (fail)
  refine (HR.out _ _ HA1.out).mono ?_
  rintro e w2 ⟨B, c, rfl, hB, b2⟩
  have HB2 := Lib.hid (HB1.out.trans (b2.mono HB1.out.size))
  have HK2 := Lib.hid hB
  clear b2 hB d0 d1 d2
  go_wp2_with (fail)
  exact bodyPost_ret (results_tmp rfl _ _ _) rfl ⟨B, c, rfl, HK2.out, HB2.out⟩
theorem brain_row (hk : Ok x s) (p k a : Int) : Calls Tryd.prog 12 #[.pointer (some ⟨b, 0, none⟩), .int .i64 p, .int .i64 k, .int .i64 a] w (RowSays w (fun v => v) (rowZ x s p k a)) := by
  by_cases hi : isZ x p k = true
  · obtain ⟨_, hp0, hp1, _, _⟩ := is_iff.1 hi
    obtain ⟨hfx, hfy⟩ := rows_fit hk.good.is hp0 hp1
    have hps := piece_sizeZ hk hi
    have hgd : goodB (rowsZ x p) (colsZ x p) (pieceB x s p k).size = true := goodB_iff.2 ⟨fitB_iff.1 hfx, fitB_iff.1 hfy, hps⟩
    refine brain_row_by w b p k a (rowsZ x p) (colsZ x p) (listD (pieceB x s p k)) (pieceB x s p k).size true _ (brain_table w b x s h hk p k hi) fun W A hA => ?_
    have hR : ((rowsZ x p).toNat : Int) = rowsZ x p := by have := (fitB_iff.1 hfx).1; omega
    have hC : ((colsZ x p).toNat : Int) = colsZ x p := by have := (fitB_iff.1 hfy).1; omega
    by_cases ha : 0 ≤ a ∧ a < rowsZ x p
    · unfold rowZ
      rw [if_pos ⟨hi, ha⟩]
      have := table_row W (rowsZ x p).toNat (colsZ x p).toNat a.toNat A (pieceB x s p k).size (pieceB x s p k).size (listD (pieceB x s p k)) (by rw [hR, hC]; exact hgd) (listD_length _) (by omega) hA (listD_I8 _)
      rwa [hR, hC, show ((a.toNat : Nat) : Int) = a by omega] at this
    · unfold rowZ
      rw [if_neg fun hh => ha hh.2]
      refine (table_row_not W (rowsZ x p) (colsZ x p) a A _ _ (.inr (by omega))).mono ?_
      rintro e w' ⟨rfl, hb⟩
      exact ⟨none, 0, rfl, fun h0 => absurd h0 (Nat.lt_irrefl _), hb⟩
  · unfold rowZ
    rw [if_neg fun hh => hi hh.1]
    refine brain_row_by w b p k a 0 0 [] 0 false _ ((brain_table_not w b x s h p k (Bool.not_eq_true _ ▸ hi)).mono ?_) fun W A hA => (table_row_not W 0 0 a A 0 0 (.inl rfl)).mono ?_
    · rintro e w' ⟨rfl, hb⟩
      exact ⟨none, rfl, fun h0 => absurd h0 (Nat.lt_irrefl _), hb⟩
    · rintro e w' ⟨rfl, hb⟩
      exact ⟨none, 0, rfl, fun h0 => absurd h0 (Nat.lt_irrefl _), hb⟩
end
end Go.Proofs.YtgenpfhcbopokaaDoor
