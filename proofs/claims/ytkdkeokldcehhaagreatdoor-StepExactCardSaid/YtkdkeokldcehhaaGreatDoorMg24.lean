/-
  The reference of layer 16: Row. Conditions: the model's weights are as many as its shape asks; there is such a row.
  The reference of layer 17: rows and Good. Conditions: the rows are there; the shape's numbers are small.
  The reference of layer 16: Row, walked. Conditions: the model's weights are as many as its shape asks; there is such a row.
  The reference of layer 17: times, gains, plus. Conditions: the model's weights are as many as its shape asks; there is such a part; the rows are there.
-/
import Derived.Test.YtkdkeokldcehhaaGreatDoorMg7
import Derived.Test.YtkdkeokldcehhaaGreatDoorMg23
import Derived.Test.YtkdkeokldcehhaaGreatDoorMg17
import Derived.Test.YtkdkeokldcehhaaGreatDoorMg11
import Derived.Test.YtkdkeokldcehhaaGreatDoorMg18
import Derived.Test.YtkdkeokldcehhaaGreatDoorMg6
set_option maxRecDepth 100000
namespace Go.Proofs.YtkdkeokldcehhaaGreatDoor
open Go.ChangeShapes Go.WideShapes Go.ChangeAt Go.RowKit Cf Vc Br

namespace Rf
/-- The reference's model: as a value, and in a block. -/
def mdV (x : Cfg) (s : ByteArray) : Value := .agg (brA x s)
def mdO (x : Cfg) (s : ByteArray) : Obj := .cells (brA x s) 35 (0, 0)
theorem seven {w : World} {b : Nat} {x : Cfg} {s : ByteArray} (h : w.heap[b]? = some (mdO x s)) : w.cell? ⟨b, 0, none⟩ = some (.int .i64 x.v) ∧ w.cell? ⟨b, 1, none⟩ = some (.int .i64 x.d) ∧ w.cell? ⟨b, 2, none⟩ = some (.int .i64 x.h) ∧ w.cell? ⟨b, 3, none⟩ = some (.int .i64 x.b) ∧ w.cell? ⟨b, 4, none⟩ = some (.int .i64 x.n) ∧ w.cell? ⟨b, 5, none⟩ = some (.int .i64 x.c) ∧ w.cell? ⟨b, 6, none⟩ = some (.string s) := by
  refine ⟨?_, ?_, ?_, ?_, ?_, ?_, ?_⟩
  · rw [cell_of_row w b 0 _ _ _ h]; rfl
  · rw [cell_of_row w b 1 _ _ _ h]; rfl
  · rw [cell_of_row w b 2 _ _ _ h]; rfl
  · rw [cell_of_row w b 3 _ _ _ h]; rfl
  · rw [cell_of_row w b 4 _ _ _ h]; rfl
  · rw [cell_of_row w b 5 _ _ _ h]; rfl
  · rw [cell_of_row w b 6 _ _ _ h]; rfl
theorem stays {w1 w2 : World} {b : Nat} {o : Obj} (h : w1.heap[b]? = some o) (hb : Below w1.heap.size w1 w2) : w2.heap[b]? = some o := (hb.block b (Array.getElem?_eq_some_iff.1 h).1).trans h
/-- A row's numbers, byte by byte. -/
theorem row_at {x : Cfg} {s : ByteArray} (h : Ok x s) {p k a : Nat} (hp : p ≤ 11) (hk : (k : Int) < timesZ x (p : Int)) (ha : (a : Int) < rowsZ x (p : Int)) :
    ∃ (F C R : Nat), fromZ x (p : Int) (k : Int) = (F : Int) ∧ colsZ x (p : Int) = (C : Int) ∧ rowsZ x (p : Int) = (R : Int) ∧ areaZ x (p : Int) = ((R * C : Nat) : Int) ∧ 1 ≤ C ∧ C ≤ 32 ∧ R ≤ 32 ∧ F + R * C ≤ s.size ∧ s.size ≤ 8192 ∧ a < R ∧ (rowZ x s (p : Int) (k : Int) (a : Int)).length = C ∧ ∀ i, i < C → ∃ hq : F + a * C + i < s.size, (rowZ x s (p : Int) (k : Int) (a : Int)).getD i 0 = i8 (s[F + a * C + i]'hq) := by
  have h1 := hit_within h.good.is hp hk
  have h2 := rows_in h.good.is (p := (p : Int)) (by omega) (by omega)
  have h3 := cols_in h.good.is (p := (p : Int)) (by omega) (by omega)
  have h4 := h.size
  have h5 := h.most
  have hi : isZ x (p : Int) (k : Int) = true := isZ_iff.2 ⟨h.good, by omega, by omega, by omega, hk⟩
  have hr : rowZ x s (p : Int) (k : Int) (a : Int) = rowD (listD (pieceB x s (p : Int) (k : Int))) (colsZ x (p : Int)).toNat a := by
    unfold rowZ
    rw [if_pos ⟨hi, by omega, ha⟩, Int.toNat_natCast]
  obtain ⟨F, hF⟩ : ∃ F : Nat, fromZ x (p : Int) (k : Int) = (F : Int) := ⟨(fromZ x (p : Int) (k : Int)).toNat, by omega⟩
  obtain ⟨C, hC⟩ : ∃ C : Nat, colsZ x (p : Int) = (C : Int) := ⟨(colsZ x (p : Int)).toNat, by omega⟩
  obtain ⟨R, hR⟩ : ∃ R : Nat, rowsZ x (p : Int) = (R : Int) := ⟨(rowsZ x (p : Int)).toNat, by omega⟩
  have hA : areaZ x (p : Int) = ((R * C : Nat) : Int) := by unfold areaZ; rw [hR, hC, Int.natCast_mul]
  have haR : a < R := by omega
  have hFs : F + R * C ≤ s.size := by omega
  have hm : a * C + C ≤ R * C := by
    have := Nat.mul_le_mul_right C (show a + 1 ≤ R by omega)
    rwa [Nat.add_mul, Nat.one_mul] at this
  refine ⟨F, C, R, hF, hC, hR, hA, by omega, by omega, by omega, hFs, h5, haR, by rw [hr, rowD_length, hC, Int.toNat_natCast], fun i hi' => ?_⟩
  have hq : F + a * C + i < s.size := by omega
  refine ⟨hq, ?_⟩
  rw [hr, hC, Int.toNat_natCast, rowD_at _ _ _ _ hi']
  have hps : (pieceB x s (p : Int) (k : Int)).size = R * C := by
    have := piece_size h hp hk
    rw [hA] at this
    omega
  rw [listD_at _ _ (by rw [hps]; omega)]
  congr 1
  unfold pieceB
  rw [ByteArray.getElem_extract]
  congr 1
  rw [hF, Int.toNat_natCast, Nat.add_assoc]
theorem i8_of (b : UInt8) : i8 b = if 127 < (b.toNat : Int) then (b.toNat : Int) - 256 else (b.toNat : Int) := by
  unfold i8
  split <;> split <;> omega
end Rf
end Go.Proofs.YtkdkeokldcehhaaGreatDoor
namespace Go.Proofs.YtkdkeokldcehhaaGreatDoor
open Go.ChangeShapes Go.WideShapes Go.ChangeAt Go.RowKit Cf Vc Br Sp Rf

namespace Rf
theorem rowsB_of {n d : Nat} {L : List (List Int)} (h : L.length = n) (hr : ∀ i, i < n → rowB d (L.getD i []) = true) : rowsB n d L = true := rowsB_iff.2 ⟨h, fun l hl => by
  obtain ⟨i, hi, rfl⟩ := List.mem_iff_getElem.1 hl
  have := hr i (by omega)
  rwa [List.getD_eq_getElem?_getD, List.getElem?_eq_getElem hi] at this⟩
theorem rowsB_no {n d : Nat} {L : List (List Int)} {i : Nat} (hi : i < L.length) (hr : rowB d (L.getD i []) = false) : rowsB n d L = false := by
  rw [Bool.eq_false_iff]
  intro h
  have := (rowsB_iff.1 h).2 (L.getD i []) (by rw [List.getD_eq_getElem?_getD, List.getElem?_eq_getElem hi]; exact List.getElem_mem _)
  rw [hr] at this
  cases this
theorem rowB_of {d : Nat} {l : List Int} (h : l.length = d) (hr : ∀ i, i < d → -32767 ≤ l.getD i 0 ∧ l.getD i 0 ≤ 32767) : rowB d l = true := rowB_iff.2 ⟨h, fun z hz => by
  obtain ⟨i, hi, rfl⟩ := List.mem_iff_getElem.1 hz
  have := hr i (by omega)
  rwa [List.getD_eq_getElem?_getD, List.getElem?_eq_getElem hi] at this⟩
theorem rowB_no {d : Nat} {l : List Int} {i : Nat} (hi : i < l.length) (hr : ¬ (-32767 ≤ l.getD i 0 ∧ l.getD i 0 ≤ 32767)) : rowB d l = false := by
  rw [Bool.eq_false_iff]
  intro h
  exact hr ((rowB_iff.1 h).2 (l.getD i 0) (by rw [List.getD_eq_getElem?_getD, List.getElem?_eq_getElem hi]; exact List.getElem_mem _))
theorem rowB_len {d : Nat} {l : List Int} (h : l.length ≠ d) : rowB d l = false := by
  unfold rowB
  rw [decide_eq_false h]
  rfl
end Rf
set_option maxRecDepth 100000 in
set_option maxHeartbeats 3200000 in
theorem ref17_rows (w : World) (A : Option Addr) (m c : Nat) (B : Nat → Option Addr) (C : Nat → Nat) (L : List (List Int)) (n d : Nat) (hL : L.length = m) (hn : n ≤ 1000000) (hd : d ≤ 1000000) (hA : LIn w A B C L) :
    Calls Tryz.prog 29 #[.slice A m c, .int .i64 (n : Int), .int .i64 (d : Int)] w fun e w' => e = .returned (.bool (rowsB n d L)) ∧ w = w' := by
  have HA := Lib.hid hA
  have HL := Lib.hid hL
  have HN := Lib.hid (And.intro hn hd)
  have HYES := Lib.hid (fun h hr => rowsB_of (n := n) (d := d) (L := L) h hr)
  have HNO := Lib.hid (fun i hi hr => rowsB_no (n := n) (d := d) (L := L) (i := i) hi hr)
  have HLEN := Lib.hid (show m ≠ n → rowsB n d L = false from fun h => by unfold rowsB; rw [decide_eq_false (by rw [hL]; exact h)]; rfl)
  clear hA hL
  generalize rowsB n d L = r at HYES HNO HLEN ⊢
  rcases Classical.em (m ≠ n) with hmn | hmn
  · have t1 : ((m : Int) != (n : Int)) = true := bne_iff_ne.2 (by omega)
    have HR := Lib.hid (HLEN.out hmn)
    clear hmn
    go_enter Tryz.func29, Tryz.ntmps29
    go_wp2_with (fail)
    exact bodyPost_ret (results_tmp rfl _ _ _) rfl ⟨by rw [HR.out]; rfl, rfl⟩
  obtain rfl := Classical.not_not.1 hmn
  have t1 : ((m : Int) != (m : Int)) = false := bne_self_eq_false _
  clear hmn HLEN
  go_enter Tryz.func29, Tryz.ntmps29
  go_wp2_with (fail)
  go_loopw [7] (fun i wr => ∃ j : Nat, i = .int .i64 (j : Int) ∧ j ≤ m ∧ w = wr ∧ ∀ i, i < j → rowB d (L.getD i []) = true) (fun i _ => match i with | .int _ k => m - k.toNat | _ => 0)
  case atStart => exact ⟨0, rfl, Nat.zero_le _, rfl, fun i hi => absurd hi (Nat.not_lt_zero i)⟩
  case round =>
    obtain ⟨j, rfl, hj, rfl, ho⟩ := hrel
    have HO := Lib.hid ho
    clear ho
    have x2 : 0 ≤ (j : Int) := by omega
    by_cases hlt : j < m
    · have x0 : (j : Int) < (m : Int) := by omega
      have x1 : decide ((j : Int) < (m : Int)) = true := decide_eq_true x0
      have HLT := Lib.hid hlt
      obtain ⟨pa, oa, rfl, hc1, hrow⟩ := HA.out.at (show j < L.length by rw [HL.out]; exact hlt)
      obtain ⟨l, hl⟩ : ∃ l, L.getD j [] = l := ⟨_, rfl⟩
      rw [hl] at hc1 hrow
      have HLJ := Lib.hid hl
      have HRW := Lib.hid hrow
      obtain ⟨q, hq⟩ : ∃ q, l.length = q := ⟨_, rfl⟩
      rw [hq] at hc1
      have HQ := Lib.hid hq
      have HWB := Lib.hid (show -9223372036854775808 ≤ (j : Int) + 1 ∧ (j : Int) + 1 ≤ 9223372036854775807 by have := HN.out; omega)
      clear hl hrow hq hlt
      rcases Classical.em (q ≠ d) with hqd | hqd
      · have t2 : ((q : Int) != (d : Int)) = true := bne_iff_ne.2 (by omega)
        have HR := Lib.hid (HNO.out j (by rw [HL.out]; exact HLT.out) (by rw [HLJ.out]; exact rowB_len (by rw [HQ.out]; exact hqd)))
        clear hqd
        go_wp2_with (fail)
        exact bodyPost_ret (results_tmp rfl _ _ _) rfl ⟨by rw [HR.out]; rfl, rfl⟩
      obtain rfl := Classical.not_not.1 hqd
      have t2 : ((q : Int) != (q : Int)) = false := bne_self_eq_false _
      clear hqd
      go_wp2_with (fail)
      go_loopw [8] (fun i wr => ∃ k : Nat, i = .int .i64 (k : Int) ∧ k ≤ q ∧ w = wr ∧ ∀ i, i < k → -32767 ≤ l.getD i 0 ∧ l.getD i 0 ≤ 32767) (fun i _ => match i with | .int _ k => q - k.toNat | _ => 0)
      case atStart => exact ⟨0, rfl, Nat.zero_le _, rfl, fun i hi => absurd hi (Nat.not_lt_zero i)⟩
      case round =>
        obtain ⟨k, rfl, hk, rfl, hi2⟩ := hrel
        have HI2 := Lib.hid hi2
        clear hi2
        have y2 : 0 ≤ (k : Int) := by omega
        by_cases hkq : k < q
        · have y0 : (k : Int) < (q : Int) := by omega
          have y1 : decide ((k : Int) < (q : Int)) = true := decide_eq_true y0
          have HKQ := Lib.hid hkq
          obtain ⟨pb, ob, hBe, hc2⟩ := HRW.out.at (show k < l.length by rw [HQ.out]; exact hkq)
          rw [hBe] at hc1
          obtain ⟨z, hz⟩ : ∃ z, l.getD k 0 = z := ⟨_, rfl⟩
          rw [hz] at hc2
          have HZ := Lib.hid hz
          clear hz hkq
          by_cases h1 : 32767 < z
          · have s1 : decide (32767 < z) = true := decide_eq_true h1
            have HR := Lib.hid (HNO.out j (by rw [HL.out]; exact HLT.out) (by rw [HLJ.out]; exact rowB_no (i := k) (by rw [HQ.out]; exact HKQ.out) (by rw [HZ.out]; omega)))
            clear h1
            go_wp2_with (fail)
            exact bodyPost_ret (results_tmp rfl _ _ _) rfl ⟨by rw [HR.out]; rfl, rfl⟩
          have s1 : decide (32767 < z) = false := decide_eq_false h1
          by_cases h2 : z < -32767
          · have s2 : decide (z < -32767) = true := decide_eq_true h2
            have HR := Lib.hid (HNO.out j (by rw [HL.out]; exact HLT.out) (by rw [HLJ.out]; exact rowB_no (i := k) (by rw [HQ.out]; exact HKQ.out) (by rw [HZ.out]; omega)))
            clear h1 h2
            go_wp2_with (fail)
            exact bodyPost_ret (results_tmp rfl _ _ _) rfl ⟨by rw [HR.out]; rfl, rfl⟩
          have s2 : decide (z < -32767) = false := decide_eq_false h2
          have HZI := Lib.hid (show -32767 ≤ z ∧ z ≤ 32767 by omega)
          have y3 := IntWalk.wrap64_in ((k : Int) + 1) (by have := HN.out; omega)
          clear h1 h2
          go_wp2_with (fail)
          exact ⟨⟨k + 1, rfl, HKQ.out, by trivial, fun i hi => by
            by_cases e : i = k
            · rw [e, HZ.out]; exact HZI.out
            · exact HI2.out i (by omega)⟩, vc_less k q HKQ.out⟩
        · have y0 : ¬ (k : Int) < (q : Int) := by omega
          have y1 : decide ((k : Int) < (q : Int)) = false := decide_eq_false y0
          have HRB := Lib.hid (show rowB q l = true from rowB_of HQ.out fun i hi => HI2.out i (by omega))
          have x3 := IntWalk.wrap64_in ((j : Int) + 1) HWB.out
          clear hkq
          go_wp2_with (fail)
          exact ⟨⟨j + 1, rfl, HLT.out, by trivial, fun i hi => by
            by_cases e : i = j
            · rw [e, HLJ.out]; exact HRB.out
            · exact HO.out i (by omega)⟩, vc_less j m HLT.out⟩
    · have hke : j = m := by omega
      have x0 : ¬ (j : Int) < (m : Int) := by omega
      have x1 : decide ((j : Int) < (m : Int)) = false := decide_eq_false x0
      have HR := Lib.hid (HYES.out HL.out fun i hi => HO.out i (by omega))
      clear hlt hke
      go_wp2_with (fail)
      exact bodyPost_ret (results_tmp rfl _ _ _) rfl ⟨by rw [HR.out]; rfl, rfl⟩
namespace Rf
/-- An entry in the document's form, in a block. -/
def enR (r : Er) (e : Ent) : Obj := .cells #[.slice r.kA e.ks.length r.kc, .slice r.vA e.vs.length r.vc] 42 (0, 0)
theorem two2 {w : World} {b : Nat} {p q : Value} {t : TypeId} {fr : Nat × Nat} (h : w.heap[b]? = some (.cells #[p, q] t fr)) : w.cell? ⟨b, 0, none⟩ = some p ∧ w.cell? ⟨b, 1, none⟩ = some q := ⟨by rw [cell_of_row w b 0 _ _ _ h]; rfl, by rw [cell_of_row w b 1 _ _ _ h]; rfl⟩
end Rf
set_option maxRecDepth 100000 in
set_option maxHeartbeats 1600000 in
theorem ref17_good (w : World) (x : Cfg) (s : ByteArray) (hk : Ok x s) (r : Er) (e : Ent) (he : EOn (fun _ => True) w r e) :
    Calls Tryz.prog 11 #[mdV x s, eV r e] w fun e' w' => e' = .returned (.bool (goodE x e)) ∧ Below w.heap.size w w' := by
  have hd := dims hk.good.is
  have hb3 := hk.good.is.b3
  have hd16 := hk.good.is.d16
  have HB0 := Lib.hid ((Below.refl w.heap.size w).alloc (Nat.le_refl _) (mdO x s))
  have HB1 := Lib.hid (HB0.out.alloc HB0.out.size (enR r e))
  have HN0 := Lib.hid (heap_alloc_old _ (enR r e) (Array.getElem?_eq_some_iff.1 (heap_alloc_new w (mdO x s))).1 |>.trans (heap_alloc_new w (mdO x s)))
  have HN1 := Lib.hid (show ((w.alloc (mdO x s)).alloc (enR r e)).heap[w.heap.size + 1]? = some (enR r e) from by
    have := heap_alloc_new (w.alloc (mdO x s)) (enR r e)
    rwa [World.size_alloc] at this)
  have HK := Lib.hid (fun W (hW : Below w.heap.size w W) => show Calls Tryz.prog 29 #[.slice r.kA e.ks.length r.kc, .int .i64 x.b, .int .i64 x.d] W fun e' w' => e' = .returned (.bool (rowsB (bN x) (dN x) e.ks)) ∧ W = w' from by
    have := ref17_rows W r.kA e.ks.length r.kc r.kB r.kC e.ks (bN x) (dN x) rfl (by omega) (by omega) (he.k.is.below hW (Nat.le_refl _))
    rwa [hd.1, hd.2.2.1] at this)
  have HV := Lib.hid (fun W (hW : Below w.heap.size w W) => show Calls Tryz.prog 29 #[.slice r.vA e.vs.length r.vc, .int .i64 x.b, .int .i64 x.d] W fun e' w' => e' = .returned (.bool (rowsB (bN x) (dN x) e.vs)) ∧ W = w' from by
    have := ref17_rows W r.vA e.vs.length r.vc r.vB r.vC e.vs (bN x) (dN x) rfl (by omega) (by omega) (he.v.is.below hW (Nat.le_refl _))
    rwa [hd.1, hd.2.2.1] at this)
  have HG := Lib.hid (show goodE x e = (rowsB (bN x) (dN x) e.ks && rowsB (bN x) (dN x) e.vs) from rfl)
  rw [HG.out]
  generalize rowsB (bN x) (dN x) e.ks = k1 at HK ⊢
  generalize rowsB (bN x) (dN x) e.vs = k2 at HV ⊢
  clear HG
  obtain ⟨e0, e1, e2, e3, e4, e5, e6⟩ := Rf.seven HN0.out
  have x0 := two2 (show ((w.alloc (mdO x s)).alloc (enR r e)).heap[w.heap.size + 1]? = some (.cells #[.slice r.kA e.ks.length r.kc, .slice r.vA e.vs.length r.vc] _ _) from HN1.out)
  clear HB0
  unfold mdO brA at HB1 HN0 HN1 e0 e1 e2 e3 e4 e5 e6 x0
  unfold enR at HB1 HN0 HN1 e0 e1 e2 e3 e4 e5 e6
  unfold eV mdV brA
  generalize e.ks.length = n1 at *
  generalize e.vs.length = n2 at *
  generalize r.kA = A1 at *
  generalize r.kc = q1 at *
  generalize r.vA = A2 at *
  generalize r.vc = q2 at *
  obtain ⟨c0, c1⟩ := x0
  clear hk he hd hb3 hd16
  go_enter Tryz.func11, Tryz.ntmps11
  go_wp2_with (fail)
  refine (HK.out _ HB1.out).mono ?_
  rintro e' w1 ⟨rfl, rfl⟩
  cases k1 with
  | false =>
    go_wp2_with (fail)
    exact bodyPost_ret (results_tmp rfl _ _ _) rfl ⟨rfl, HB1.out⟩
  | true =>
    go_wp2_with (fail)
    refine (HV.out _ HB1.out).mono ?_
    rintro e' w3 ⟨rfl, rfl⟩
    go_wp2_with (fail)
    exact bodyPost_ret (results_tmp rfl _ _ _) rfl ⟨by cases k2 <;> rfl, HB1.out⟩
end Go.Proofs.YtkdkeokldcehhaaGreatDoor
namespace Go.Proofs.YtkdkeokldcehhaaGreatDoor
open Go.ChangeShapes Go.WideShapes Go.ChangeAt Go.RowKit Cf Vc Br Rf

set_option maxRecDepth 100000 in
set_option maxHeartbeats 6400000 in
theorem ref16_row (w : World) (x : Cfg) (s : ByteArray) (hk : Ok x s) (p k a : Nat) (hp : p ≤ 11) (hkk : (k : Int) < timesZ x (p : Int)) (ha : (a : Int) < rowsZ x (p : Int)) :
    Calls Tryz.prog 33 #[mdV x s, .int .i64 (p : Int), .int .i64 (k : Int), .int .i64 (a : Int)] w (RowSays w (fun v => .tuple #[v, .bool true]) (rowZ x s (p : Int) (k : Int) (a : Int))) := by
  obtain ⟨F, C, R, hF, hC, hR, hA, hC1, hC32, hR32, hfs, hs, haR, hlen, hat⟩ := row_at hk hp hkk ha
  have HB0 := Lib.hid ((Below.refl w.heap.size w).alloc (Nat.le_refl _) (mdO x s))
  have HN0 := Lib.hid (heap_alloc_new w (mdO x s))
  have HRG := Lib.hid (fun W => show Calls Tryz.prog 67 #[cfV x, .int .i64 (p : Int), .int .i64 (k : Int)] W fun e w' => e = .returned (.tuple #[.int .i64 (F : Int), .int .i64 ((R * C : Nat) : Int), .bool true]) ∧ Below W.heap.size W w' from by
    have := ref15_range W x (p : Int) (k : Int)
    rw [range_yes ⟨hk.good, by omega, by omega, by omega, hkk⟩, hF, hA] at this
    exact this)
  have HSD := Lib.hid (fun W => show Calls Tryz.prog 68 #[cfV x, .int .i64 (p : Int)] W fun e w' => e = .returned (.tuple #[.int .i64 (R : Int), .int .i64 (C : Int)]) ∧ Below W.heap.size W w' from by
    have := ref15_Side W x (p : Int)
    rw [good_iff.2 hk.good, if_pos rfl, if_pos rfl, hR, hC] at this
    exact this)
  obtain ⟨i0, hi, hz0, hz1, hz2⟩ := info_parts info_int
  have HI := Lib.hid hi
  have HZ0 := Lib.hid hz0
  have HZ1 := Lib.hid hz1
  have HZ2 := Lib.hid hz2
  have HC := Lib.hid (And.intro hC1 hC32)
  have hRC : C ≤ R * C := by
    have := Nat.mul_le_mul_right C (show 1 ≤ R by omega)
    rwa [Nat.one_mul] at this
  obtain ⟨N, hN⟩ : ∃ N, R * C = N := ⟨_, rfl⟩
  obtain ⟨P, hP⟩ : ∃ P, a * C = P := ⟨_, rfl⟩
  have hPI : (a : Int) * (C : Int) = (P : Int) := by rw [← hP, Int.natCast_mul]
  have hPN : P + C ≤ N := by
    have := Nat.mul_le_mul_right C (show a + 1 ≤ R by omega)
    rw [Nat.add_mul, Nat.one_mul] at this
    omega
  rw [hN] at HRG hfs hRC
  rw [hP] at hat
  have HFS := Lib.hid (show F + N ≤ s.size ∧ s.size ≤ 8192 ∧ P + C ≤ N ∧ C ≤ N from ⟨hfs, hs, hPN, hRC⟩)
  have HAT := Lib.hid hat
  have HPI := Lib.hid hPI
  have HLR := Lib.hid hlen
  have t1 : ¬ (a : Int) < 0 := by omega
  have t2 : decide ((a : Int) < 0) = false := decide_eq_false t1
  have t3 : ¬ (R : Int) ≤ (a : Int) := by omega
  have t4 : decide ((R : Int) ≤ (a : Int)) = false := decide_eq_false t3
  have t5 : decide (R ≤ a) = false := decide_eq_false (by omega)
  have t6 : a < R := haR
  generalize rowZ x s (p : Int) (k : Int) (a : Int) = L at HAT HLR ⊢
  unfold cfV cfA at HRG HSD
  unfold mdV brA
  clear hk hp hkk ha hF hC hR hA hC1 hC32 hR32 hfs hs haR hlen hat hi hz0 hz1 hz2 hRC hN hP hPI hPN
  have x0 := Rf.seven HN0.out
  unfold mdO brA at HB0 HN0 x0
  obtain ⟨e0, e1, e2, e3, e4, e5, e6⟩ := x0
  go_enter Tryz.func33, Tryz.ntmps33
  go_wp2_with (fail)
  refine (HRG.out _).mono ?_
  rintro e w1 ⟨rfl, b1⟩
  have HB1 := Lib.hid (HB0.out.trans (b1.mono HB0.out.size))
  have HN1 := Lib.hid (Rf.stays HN0.out b1)
  clear b1 e0 e1 e2 e3 e4 e5 e6 HB0 HN0
  obtain ⟨e0, e1, e2, e3, e4, e5, e6⟩ := Rf.seven HN1.out
  go_wp2_with (fail)
  refine (HSD.out _).mono ?_
  rintro e w2 ⟨rfl, b2⟩
  have HB2 := Lib.hid (HB1.out.trans (b2.mono HB1.out.size))
  have HN2 := Lib.hid (Rf.stays HN1.out b2)
  clear b2 e0 e1 e2 e3 e4 e5 e6 HB1 HN1
  go_wp2_with (refine wpList_buildNone rfl 45 3 rfl i0 Tryz.underlying45 HI.out ?_)
  have HO3 := Lib.hid (Own.new w2 w2.heap.size (Nat.le_refl _))
  have HB2S := Lib.hid ((Below.refl w2.heap.size w2).alloc (Nat.le_refl _) (.cells #[] 3))
  clear t1 t2 t3 t4 t5 t6
  go_loopw [15, 16] (fun l i wr => ∃ (j : Nat) (G : Option Addr) (q : Nat), i = .int .i64 (j : Int) ∧ j ≤ C ∧ l = .slice G j q ∧ Own wr w2.heap.size l (L.take j) ∧ Below w2.heap.size w2 wr) (fun _ i _ => match i with | .int _ k => C - k.toNat | _ => 0)
  case atStart => exact ⟨0, _, 0, rfl, Nat.zero_le _, rfl, HO3.out, HB2S.out⟩
  case round =>
    clear HO3 HB2S
    obtain ⟨j, G, cg, rfl, hj, rfl, ho, hb⟩ := hrel
    have HO := Lib.hid ho
    have HB := Lib.hid hb
    have HN := Lib.hid (Rf.stays HN2.out hb)
    clear ho hb
    have x2 : 0 ≤ (j : Int) := by omega
    by_cases hlt : j < C
    · have HLT := Lib.hid hlt
      have x0 : (j : Int) < (C : Int) := by omega
      have x1 : decide ((j : Int) < (C : Int)) = true := decide_eq_true x0
      have x3 : (j : Int) < (N : Int) := by have := HFS.out; omega
      have x4 : decide ((j : Int) < (N : Int)) = true := decide_eq_true x3
      have x5 : decide (j < C) = true := decide_eq_true hlt
      have x6 : decide (j < N) = true := decide_eq_true (by omega)
      obtain ⟨hq, hz⟩ := HAT.out j hlt
      have HMJ := Lib.hid (app_small (show j + 1 ≤ C from hlt) (by have := HC.out; omega))
      have HRN := Lib.hid (take_more L j (by rw [HLR.out]; exact hlt))
      have HOL := Lib.hid (show (L.take j).length = j by rw [List.length_take, HLR.out]; omega)
      rw [i8_of] at hz
      generalize hsb : s[F + P + j]'hq = bt at hz
      have HIX := Lib.hid (show ∀ W, (Instr.index 9 (.string s) (.int .i64 ((F + P + j : Nat) : Int))).run Tryz.prog W = .ok (.int .u8 (bt.toNat : Int)) W from fun W => by
        rw [run_index_string W 9 s .i64 _ Tryz.underlying9, dif_pos ⟨by omega, by omega⟩]
        congr 3
        simp only [Int.toNat_natCast]
        rw [hsb])
      obtain ⟨bz, hbz⟩ : ∃ bz : Nat, bt.toNat = bz := ⟨_, rfl⟩
      have HB256 := Lib.hid (show bz < 256 by rw [← hbz]; exact UInt8.toNat_lt bt)
      rw [hbz] at hz HIX
      have HZ := Lib.hid hz
      obtain ⟨q, hqe⟩ : ∃ q, F + P + j = q := ⟨_, rfl⟩
      rw [hqe] at HIX
      have HQE := Lib.hid (show F + P + j = q ∧ q < s.size from ⟨hqe, by omega⟩)
      have HBD := Lib.hid (show (-9223372036854775808 ≤ (P : Int) ∧ (P : Int) ≤ 9223372036854775807) ∧ (-9223372036854775808 ≤ (F : Int) + (P : Int) ∧ (F : Int) + (P : Int) ≤ 9223372036854775807) ∧ (-9223372036854775808 ≤ ((F + P : Nat) : Int) + (j : Int) ∧ ((F + P : Nat) : Int) + (j : Int) ≤ 9223372036854775807) ∧ (-9223372036854775808 ≤ (j : Int) + 1 ∧ (j : Int) + 1 ≤ 9223372036854775807) ∧ (F : Int) + (P : Int) = ((F + P : Nat) : Int) ∧ ((F + P : Nat) : Int) + (j : Int) = (q : Int) from by
        have h1 := HQE.out
        have h2 := HFS.out
        clear hz hsb hbz HZ HIX
        omega)
      clear hz hq hsb hbz hqe hlt hj
      obtain ⟨e0, e1, e2, e3, e4, e5, e6⟩ := Rf.seven HN.out
      have y0 := HIX.out
      obtain ⟨QP, hQP⟩ : ∃ QP, F + P = QP := ⟨_, rfl⟩
      obtain ⟨d1, d2, d3, d4, d5, d6⟩ := HBD.out
      rw [hQP] at d3 d5 d6
      have y1 : wrap64 ((a : Int) * (C : Int)) = (P : Int) := (congrArg wrap64 HPI.out).trans (IntWalk.wrap64_in _ d1)
      have y2 : wrap64 ((F : Int) + (P : Int)) = (QP : Int) := (IntWalk.wrap64_in _ d2).trans d5
      have y3 : wrap64 ((QP : Int) + (j : Int)) = (q : Int) := (IntWalk.wrap64_in _ d3).trans d6
      have y4 := Lib.hid (IntWalk.wrap64_in ((j : Int) + 1) d4)
      have y5 : 0 ≤ (q : Int) := Int.natCast_nonneg q
      have y6 : (q : Int) < (s.size : Int) := Int.ofNat_lt.2 HQE.out.2
      clear d1 d2 d3 d4 d5 d6 hQP
      have y7 : wrap64 (bz : Int) = (bz : Int) := IntWalk.wrap64_in _ (by have := HB256.out; clear y1 y2 y3; omega)
      by_cases hbb : 127 < (bz : Int)
      · have t1 : decide (127 < (bz : Int)) = true := decide_eq_true hbb
        have hzz := HZ.out
        rw [if_pos hbb] at hzz
        have t3 : wrap64 ((bz : Int) - 256) = L.getD j 0 := (IntWalk.wrap64_in _ (by have := HB256.out; clear y1 y2 y3 y7 hzz; omega)).trans hzz.symm
        have t2 : decide (127 < bz) = true := decide_eq_true (by clear y1 y2 y3 y7 t3 hzz; omega)
        clear hzz
        have HW := Lib.hid (Own.at HO.out HOL.out)
        clear HIX HAT HZ
        generalize L.getD j 0 = z at HRN t3 ⊢
        go_wp2_with (at_builtin; refine wpList_append_lies _ rfl (.tmp 72) (.tmp 74) 45 rfl w2.heap.size 3 i0 _ 1 8 Tryz.underlying45 HI.out HZ0.out HZ1.out HZ2.out rfl Nat.one_pos (.slice G j cg) j _ rfl (HW.out.alloc _) ⟨wr.heap.size, 0, none⟩ 1 1 [.int .i64 z] rfl rfl (one_src wr z) (one_one z) Nat.one_pos HMJ.out.1 HMJ.out.2 (base_le HB.out rfl _) _ rfl ?_; intro gg cap wz hownz hgrow hat hltz)
        have HON := Lib.hid (Own.grew HOL.out hownz)
        have HBN := Lib.hid (below_grew HB.out rfl HO.out _ hgrow)
        rw [← HRN.out] at HON
        clear hownz hgrow hat hltz
        try rw [y4.out]
        exact ⟨⟨j + 1, _, cap, rfl, HLT.out, rfl, HON.out, HBN.out⟩, vc_less j C HLT.out⟩
      · have t1 : decide (127 < (bz : Int)) = false := decide_eq_false hbb
        have hzz := HZ.out
        rw [if_neg hbb] at hzz
        have t2 : decide (127 < bz) = false := decide_eq_false (by clear y1 y2 y3 y7 hzz; omega)
        have HXZ := Lib.hid hzz
        clear hzz
        rw [HXZ.out] at HRN
        have HW := Lib.hid (Own.at HO.out HOL.out)
        clear HIX HAT HZ HXZ
        go_wp2_with (at_builtin; refine wpList_append_lies _ rfl (.tmp 72) (.tmp 74) 45 rfl w2.heap.size 3 i0 _ 1 8 Tryz.underlying45 HI.out HZ0.out HZ1.out HZ2.out rfl Nat.one_pos (.slice G j cg) j _ rfl (HW.out.alloc _) ⟨wr.heap.size, 0, none⟩ 1 1 [.int .i64 (bz : Int)] rfl rfl (one_src wr (bz : Int)) (one_one (bz : Int)) Nat.one_pos HMJ.out.1 HMJ.out.2 (base_le HB.out rfl _) _ rfl ?_; intro gg cap wz hownz hgrow hat hltz)
        have HON := Lib.hid (Own.grew HOL.out hownz)
        have HBN := Lib.hid (below_grew HB.out rfl HO.out _ hgrow)
        rw [← HRN.out] at HON
        clear hownz hgrow hat hltz
        try rw [y4.out]
        exact ⟨⟨j + 1, _, cap, rfl, HLT.out, rfl, HON.out, HBN.out⟩, vc_less j C HLT.out⟩
    · have hke : j = C := by omega
      have x0 : ¬ (j : Int) < (C : Int) := by omega
      have x1 : decide ((j : Int) < (C : Int)) = false := decide_eq_false x0
      have x5 : decide (j < C) = false := decide_eq_false hlt
      have HT := Lib.hid (show L.take j = L from List.take_of_length_le (by rw [HLR.out]; omega))
      have HE := Lib.hid hke
      rw [HT.out] at HO
      clear hlt hj hke
      go_wp2_with (fail)
      refine bodyPost_ret (results_tmp2 rfl _ _ _) rfl ?_
      exact ⟨G, cg, by rw [HLR.out, ← HE.out]; rfl, Own.kin HO.out, HB2.out.trans (HB.out.mono HB2.out.size)⟩
end Go.Proofs.YtkdkeokldcehhaaGreatDoor
namespace Go.Proofs.YtkdkeokldcehhaaGreatDoor
open Go.ChangeShapes Go.WideShapes Go.ChangeAt Go.RowKit Cf Vc Br Sp Rf
open Go.Proofs.YtkdkeokldcehhaaGreatDoor.Nm (sat shift dot sum Fits)

namespace Rf
theorem tim_at {x : Cfg} {s : ByteArray} (h : Ok x s) {p k : Nat} (hp : p ≤ 11) (hk : (k : Int) < timesZ x (p : Int)) (v : List Int) {i : Nat} (hi : (i : Int) < rowsZ x (p : Int)) : (tim x s p k v).getD i 0 = sat (shift (dot (rowZ x s (p : Int) (k : Int) (i : Int)) v) 6) := by
  have hz : isZ x (p : Int) (k : Int) = true := isZ_iff.2 ⟨h.good, by omega, by omega, by omega, hk⟩
  unfold tim
  rw [timesL_at _ _ _ _ _ _ (by omega)]
  unfold rowZ
  rw [if_pos ⟨hz, by omega, hi⟩, Int.toNat_natCast]
theorem row_len {x : Cfg} {s : ByteArray} (h : Ok x s) {p k a : Nat} (hp : p ≤ 11) (hk : (k : Int) < timesZ x (p : Int)) (ha : (a : Int) < rowsZ x (p : Int)) : (rowZ x s (p : Int) (k : Int) (a : Int)).length ≤ 32 := by
  obtain ⟨F, C, R, _, _, _, _, _, h2, _, _, _, _, h3, _⟩ := row_at h hp hk ha
  omega
end Rf
set_option maxRecDepth 100000 in
set_option maxHeartbeats 6400000 in
theorem ref17_times (w : World) (x : Cfg) (s : ByteArray) (hk : Ok x s) (p k : Nat) (hp : p ≤ 11) (hkk : (k : Int) < timesZ x (p : Int)) (V : Option Addr) (m cv : Nat) (v : List Int) (hv : v.length = m) (hm : m ≤ 1000000) (hV : KIn .i64 w V v) :
    Calls Tryz.prog 37 #[mdV x s, .int .i64 (p : Int), .int .i64 (k : Int), .slice V m cv, .int .i64 6] w (RowSaysN w (fun v => v) (tim x s p k v)) := by
  obtain ⟨R, hR⟩ : ∃ R : Nat, rowsZ x (p : Int) = (R : Int) := ⟨(rowsZ x (p : Int)).toNat, by have := rows_in hk.good.is (p := (p : Int)) (by omega) (by omega); omega⟩
  have hR32 : R ≤ 32 := by have := rows_in hk.good.is (p := (p : Int)) (by omega) (by omega); omega
  obtain ⟨C, hC⟩ : ∃ C : Int, colsZ x (p : Int) = C := ⟨_, rfl⟩
  have HSD := Lib.hid (fun W => show Calls Tryz.prog 68 #[cfV x, .int .i64 (p : Int)] W fun e w' => e = .returned (.tuple #[.int .i64 (R : Int), .int .i64 C]) ∧ Below W.heap.size W w' from by
    have := ref15_Side W x (p : Int)
    rw [good_iff.2 hk.good, if_pos rfl, if_pos rfl, hR, hC] at this
    exact this)
  have HRO := Lib.hid (fun W (i : Nat) (hi : i < R) => ref16_row W x s hk p k i hp hkk (by omega))
  have HRL := Lib.hid (fun (i : Nat) (hi : i < R) => row_len hk hp hkk (a := i) (by omega))
  have HAT := Lib.hid (fun (i : Nat) (hi : i < R) => tim_at hk hp hkk v (i := i) (by omega))
  have HLR := Lib.hid (show (tim x s p k v).length = R by rw [tim_length, hR, Int.toNat_natCast])
  have HB0 := Lib.hid ((Below.refl w.heap.size w).alloc (Nat.le_refl _) (mdO x s))
  have HN0 := Lib.hid (heap_alloc_new w (mdO x s))
  have HV := Lib.hid hV
  have HVL := Lib.hid hv
  have HM := Lib.hid hm
  have HRR := Lib.hid hR32
  obtain ⟨i0, hi, hz0, hz1, hz2⟩ := info_parts info_int
  have HI := Lib.hid hi
  have HZ0 := Lib.hid hz0
  have HZ1 := Lib.hid hz1
  have HZ2 := Lib.hid hz2
  generalize tim x s p k v = T at HAT HLR ⊢
  unfold RowSays at HRO
  unfold cfV cfA at HSD
  unfold mdV brA at HRO ⊢
  have x0 := Rf.seven HN0.out
  unfold mdO brA at HB0 HN0 x0
  obtain ⟨e0, e1, e2, e3, e4, e5, e6⟩ := x0
  clear hk hp hkk hv hm hV hR hR32 hC hi hz0 hz1 hz2
  go_enter Tryz.func37, Tryz.ntmps37
  go_wp2_with (fail)
  refine (HSD.out _).mono ?_
  rintro e w1 ⟨rfl, b1⟩
  have HB1 := Lib.hid (HB0.out.trans (b1.mono HB0.out.size))
  have HN1 := Lib.hid (Rf.stays HN0.out b1)
  clear b1 e0 e1 e2 e3 e4 e5 e6 HB0 HN0
  go_wp2_with (refine wpList_buildNone rfl 45 3 rfl i0 Tryz.underlying45 HI.out ?_)
  have HO1 := Lib.hid (Own.new w1 w1.heap.size (Nat.le_refl _))
  have HC1 := Lib.hid ((Below.refl w1.heap.size w1).alloc (Nat.le_refl _) (.cells #[] 3))
  go_loopw [13, 14] (fun l i wr => ∃ (j : Nat) (G : Option Addr) (q : Nat), i = .int .i64 (j : Int) ∧ j ≤ R ∧ l = .slice G j q ∧ Own wr w1.heap.size l (T.take j) ∧ Below w1.heap.size w1 wr) (fun _ i _ => match i with | .int _ k => R - k.toNat | _ => 0)
  case atStart => exact ⟨0, _, 0, rfl, Nat.zero_le _, rfl, HO1.out, HC1.out⟩
  case round =>
    clear HO1 HC1
    obtain ⟨j, G, cg, rfl, hj, rfl, ho, hb⟩ := hrel
    have HO := Lib.hid ho
    have HB := Lib.hid hb
    have HBW := Lib.hid (HB1.out.trans (hb.mono HB1.out.size))
    have HN := Lib.hid (Rf.stays HN1.out hb)
    clear ho hb
    have x2 : 0 ≤ (j : Int) := by omega
    by_cases hlt : j < R
    · have x0 : (j : Int) < (R : Int) := by omega
      have x1 : decide ((j : Int) < (R : Int)) = true := decide_eq_true x0
      have HLT := Lib.hid hlt
      have HMJ := Lib.hid (app_small (show j + 1 ≤ R from hlt) (by have := HRR.out; omega))
      have HRN := Lib.hid (take_more T j (by rw [HLR.out]; exact hlt))
      have HXJ := Lib.hid (HAT.out j hlt)
      have HOL := Lib.hid (show (T.take j).length = j by rw [List.length_take, HLR.out]; omega)
      have HRJ := Lib.hid (HRO.out wr j hlt)
      have HLJ := Lib.hid (HRL.out j hlt)
      have HWB := Lib.hid (show -9223372036854775808 ≤ (j : Int) + 1 ∧ (j : Int) + 1 ≤ 9223372036854775807 by have := HRR.out; omega)
      generalize rowZ x s (p : Int) (k : Int) (j : Int) = rw_ at HXJ HRJ HLJ
      obtain ⟨rl, hrl⟩ : ∃ rl, rw_.length = rl := ⟨_, rfl⟩
      rw [hrl] at HRJ HLJ
      have HRLE := Lib.hid hrl
      have HFT := Lib.hid (show Fits (dot rw_ v) from ⟨by have := dot_in rw_ v; omega, by have := dot_in rw_ v; omega⟩)
      obtain ⟨e0, e1, e2, e3, e4, e5, e6⟩ := Rf.seven HN.out
      clear hrl hlt hj
      go_wp2_with (fail)
      refine HRJ.out.mono ?_
      rintro e w2 ⟨RA, rc, rfl, hka, b2⟩
      have HC2 := Lib.hid (HB.out.trans (b2.mono HB.out.size))
      have HW2 := Lib.hid (HBW.out.trans (b2.mono HBW.out.size))
      have HO2 := Lib.hid (HO.out.below b2 (Nat.le_refl _))
      have HD := Lib.hid (rdot_any w2 RA rl rc V m cv rw_ v HRLE.out HVL.out (by have := HLJ.out; omega) HM.out hka (HV.out.below HW2.out (Nat.le_refl _)))
      clear b2 hka e0 e1 e2 e3 e4 e5 e6 HO HB HBW HN HRJ
      go_wp2_with (fail)
      refine HD.out.mono ?_
      rintro e w4 ⟨rfl, b4⟩
      have HB4 := Lib.hid (HC2.out.trans (b4.mono HC2.out.size))
      have HO4 := Lib.hid (HO2.out.below b4 (Nat.le_refl _))
      clear b4 HD HO2 HC2
      go_wp2_with (fail)
      refine (rshift_any _ 6 _ HFT.out).mono ?_
      rintro e w5 ⟨rfl, rfl⟩
      go_wp2_with (fail)
      refine (rsat_any _ _).mono ?_
      rintro e w6 ⟨rfl, rfl⟩
      rw [← HXJ.out]
      have HW4 := Lib.hid (Own.at HO4.out HOL.out)
      clear HXJ HFT
      generalize T.getD j 0 = z at HRN ⊢
      go_wp2_with (at_builtin; refine wpList_append_lies _ rfl (.tmp 38) (.tmp 45) 45 rfl w1.heap.size 3 i0 _ 1 8 Tryz.underlying45 HI.out HZ0.out HZ1.out HZ2.out rfl Nat.one_pos (.slice G j cg) j _ rfl (HW4.out.alloc _) ⟨w4.heap.size, 0, none⟩ 1 1 [.int .i64 z] rfl rfl (one_src w4 z) (one_one z) Nat.one_pos HMJ.out.1 HMJ.out.2 (base_le HB4.out rfl _) _ rfl ?_; intro gg cap wz hownz hgrow hat hltz)
      have HON := Lib.hid (Own.grew HOL.out hownz)
      have HBN := Lib.hid (below_grew HB4.out rfl HO4.out _ hgrow)
      rw [← HRN.out] at HON
      clear hownz hgrow hat hltz
      rw [IntWalk.wrap64_in ((j : Int) + 1) HWB.out]
      exact ⟨⟨j + 1, _, cap, rfl, HLT.out, rfl, HON.out, HBN.out⟩, vc_less j R HLT.out⟩
    · have hke : j = R := by omega
      have x0 : ¬ (j : Int) < (R : Int) := by omega
      have x1 : decide ((j : Int) < (R : Int)) = false := decide_eq_false x0
      have HT := Lib.hid (show T.take j = T from List.take_of_length_le (by rw [HLR.out]; omega))
      have HE := Lib.hid hke
      rw [HT.out] at HO
      clear hlt hj hke
      go_wp2_with (fail)
      refine bodyPost_ret (results_tmp rfl _ _ _) rfl ?_
      exact ⟨G, cg, by rw [HLR.out, ← HE.out]; rfl, Own.kin HO.out, by rw [HLR.out, ← HE.out]; exact own_capR HO.out, fun a ha => Nat.le_trans HB1.out.size (own_newR HO.out a ha), HBW.out⟩
set_option maxRecDepth 100000 in
set_option maxHeartbeats 1600000 in
theorem ref17_gains (w : World) (x : Cfg) (s : ByteArray) (hk : Ok x s) (p k : Nat) (hp : p ≤ 11) (hkk : (k : Int) < timesZ x (p : Int)) :
    Calls Tryz.prog 36 #[mdV x s, .int .i64 (p : Int), .int .i64 (k : Int)] w (RowSays w (fun v => v) (gains x s p k)) := by
  have HRO := Lib.hid (fun W => show Calls Tryz.prog 33 #[mdV x s, .int .i64 (p : Int), .int .i64 (k : Int), .int .i64 0] W (RowSays W (fun v => .tuple #[v, .bool true]) (gains x s p k)) from ref16_row W x s hk p k 0 hp hkk (by have := rows_in hk.good.is (p := (p : Int)) (by omega) (by omega); omega))
  have HB0 := Lib.hid ((Below.refl w.heap.size w).alloc (Nat.le_refl _) (mdO x s))
  have HN0 := Lib.hid (heap_alloc_new w (mdO x s))
  generalize gains x s p k = L at HRO ⊢
  unfold RowSays at HRO
  unfold mdV brA at HRO ⊢
  have x0 := Rf.seven HN0.out
  unfold mdO brA at HB0 HN0 x0
  obtain ⟨e0, e1, e2, e3, e4, e5, e6⟩ := x0
  clear hk hp hkk
  go_enter Tryz.func36, Tryz.ntmps36
  go_wp2_with (fail)
  refine (HRO.out _).mono ?_
  rintro e w1 ⟨A, c, rfl, hka, b1⟩
  have HB1 := Lib.hid (HB0.out.trans (b1.mono HB0.out.size))
  have HKA := Lib.hid hka
  clear b1 hka e0 e1 e2 e3 e4 e5 e6
  go_wp2_with (fail)
  exact bodyPost_ret (results_tmp rfl _ _ _) rfl ⟨A, c, rfl, HKA.out, HB1.out⟩
set_option maxRecDepth 100000 in
set_option maxHeartbeats 1600000 in
theorem ref17_plus (w : World) (A B : Option Addr) (n c d : Nat) (a b : List Int) (ha : a.length = n) (hb : b.length = n) (hn : n ≤ 4096) (hA : KIn .i64 w A a) (hB : KIn .i64 w B b) :
    Calls Tryz.prog 39 #[.slice A n c, .slice B n d] w (RowSaysN w (fun v => v) (plusL [a, b] n)) := by
  have HL := Lib.hid (lin2 (w := w) w.heap.size rfl ha hb (c := c) (d := d) hA hB)
  have HB0 := Lib.hid ((Below.refl w.heap.size w).alloc (Nat.le_refl _) (.cells #[.slice A n c, .slice B n d] 45))
  have HP := Lib.hid (ref11_plus (w.alloc (.cells #[.slice A n c, .slice B n d] 45)) (some ⟨w.heap.size, 0, none⟩) 2 (two A B) (two c d) [a, b] 2 n ha rfl (by omega) (by omega) hn HL.out (fun i hi => by
    match i, hi with
    | 0, _ => rfl
    | 1, _ => exact hb.trans ha.symm))
  generalize plusL [a, b] n = R at HP ⊢
  unfold RowSaysN at HP
  clear ha hb hn hA hB
  go_enter Tryz.func39, Tryz.ntmps39
  go_wp2_with (fail)
  refine HP.out.mono ?_
  rintro e w1 ⟨X, q, rfl, hka, hcp, hnw, b1⟩
  have HB1 := Lib.hid (HB0.out.trans (b1.mono HB0.out.size))
  have HKA := Lib.hid hka
  have HNW := Lib.hid (And.intro hcp fun a ha => Nat.le_trans HB0.out.size (hnw a ha))
  clear b1 hka hcp hnw
  go_wp2_with (fail)
  exact bodyPost_ret (results_tmp rfl _ _ _) rfl ⟨X, q, rfl, HKA.out, HNW.out.1, HNW.out.2, HB1.out⟩
end Go.Proofs.YtkdkeokldcehhaaGreatDoor
