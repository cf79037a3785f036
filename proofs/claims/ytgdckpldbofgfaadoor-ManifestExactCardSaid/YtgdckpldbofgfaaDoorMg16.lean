/-
  Package manifest: Bytes. Conditions: both tables of sha lie as the program's text lays them; the sums stand behind the slice.
  Package manifest: numbers (those that are read first). Condition: the eye stands in a block of its own.
-/
import Derived.Test.YtgdckpldbofgfaaDoorMg14
import Derived.Test.YtgdckpldbofgfaaDoorMg3
import Derived.Test.YtgdckpldbofgfaaDoorMg13
import Derived.Test.YtgdckpldbofgfaaDoorMg10
import Derived.Test.YtgdckpldbofgfaaDoorMg15
import Derived.Test.YtgdckpldbofgfaaDoorMg11
import Derived.Test.YtgdckpldbofgfaaDoorMg12
import Derived.Great.Walk
set_option maxRecDepth 100000
namespace Go.Proofs.YtgdckpldbofgfaaDoor
open Go.ChangeShapes Go.WideShapes Go.ChangeAt Go.RowKit Sh Pn Mf

theorem mf_calls {P : Program} {f : FuncId} {args : Array Value} {w : World} {Q : Ending → World → Prop} (R : World → Prop) (h0 : R w) (h : ∀ wr, R wr → Calls P f args wr Q) : Calls P f args w Q := h w h0
theorem fourInts (a b c d : Int) : Tryd.prog.builtSlice 3 4 [(0, .int .i64 a), (1, .int .i64 b), (2, .int .i64 c), (3, .int .i64 d)] = some #[.int .i64 a, .int .i64 b, .int .i64 c, .int .i64 d] := by kernel_rfl
theorem twoDigs (f g : Nat → UInt8) : Tryd.prog.builtSlice 24 2 [(0, .agg (digF f)), (1, .agg (digF g))] = some (digF f ++ digF g) := by kernel_rfl
namespace Mf
theorem bsize {l : List UInt8} {n : Nat} (h : l.length = n) : (⟨l.toArray⟩ : ByteArray).size = n := by rw [← h]; simp [ByteArray.size]
/-- The four numbers. -/
def nthM (m : Man) : Nat → Int
  | 0 => m.b
  | 1 => m.v
  | 2 => m.s
  | _ => m.c
theorem nth_head (m : Man) : numsL (nthM m) 4 = headL m := by
  rw [numsL_next, numsL_next, numsL_next, numsL_next]
  show (((([] : List UInt8) ++ numL m.b) ++ numL m.v) ++ numL m.s) ++ numL m.c = numL m.b ++ (numL m.v ++ (numL m.s ++ numL m.c))
  rw [List.nil_append, List.append_assoc, List.append_assoc]
def atS (L : List (Nat → UInt8)) (i : Nat) : Nat → UInt8 := L.getD i fun _ => 0
theorem digs_sums (L : List (Nat → UInt8)) : ∀ n, n ≤ L.length → digsL (atS L) n = sumsL (L.take n)
  | 0, _ => by rw [List.take_zero]; rfl
  | n + 1, h => by
    rw [digsL_next, digs_sums L n (by omega), List.take_succ_eq_append_getElem (by omega)]
    unfold sumsL
    rw [List.flatMap_append]
    simp [atS, List.getD_eq_getElem?_getD, List.getElem?_eq_getElem (show n < L.length by omega)]
theorem digs_all (L : List (Nat → UInt8)) : digsL (atS L) L.length = sumsL L := by rw [digs_sums L _ (Nat.le_refl _), List.take_length]
theorem pen_man (m : Man) : penL [⟨(digsL (atS [m.res, rootF m.sums]) 2).toArray⟩, ⟨(digsL (atS m.sums) m.sums.length).toArray⟩, ⟨(numsL (nthM m) 4).toArray⟩] = headL m ++ (sumsL m.sums ++ (digL m.res ++ digL (rootF m.sums))) := by
  rw [digs_all, nth_head, show digsL (atS [m.res, rootF m.sums]) 2 = sumsL [m.res, rootF m.sums] from digs_all [m.res, rootF m.sums]]
  simp [penL, sumsL]
theorem text_root {m : Man} (h : 0 < m.sums.length) : textM m = headL m ++ (sumsL m.sums ++ (digL m.res ++ digL (rootF m.sums))) := by unfold textM; rw [rootF_pos h]
theorem digs_two (f g : Nat → UInt8) : dcells [f, g] = (digF f ++ digF g).toList := by
  unfold dcells
  simp
theorem At.row {w : World} {b : Nat} {t : TypeId} {m : Man} {A : Option Addr} {k : Nat} (h : At w b t m A k) : w.rangeAt b 0 (manA m A k).toList := fun j u hj => by
  rw [cell_of_row w b (0 + j) _ _ _ h.h, Nat.zero_add, ← hj, Array.getElem?_toList]
theorem sin_two (t : TypeId) (w : World) (f g : Nat → UInt8) : SIn (w.alloc (.cells (digF f ++ digF g) t)) (some ⟨w.heap.size, 0, none⟩) 2 [f, g] :=
  ⟨Nat.le_refl _, fun _ => ⟨_, 0, rfl, fun j u hj => by rw [Nat.zero_add, cell_of_row _ _ _ _ _ _ (heap_alloc_new w _), ← hj, digs_two, Array.getElem?_toList]⟩⟩
theorem pen_sums {w : World} {A : Option Addr} {k p : Nat} {L : List (Nat → UInt8)} (h : SIn w A k L) (hp : ∀ pb po, A = some ⟨pb, po, none⟩ → pb ≠ p) : 0 < L.length → ∃ pb po, A = some ⟨pb, po, none⟩ ∧ pb ≠ p ∧ ∀ i, i < L.length → w.rangeAt pb (po + i * 32) (dgV (atS L i)).toList := fun h0 => by
  obtain ⟨pb, po, rfl, hd⟩ := h.2 h0
  refine ⟨pb, po, rfl, hp _ _ rfl, fun i hi => ?_⟩
  obtain ⟨pb', po', he, _, hr⟩ := h.at hi
  cases he
  exact hr
end Mf
theorem manIL (m : Man) (A : Option Addr) (k : Nat) : (Tryd.prog.info? 26).map (·.size) = some (manA m A k).toList.length := by rw [Array.length_toList]; exact manI m A k
theorem digIL (f : Nat → UInt8) : (Tryd.prog.info? 24).map (·.size) = some (digF f).toList.length := by rw [Array.length_toList]; exact hiDigF f
set_option maxRecDepth 100000 in
set_option maxHeartbeats 1600000 in
theorem mf_bytes_not (w : World) (m : Man) (A : Option Addr) (k : Nat) (h : countM m = 0) :
    Calls Tryd.prog 21 #[.agg (manA m A k)] w fun e w' => e = .returned (.tuple #[.string ⟨#[]⟩, .int .i64 1]) ∧ Below w.heap.size w w' := by
  have HN := Lib.hid (fun W => mf_good W m A k)
  rw [h] at HN
  have HB := Lib.hid ((Below.refl w.heap.size w).alloc (Nat.le_refl _) (.cells (manA m A k) 26))
  have HA := Lib.hid (at_new w 26 m A k)
  have HI := Lib.hid (manI m A k)
  have HF := Lib.hid (show decide (0 < 0) = false from rfl)
  rw [HF.out] at HN
  clear h HF
  go_enter Tryd.func21, Tryd.ntmps21
  go_wp2_with (with_reducible refine wpList_load_row rfl 26 _ rfl _ rfl 26 _ (0, 0) _ HA.out.cells Tryd.underlying26 rfl HI.out ?_)
  refine (HN.out _).mono ?_
  rintro e w1 ⟨rfl, b1⟩
  have HB1 := Lib.hid (HB.out.trans (b1.mono HB.out.size))
  clear b1
  go_wp2_with (fail)
  exact bodyPost_ret (results_tmp2 rfl _ _ _) rfl ⟨rfl, HB1.out⟩
set_option maxRecDepth 100000 in
set_option maxHeartbeats 3200000 in
theorem mf_bytes (w : World) (m : Man) (A : Option Addr) (k : Nat) (h : 0 < countM m) (hS : SIn w A k m.sums) (hT : Tabs w) :
    Calls Tryd.prog 21 #[.agg (manA m A k)] w fun e w' => e = .returned (.tuple #[.string ⟨(textM m).toArray⟩, .int .i64 0]) ∧ Below w.heap.size w w' := by
  have HN := Lib.hid (fun W => mf_good W m A k)
  rw [decide_eq_true h] at HN
  obtain ⟨hg, hl, _⟩ := countM_good h
  have hgi := headB_iff.1 hg
  have hn0 : 0 < m.sums.length := by have := (countM_good h).2.2; omega
  have hn1 : m.sums.length ≤ 64 := by omega
  have HTX := Lib.hid (show penL [⟨(digsL (atS [m.res, rootF m.sums]) 2).toArray⟩, ⟨(digsL (atS m.sums) m.sums.length).toArray⟩, ⟨(numsL (nthM m) 4).toArray⟩] = textM m from (pen_man m).trans (text_root hn0).symm)
  have HNT := Lib.hid (show ∀ j, j < 4 → (#[.int .i64 m.b, .int .i64 m.v, .int .i64 m.s, .int .i64 m.c] : Array Value)[j]? = some (.int .i64 (nthM m j)) from fun j hj => by
    rcases (show j = 0 ∨ j = 1 ∨ j = 2 ∨ j = 3 by omega) with rfl | rfl | rfl | rfl <;> rfl)
  have HB := Lib.hid ((Below.refl w.heap.size w).alloc (Nat.le_refl _) (.cells (manA m A k) 26))
  have HA := Lib.hid (at_new w 26 m A k)
  have HI := Lib.hid (manI m A k)
  have HSI := Lib.hid hS
  have HT := Lib.hid hT
  have HN1 := Lib.hid hn1
  have HSZ := Lib.hid (show (⟨(numsL (nthM m) 4).toArray⟩ : ByteArray).size = 16 ∧ (⟨(digsL (atS m.sums) m.sums.length).toArray⟩ : ByteArray).size = 32 * m.sums.length ∧ (⟨(digsL (atS [m.res, rootF m.sums]) 2).toArray⟩ : ByteArray).size = 64 from ⟨bsize (numsL_length _ _), bsize (digsL_length _ _), bsize (digsL_length _ _)⟩)
  have HRT := Lib.hid (fun (W : World) (hW : Below w.heap.size w W) => mf_root W m A k (hS.keep hW) (by omega) (hT.below hW))
  clear h hg hl hgi hS hT hn0 hn1
  go_enter Tryd.func21, Tryd.ntmps21
  go_wp2_with (with_reducible refine wpList_load_row rfl 26 _ rfl _ rfl 26 _ (0, 0) _ HA.out.cells Tryd.underlying26 rfl HI.out ?_)
  refine (HN.out _).mono ?_
  rintro e w1 ⟨rfl, b1⟩
  have HA1 := Lib.hid (HA.out.keep b1)
  have HB1 := Lib.hid (HB.out.trans (b1.mono HB.out.size))
  clear b1 HN
  have HPZ := Lib.hid (show w.heap.size < w1.heap.size from HA1.out.lt)
  have HA2 := Lib.hid (HA1.out.keep ((Below.refl _ _).alloc (Nat.le_refl _) (.cells #[.pointer none, .bool false] 71)))
  have HB2 := Lib.hid (HB1.out.alloc HB1.out.size (.cells #[.pointer none, .bool false] 71))
  have e0 := HA2.out.base
  have e1 := HA2.out.ver
  have e2 := HA2.out.size
  have e3 := HA2.out.chunk
  go_wp2_with (refine Great.wpList_buildSliceTo rfl 102 3 4 #[(0, .tmp 9), (1, .tmp 11), (2, .tmp 13), (3, .tmp 15)] rfl _ rfl (some 16) rfl Tryd.underlying102 #[.int .i64 m.b, .int .i64 m.v, .int .i64 m.s, .int .i64 m.c] (fourInts m.b m.v m.s m.c) ?_)
  refine mf_calls (fun W => PenHd W w1.heap.size none false ∧ W.heap[w1.heap.size + 1]? = some (.cells #[.int .i64 m.b, .int .i64 m.v, .int .i64 m.s, .int .i64 m.c] 3 (0, 0)) ∧ At W w.heap.size 26 m A k ∧ Below w.heap.size w W) ?_ ?_
  · refine ⟨?_, ?_, HA2.out.keep ((Below.refl _ _).alloc (Nat.le_refl _) _), HB2.out.alloc HB2.out.size _⟩
    · exact (heap_alloc_old _ _ (by simp)).trans (heap_alloc_new w1 _)
    · have := heap_alloc_new (w1.alloc (.cells #[.pointer none, .bool false] 71)) (.cells #[.int .i64 m.b, .int .i64 m.v, .int .i64 m.s, .int .i64 m.c] 3)
      simpa using this
  rintro w2 ⟨p1, c1, a1, b1⟩
  clear HB2 HA2 HA1 HB1 e0 e1 e2 e3
  generalize w1.heap.size = p at *
  have hpz := HPZ.out
  refine (pen_num w2 p [] false ⟨none, p1, rfl⟩ (some ⟨p + 1, 0, none⟩) 4 4 (nthM m) (by omega) (fun _ => ⟨_, 0, rfl, by omega, fun j hj => ?_⟩) (by simp only [total]; omega)).mono ?_
  · rw [cell_of_row _ _ _ _ _ _ c1, Nat.zero_add]
    exact HNT.out j hj
  rintro e w3 ⟨rfl, h3, o3⟩
  have H3 := Lib.hid h3
  have hb3 := b1.trans (o3.below (by omega) b1.size)
  have HB3 := Lib.hid hb3
  have HA3 := Lib.hid (a1.of_block (o3.block _ a1.lt (by omega)))
  have e4 := HA3.out.sums
  have hs3 := HSI.out.keep hb3
  have hd3 : 0 < m.sums.length → ∃ pb po, A = some ⟨pb, po, none⟩ ∧ pb ≠ p ∧ ∀ i, i < m.sums.length → w3.rangeAt pb (po + i * 32) (dgV (atS m.sums i)).toList := fun h0 => by
    obtain ⟨pb, po, rfl, hd⟩ := HSI.out.2 h0
    have hlt := digs_lt hd h0
    refine ⟨pb, po, rfl, by omega, fun i hi => ?_⟩
    obtain ⟨pb', po', he, _, hr⟩ := hs3.at hi
    cases he
    exact hr
  have HD3 := Lib.hid hd3
  have hn64 := HN1.out
  clear h3 o3 p1 c1 a1 b1 hb3 hs3 hd3
  go_wp2_with (fail)
  refine (pen_digest w3 p _ _ H3.out A m.sums.length k (atS m.sums) (by omega) HD3.out (by have := HSZ.out.1; simp only [total]; omega)).mono ?_
  rintro e w4 ⟨rfl, h4, o4⟩
  have H4 := Lib.hid h4
  have hb4 := HB3.out.trans (o4.below (by omega) HB3.out.size)
  have HB4 := Lib.hid hb4
  have HA4 := Lib.hid (HA3.out.of_block (o4.block _ HA3.out.lt (by omega)))
  clear h4 o4 hb4 HD3
  have HRS := Lib.hid (show ∀ W, Below w4.heap.size w4 W → W.rangeAt w.heap.size 5 (digF m.res).toList ∧ W.rangeAt w.heap.size 0 (manA m A k).toList from fun W hW => ⟨(HA4.out.keep hW).res, (HA4.out.keep hW).row⟩)
  have HI1 := Lib.hid (digIL m.res)
  have HI2 := Lib.hid (manIL m A k)
  generalize rootF m.sums = R at *
  have b00 : Below w4.heap.size w4 w4.drew := below_drewN (Below.refl _ _) 1
  have k0 := HRS.out _ b00
  have HBD := Lib.hid (HB4.out.trans (b00.mono HB4.out.size))
  have hp4 : p < w4.heap.size := H4.out.lt
  go_wp2_with (fail)
  -- HAND
  refine wp_region_noPanic ?_
  refine wp_region_held_drew (S := (fun W : World => W.rangeAt w.heap.size 5 (digF m.res).toList ∧ W.rangeAt w.heap.size 0 (manA m A k).toList)) (by kernel_rfl) k0 (fun hHeld => ?_)
  refine wpAnyH_takeAt (i := 0) (v := .pointer (some ⟨w.heap.size, 5, none⟩)) 21 rfl rfl (by kernel_rfl) (by kernel_rfl) (by kernel_rfl) (fun _ _ _ h => h) (Or.inl ⟨by rfl, ?_⟩) hHeld ?_
  · intro W hW
    try dsimp only at hW
    go_simp
  simp only [Act.put, List.setIfInBounds_toArray, List.set_cons_succ, List.set_cons_zero]
  refine wpAnyH_takeAt (i := 1) (v := .agg (digF m.res).toList.toArray) 22 rfl rfl (by kernel_rfl) (by kernel_rfl) (by kernel_rfl) (fun _ _ _ h => h) (yieldsIf_load_mid (by rfl) 24 _ rfl w.heap.size (5) rfl (digF m.res).toList _ (fun W hW => hW.1) Tryd.underlying24 rfl HI1.out) hHeld ?_
  simp only [Act.put, List.setIfInBounds_toArray, List.set_cons_succ, List.set_cons_zero]
  refine wpAnyH_takeAt (i := 2) (v := .agg (manA m A k).toList.toArray) 23 rfl rfl (by kernel_rfl) (by kernel_rfl) (by kernel_rfl) (fun _ _ _ h => h) (yieldsIf_load_mid (by rfl) 26 _ rfl w.heap.size (0) rfl (manA m A k).toList _ (fun W hW => hW.2) Tryd.underlying26 rfl HI2.out) hHeld ?_
  simp only [Act.put, List.setIfInBounds_toArray, List.set_cons_succ, List.set_cons_zero]
  refine wpAnyH_ready (rs := [3]) (by kernel_rfl) (by simp) ?_
  refine AllReadyH.cons rfl (fun K hK => ?_) AllReadyH.nil
  go_simp
  refine (HRT.out _ HBD.out).mono ?_
  rintro e w5 ⟨rfl, b5⟩
  have hk5 := b00.trans (b5.mono b00.size)
  refine hK.out _ _ (HRS.out _ hk5) (fun hHeld2 => ?_)
  clear hK K hHeld
  have hHeld := hHeld2
  clear hHeld2
  try simp only [Act.put, List.setIfInBounds_toArray, List.set_cons_succ, List.set_cons_zero]
  refine wpAnyH_ready (rs := [4]) (by kernel_rfl) (by simp) ?_
  refine AllReadyH.cons rfl (fun K hK => ?_) AllReadyH.nil
  have hk6 := hk5.alloc hk5.size (.cells (digF m.res ++ digF R) 24)
  have s6 := sin_two 24 w5 m.res R
  have hp5 : p < w5.heap.size := Nat.lt_of_lt_of_le hp4 hk5.size
  refine step_buildTo (by rfl) 22 24 2 #[(0, .tmp 22), (1, .tmp 24)] (by rfl) Tryd.underlying22 (digF m.res ++ digF R) (by rw [Array.toList_map]; exact twoDigs m.res R) ?_
  refine hK.out _ _ (HRS.out _ hk6) (fun hHeld2 => ?_)
  clear hK K hHeld
  have hHeld := hHeld2
  clear hHeld2
  try simp only [Act.put, List.setIfInBounds_toArray]
  refine wpAnyH_ready (rs := [5]) (by kernel_rfl) (by simp) ?_
  refine AllReadyH.cons rfl (fun K hK => ?_) AllReadyH.nil
  go_simp
  refine (pen_digest _ p _ _ (H4.out.below hk6) _ 2 2 (atS [m.res, R]) (by omega) (pen_sums s6 (fun pb po e => by cases e; omega)) (by have := HSZ.out.1; have := HSZ.out.2.1; simp only [total]; omega)).mono ?_
  rintro e w7 ⟨rfl, h7, o7⟩
  have a6 := HA4.out.keep hk6
  have ha7 := a6.of_block (o7.block _ a6.lt (by omega))
  have hb7 := (HB4.out.trans (hk6.mono HB4.out.size)).trans (o7.below (by omega) (HB4.out.trans (hk6.mono HB4.out.size)).size)
  refine hK.out _ _ ⟨ha7.res, ha7.row⟩ (fun hHeld2 => ?_)
  clear hK K hHeld
  have hHeld := hHeld2
  clear hHeld2
  refine wpAnyH_done (by kernel_rfl) ?_ _
  refine NoPanic.normal ?_
  -- DNAH
  have HT7 := HTX.out
  have H7' := Lib.hid h7
  have HB7 := Lib.hid hb7
  have hl7 : total [⟨(digsL (atS [m.res, R]) 2).toArray⟩, ⟨(digsL (atS m.sums) m.sums.length).toArray⟩, ⟨(numsL (nthM m) 4).toArray⟩] < 1099511627776 := by
    obtain ⟨z1, z2, z3⟩ := HSZ.out
    simp only [total]
    omega
  have HL7 := Lib.hid hl7
  clear hHeld k0 b00 hk5 hk6 h7 o7 hb7 hl7 b5
  go_wp2_with (fail)
  refine (pen_bytes w7 p _ _ H7'.out HL7.out).mono ?_
  rintro e w8 ⟨rfl, b8⟩
  have HB8 := Lib.hid (HB7.out.trans (b8.mono HB7.out.size))
  clear b8
  rw [HTX.out]
  go_wp2_with (fail)
  exact bodyPost_ret (results_tmp2 rfl _ _ _) rfl ⟨rfl, HB8.out⟩
end Go.Proofs.YtgdckpldbofgfaaDoor
namespace Go.Proofs.YtgdckpldbofgfaaDoor
open Go.ChangeShapes Go.WideShapes Go.ChangeAt Go.RowKit Sh Pn Mf Cf

namespace Mf
def zeroM : Man := ⟨0, 0, 0, 0, [], fun _ => 0⟩
section
variable {w : World} {b : Nat} {t : TypeId} {m : Man} {A : Option Addr} {k : Nat}
theorem manA_set0 (m : Man) (A : Option Addr) (k : Nat) (x : Int) : (manA m A k).setIfInBounds 0 (.int .i64 x) = manA { m with b := x } A k := by kernel_rfl
theorem manA_set1 (m : Man) (A : Option Addr) (k : Nat) (x : Int) : (manA m A k).setIfInBounds 1 (.int .i64 x) = manA { m with v := x } A k := by kernel_rfl
theorem manA_set2 (m : Man) (A : Option Addr) (k : Nat) (x : Int) : (manA m A k).setIfInBounds 2 (.int .i64 x) = manA { m with s := x } A k := by kernel_rfl
theorem manA_set3 (m : Man) (A : Option Addr) (k : Nat) (x : Int) : (manA m A k).setIfInBounds 3 (.int .i64 x) = manA { m with c := x } A k := by kernel_rfl
theorem manA_set4 (m : Man) (A : Option Addr) (k : Nat) (L : List (Nat → UInt8)) (B : Option Addr) (q : Nat) : (manA m A k).setIfInBounds 4 (.slice B L.length q) = manA { m with sums := L } B q := by kernel_rfl
theorem At.setBase (h : At w b t m A k) (x : Int) : At (w.setCell ⟨b, 0, none⟩ (.int .i64 x)) b t { m with b := x } A k := ⟨(heap_setCell_same w b 0 _ _ _ h.h).trans (by rw [manA_set0])⟩
theorem At.setVer (h : At w b t m A k) (x : Int) : At (w.setCell ⟨b, 1, none⟩ (.int .i64 x)) b t { m with v := x } A k := ⟨(heap_setCell_same w b 1 _ _ _ h.h).trans (by rw [manA_set1])⟩
theorem At.setSize (h : At w b t m A k) (x : Int) : At (w.setCell ⟨b, 2, none⟩ (.int .i64 x)) b t { m with s := x } A k := ⟨(heap_setCell_same w b 2 _ _ _ h.h).trans (by rw [manA_set2])⟩
theorem At.setChunk (h : At w b t m A k) (x : Int) : At (w.setCell ⟨b, 3, none⟩ (.int .i64 x)) b t { m with c := x } A k := ⟨(heap_setCell_same w b 3 _ _ _ h.h).trans (by rw [manA_set3])⟩
theorem At.setSums (h : At w b t m A k) (L : List (Nat → UInt8)) (B : Option Addr) (n q : Nat) (hn : n = L.length) : At (w.setCell ⟨b, 4, none⟩ (.slice B n q)) b t { m with sums := L } B q := by
  subst hn
  exact ⟨(heap_setCell_same w b 4 _ _ _ h.h).trans (by rw [manA_set4])⟩
/-- A row with another one laid in from o on. -/
def laidIn : Array Value → Nat → List Value → Array Value
  | cs, _, [] => cs
  | cs, o, v :: r => laidIn (cs.setIfInBounds o v) (o + 1) r
theorem laid_res (m : Man) (A : Option Addr) (k : Nat) (f : Nat → UInt8) : laidIn (manA m A k) 5 (digF f).toList = manA { m with res := f } A k := by kernel_rfl
end
theorem heap_setCells (b : Nat) (t : TypeId) : ∀ (vs : List Value) (o : Nat) (w : World) (cs : Array Value), w.heap[b]? = some (.cells cs t (0, 0)) → (w.setCells b o vs).heap[b]? = some (.cells (laidIn cs o vs) t (0, 0))
  | [], _, _, _, h => h
  | v :: r, o, w, cs, h => by
    rw [World.setCells]
    exact heap_setCells b t r (o + 1) _ _ (heap_setCell_same w b o _ _ _ h)
theorem setCells_size (b : Nat) : ∀ (vs : List Value) (o : Nat) (w : World), (w.setCells b o vs).heap.size = w.heap.size
  | [], _, _ => rfl
  | v :: r, o, w => by rw [World.setCells, setCells_size b r]; simp [World.setCell]
theorem setCells_below {B b : Nat} (hb : B ≤ b) {w0 : World} : ∀ (vs : List Value) (o : Nat) (w : World), Below B w0 w → Below B w0 (w.setCells b o vs)
  | [], _, _, h => h
  | v :: r, o, w, h => by rw [World.setCells]; exact setCells_below hb r (o + 1) _ (h.setCell (p := ⟨b, o, none⟩) hb v)
theorem setCells_only {b g : Nat} {w0 : World} (hg : g = b ∨ w0.heap.size ≤ g) : ∀ (vs : List Value) (o : Nat) (w : World), Only w0 w b → Only w0 (w.setCells g o vs) b
  | [], _, _, h => h
  | v :: r, o, w, h => by rw [World.setCells]; exact setCells_only hg r (o + 1) _ (h.setCell (a := ⟨g, o, none⟩) hg v)
theorem setCells_other {b i : Nat} (hi : i ≠ b) : ∀ (vs : List Value) (o : Nat) (w : World), (w.setCells b o vs).heap[i]? = w.heap[i]?
  | [], _, _ => rfl
  | v :: r, o, w => by
    rw [World.setCells, setCells_other hi r (o + 1)]
    exact heap_setCell_other w _ i _ hi
theorem At.setRes {w : World} {b : Nat} {t : TypeId} {m : Man} {A : Option Addr} {k : Nat} (h : At w b t m A k) (f : Nat → UInt8) : At (w.setCells b 5 (digF f).toList) b t { m with res := f } A k :=
  ⟨(heap_setCells b t _ 5 w _ h.h).trans (by rw [laid_res])⟩
theorem At.there {w : World} {b : Nat} {t : TypeId} {m : Man} {A : Option Addr} {k : Nat} (h : At w b t m A k) (n : Nat) (hn : n = 32) : w.there b 5 n := fun j hj => by
  refine ⟨?_, h.fz _⟩
  rw [cell_of_row w b (5 + j) _ _ _ h.h, manA_high]
  unfold digF
  rw [vals_get 32 _ j (by omega)]
  rfl
/-- What is read at most. -/
def limM : Nat → Int
  | 0 => 2147483647
  | 1 => 2147483647
  | 2 => 4096
  | _ => 256
/-- An eye behind i numbers; both blocks of numbers. -/
structure Nums (t : TypeId) (w : World) (b : Nat) (s : ByteArray) (i : Nat) (m : Man) (W : World) : Prop where
  eye : EyeAt W b (rsT limM s i) (bsT limM s i)
  out : At W w.heap.size t zeroM none 0
  own : At W (w.heap.size + 1) t m none 0
  only : Only w W b
theorem Nums.setBase {t : TypeId} {w W : World} {b : Nat} {s : ByteArray} {i : Nat} {m : Man} (h : Nums t w b s i m W) (hb : b < w.heap.size) (x : Int) : Nums t w b s i { m with b := x } (W.setCell ⟨w.heap.size + 1, 0, none⟩ (.int .i64 x)) :=
  ⟨h.eye.of_block (heap_setCell_other W _ _ _ (by show b ≠ w.heap.size + 1; omega)), h.out.of_block (heap_setCell_other W _ _ _ (by show w.heap.size ≠ w.heap.size + 1; omega)), h.own.setBase x, h.only.setCell (.inr (by show w.heap.size ≤ w.heap.size + 1; omega)) _⟩
theorem Nums.setVer {t : TypeId} {w W : World} {b : Nat} {s : ByteArray} {i : Nat} {m : Man} (h : Nums t w b s i m W) (hb : b < w.heap.size) (x : Int) : Nums t w b s i { m with v := x } (W.setCell ⟨w.heap.size + 1, 1, none⟩ (.int .i64 x)) :=
  ⟨h.eye.of_block (heap_setCell_other W _ _ _ (by show b ≠ w.heap.size + 1; omega)), h.out.of_block (heap_setCell_other W _ _ _ (by show w.heap.size ≠ w.heap.size + 1; omega)), h.own.setVer x, h.only.setCell (.inr (by show w.heap.size ≤ w.heap.size + 1; omega)) _⟩
theorem Nums.setSize {t : TypeId} {w W : World} {b : Nat} {s : ByteArray} {i : Nat} {m : Man} (h : Nums t w b s i m W) (hb : b < w.heap.size) (x : Int) : Nums t w b s i { m with s := x } (W.setCell ⟨w.heap.size + 1, 2, none⟩ (.int .i64 x)) :=
  ⟨h.eye.of_block (heap_setCell_other W _ _ _ (by show b ≠ w.heap.size + 1; omega)), h.out.of_block (heap_setCell_other W _ _ _ (by show w.heap.size ≠ w.heap.size + 1; omega)), h.own.setSize x, h.only.setCell (.inr (by show w.heap.size ≤ w.heap.size + 1; omega)) _⟩
theorem Nums.setChunk {t : TypeId} {w W : World} {b : Nat} {s : ByteArray} {i : Nat} {m : Man} (h : Nums t w b s i m W) (hb : b < w.heap.size) (x : Int) : Nums t w b s i { m with c := x } (W.setCell ⟨w.heap.size + 1, 3, none⟩ (.int .i64 x)) :=
  ⟨h.eye.of_block (heap_setCell_other W _ _ _ (by show b ≠ w.heap.size + 1; omega)), h.out.of_block (heap_setCell_other W _ _ _ (by show w.heap.size ≠ w.heap.size + 1; omega)), h.own.setChunk x, h.only.setCell (.inr (by show w.heap.size ≤ w.heap.size + 1; omega)) _⟩
end Mf
theorem nums_step {t : TypeId} {w W : World} {b : Nat} {s : ByteArray} {i : Nat} {m : Man} (hb : b < w.heap.size) (h : Nums t w b s i m W) : Calls Tryd.prog 56 #[.pointer (some ⟨b, 0, none⟩), .int .i64 (limM i)] W fun e w' => e = .returned (.int .i64 (vsT limM s i : Int)) ∧ Nums t w b s (i + 1) m w' := by
  refine (eye_num W b _ _ h.eye (limM i)).mono ?_
  rintro e w' ⟨rfl, e1, o1⟩
  exact ⟨rfl, e1, h.out.of_block (o1.block _ h.out.lt (by omega)), h.own.of_block (o1.block _ h.own.lt (by omega)), h.only.trans o1⟩
set_option maxRecDepth 100000 in
set_option maxHeartbeats 3200000 in
theorem mf_numbers (w : World) (b : Nat) (s : ByteArray) (h : EyeAt w b s false) :
    Calls Tryd.prog 42 #[.pointer (some ⟨b, 0, none⟩)] w (EyeSays w b (.agg (manA ⟨vsT limM s 0, vsT limM s 1, vsT limM s 2, vsT limM s 3, [], fun _ => 0⟩ none 0)) (rsT limM s 4) (bsT limM s 4)) := by
  have hb := h.lt
  have HB := Lib.hid hb
  have H0 := Lib.hid (fun m W (h : Nums 26 w b s 0 m W) => show Calls Tryd.prog 56 #[.pointer (some ⟨b, 0, none⟩), .int .i64 2147483647] W fun e w' => e = .returned (.int .i64 (vsT limM s 0 : Int)) ∧ Nums 26 w b s 1 m w' from nums_step (i := 0) hb h)
  have H1 := Lib.hid (fun m W (h : Nums 26 w b s 1 m W) => show Calls Tryd.prog 56 #[.pointer (some ⟨b, 0, none⟩), .int .i64 2147483647] W fun e w' => e = .returned (.int .i64 (vsT limM s 1 : Int)) ∧ Nums 26 w b s 2 m w' from nums_step (i := 1) hb h)
  have H2 := Lib.hid (fun m W (h : Nums 26 w b s 2 m W) => show Calls Tryd.prog 56 #[.pointer (some ⟨b, 0, none⟩), .int .i64 4096] W fun e w' => e = .returned (.int .i64 (vsT limM s 2 : Int)) ∧ Nums 26 w b s 3 m w' from nums_step (i := 2) hb h)
  have H3 := Lib.hid (fun m W (h : Nums 26 w b s 3 m W) => show Calls Tryd.prog 56 #[.pointer (some ⟨b, 0, none⟩), .int .i64 256] W fun e w' => e = .returned (.int .i64 (vsT limM s 3 : Int)) ∧ Nums 26 w b s 4 m w' from nums_step (i := 3) hb h)
  have HE := Lib.hid h
  clear h hb
  generalize (vsT limM s 0 : Int) = v0 at *
  generalize (vsT limM s 1 : Int) = v1 at *
  generalize (vsT limM s 2 : Int) = v2 at *
  generalize (vsT limM s 3 : Int) = v3 at *
  go_enter Tryd.func42, Tryd.ntmps42
  go_wp2_with (fail)
  refine mf_calls (fun W => Nums 26 w b s 0 zeroM W) ?_ ?_
  · have z1 := heap_alloc_new w (.cells (manA zeroM none 0) 26)
    refine ⟨(HE.out.of_block (heap_alloc_old w _ HB.out)).of_block (heap_alloc_old _ _ (by simp; have := HB.out; omega)), ⟨?_⟩, ⟨?_⟩, ((Only.refl w b).alloc _).alloc _⟩
    · exact (heap_alloc_old _ _ (by simp)).trans ((heap_alloc_new w _).trans (by kernel_rfl))
    · have := heap_alloc_new (w.alloc (.cells (manA zeroM none 0) 26)) (.cells (manA zeroM none 0) 26)
      simp only [World.size_alloc] at this
      exact this
  rintro w0 n0
  have N0 := Lib.hid n0
  clear n0
  refine (H0.out _ _ N0.out).mono ?_
  rintro e w1 ⟨rfl, n1⟩
  have c1 := n1.own.base
  have f1 := n1.own.fz 0
  have N1 := Lib.hid (n1.setBase HB.out v0)
  clear n1
  go_wp2_with (fail)
  clear c1 f1
  refine (H1.out _ _ N1.out).mono ?_
  rintro e w2 ⟨rfl, n2⟩
  have c2 := n2.own.ver
  have f2 := n2.own.fz 1
  have N2 := Lib.hid (n2.setVer HB.out v1)
  clear n2
  go_wp2_with (fail)
  clear c2 f2
  refine (H2.out _ _ N2.out).mono ?_
  rintro e w3 ⟨rfl, n3⟩
  have c3 := n3.own.size
  have f3 := n3.own.fz 2
  have N3 := Lib.hid (n3.setSize HB.out v2)
  clear n3
  go_wp2_with (fail)
  clear c3 f3
  refine (H3.out _ _ N3.out).mono ?_
  rintro e w4 ⟨rfl, n4⟩
  have c4 := n4.own.chunk
  have f4 := n4.own.fz 3
  have N4 := Lib.hid (n4.setChunk HB.out v3)
  clear n4
  have HR1 := Lib.hid N4.out.own.cells
  have HR2 := Lib.hid N4.out.out.cells
  have HI1 := Lib.hid (manI ⟨v0, v1, v2, v3, [], fun _ => 0⟩ none 0)
  have HO1 := Lib.hid (manA_one ⟨v0, v1, v2, v3, [], fun _ => 0⟩ none 0)
  have HZ1 := Lib.hid (show (manA zeroM none 0).size = (manA ⟨v0, v1, v2, v3, [], fun _ => 0⟩ none 0).size by rw [manA_size, manA_size])
  go_wp2_with (first
    | (with_reducible refine wpList_load_row rfl 26 _ rfl _ rfl 26 (manA ⟨v0, v1, v2, v3, [], fun _ => 0⟩ none 0) (0, 0) _ HR1.out Tryd.underlying26 rfl HI1.out ?_)
    | (with_reducible refine wpList_store_row rfl 26 _ _ rfl _ (manA ⟨v0, v1, v2, v3, [], fun _ => 0⟩ none 0) rfl rfl 26 _ HR2.out HI1.out HZ1.out HO1.out ?_))
  refine bodyPost_ret (results_cell_row rfl _ _ _ 26 (manA ⟨v0, v1, v2, v3, [], fun _ => 0⟩ none 0) (0, 0) _ rfl (setRow_heap _ _ _ _ _ _ HR2.out) Tryd.underlying26 rfl HI1.out) rfl ?_
  have hb := HB.out
  exact ⟨rfl, N4.out.eye.of_block (setRow_other _ _ _ _ (by omega)), N4.out.only.setRow (.inr (Nat.le_refl _)) _⟩
end Go.Proofs.YtgdckpldbofgfaaDoor
