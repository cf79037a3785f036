/-
  The document's manifest: Bytes. Conditions: the sums stand behind the slice, at most 70; the numbers are ints.
  The law's own form (a manifest, in the document's form). Condition: the sums stand behind the slice, at most 1000.
  The law's own alike: two that are the same are alike. Condition: the sums stand behind the slices, at most 1000.
  What the document's reader makes of bytes, beside the program's: in plain words. No program here. No conditions.
  The document's reader against the program's; the document's reader on its way in memory. No program's function here. No conditions.
-/
import Derived.Test.YtgdckpldbofgfaaDoorMg18
import Derived.Test.YtgdckpldbofgfaaDoorMg19
import Derived.Test.YtgdckpldbofgfaaDoorMg20
import Derived.Test.YtgdckpldbofgfaaDoorMg22
import Derived.Test.YtgdckpldbofgfaaDoorMg13
import Derived.Test.YtgdckpldbofgfaaDoorMg3
set_option maxRecDepth 100000
namespace Go.Proofs.YtgdckpldbofgfaaDoor
open Go.ChangeShapes Go.WideShapes Go.ChangeAt Go.RowKit Sh Pn Mf

set_option maxRecDepth 100000 in
set_option maxHeartbeats 800000 in
theorem refTree_none (A : Option Addr) (cap : Nat) (w : World) :
    Calls Tryd.prog 19 #[.slice A 0 cap] w fun e w' => e = .returned (.agg (digF (sumF []))) ∧ Below w.heap.size w w' := by
  go_enter Tryd.func19, Tryd.ntmps19
  go_wp2_with (fail)
  refine (refOf_any ⟨#[]⟩ _ (by decide)).mono ?_
  rintro e w1 ⟨rfl, hb1⟩
  have hres : w1.rowIs w.heap.size 23 32 (fun _ => .int .u8 0) := (row_alloc _ rfl (by kernel_rfl)).of_block (hb1.block _ (by simp))
  have hB1 : Below w.heap.size w w1 := ((Below.refl _ _).alloc (Nat.le_refl _) _).trans (hb1.mono (by simp))
  have hfin := below_setRow' hB1 (Nat.le_refl _) (digF (sumF []))
  have H2 := Lib.hid (row_block hres)
  have H3 := Lib.hid (row_block (row_setRow (g := fun j => Value.int .u8 ((sumF [] j).toNat : Int)) hres))
  clear hres hb1 hB1
  rw [show digV (⟨#[]⟩ : ByteArray).data.toList = digF (sumF []) from rfl]
  go_wp2_with (with_reducible refine wpList_store_row rfl 23 _ _ rfl _ _ rfl rfl 23 _ H2.out (hiRefF _) (hzDig _) (hoDig _) ?_)
  refine bodyPost_ret (results_cell_row rfl _ _ _ 23 _ _ _ rfl H3.out Tryd.underlying23 rfl (hiRef _)) rfl ?_
  exact ⟨rfl, hfin⟩
theorem rootR_any (w : World) (L : List (Nat → UInt8)) (A : Option Addr) (n cap : Nat) (hn : L.length = n) (hnb : n ≤ 1000) (hS : SIn w A cap L) :
    Calls Tryd.prog 19 #[.slice A n cap] w fun e w' => e = .returned (.agg (digF (rootF L))) ∧ Below w.heap.size w w' := by
  subst hn
  by_cases h0 : 0 < L.length
  · obtain ⟨pb, po, rfl, hd⟩ := hS.2 h0
    rw [rootF_pos h0]
    exact refTree_any w L pb po _ cap rfl h0 hnb hS.1 hd
  · have hl : L.length = 0 := by omega
    rw [rootF_nil hl, hl]
    exact refTree_none A cap w
namespace Mf
def textR (m : Man) : List UInt8 := headL m ++ (sumsL m.sums ++ (digL m.res ++ digL (rootF m.sums)))
theorem bapp (a b : List UInt8) : (⟨a.toArray⟩ : ByteArray) ++ ⟨b.toArray⟩ = ⟨(a ++ b).toArray⟩ := by
  apply ByteArray.ext
  rw [ByteArray.data_append]
  simp
theorem sumsL_take (L : List (Nat → UInt8)) (q : Nat) (h : q < L.length) : sumsL (L.take (q + 1)) = sumsL (L.take q) ++ digL (L.getD q fun _ => 0) := by
  rw [List.take_succ_eq_append_getElem h]
  unfold sumsL
  rw [List.flatMap_append, List.getD_eq_getElem?_getD, List.getElem?_eq_getElem h]
  simp
end Mf
theorem fourArr (a b c d : Int) : Tryd.prog.built 75 [(0, .int .i64 a), (1, .int .i64 b), (2, .int .i64 c), (3, .int .i64 d)] = some #[.int .i64 a, .int .i64 b, .int .i64 c, .int .i64 d] := by kernel_rfl
set_option maxRecDepth 100000 in
set_option maxHeartbeats 3200000 in
theorem ref20_bytes (w : World) (m : Man) (A : Option Addr) (k : Nat) (hS : SIn w A k m.sums) (hn : m.sums.length ≤ 70) (hw : ∀ j, -9223372036854775808 ≤ nthM m j ∧ nthM m j ≤ 9223372036854775807) :
    Calls Tryd.prog 22 #[.agg (manA m A k)] w fun e w' => e = .returned (.string ⟨(textR m).toArray⟩) ∧ Below w.heap.size w w' := by
  have HA := Lib.hid (at_new w 30 m A k)
  have HB := Lib.hid ((Below.refl w.heap.size w).alloc (Nat.le_refl _) (.cells (manA m A k) 30))
  have e0 := HA.out.base
  have e1 := HA.out.ver
  have e2 := HA.out.size
  have e3 := HA.out.chunk
  have HSI := Lib.hid hS
  have HN := Lib.hid hn
  have HW := Lib.hid hw
  have HNT := Lib.hid (show ∀ j, j < 4 → (#[.int .i64 m.b, .int .i64 m.v, .int .i64 m.s, .int .i64 m.c] : Array Value)[j]? = some (.int .i64 (nthM m j)) from fun j hj => by
    rcases (show j = 0 ∨ j = 1 ∨ j = 2 ∨ j = 3 by omega) with rfl | rfl | rfl | rfl <;> rfl)
  clear hS hn hw
  go_enter Tryd.func22, Tryd.ntmps22
  go_upto_region 3 with (refine wpList_build_to rfl 75 #[(0, .tmp 11), (1, .tmp 13), (2, .tmp 15), (3, .tmp 17)] rfl [(0, .int .i64 m.b), (1, .int .i64 m.v), (2, .int .i64 m.s), (3, .int .i64 m.c)] rfl _ (fourArr m.b m.v m.s m.c) ?_)
  refine gen_world (fun W => W.heap[w.heap.size + 1]? = some (.cells #[.int .i64 m.b, .int .i64 m.v, .int .i64 m.s, .int .i64 m.c] 75 (0, 0)) ∧ At W w.heap.size 30 m A k ∧ Below w.heap.size w W) ?_ ?_
  · refine ⟨?_, HA.out.keep ((Below.refl _ _).alloc (Nat.le_refl _) _), HB.out.alloc HB.out.size _⟩
    have := heap_alloc_new (w.alloc (.cells (manA m A k) 30)) (.cells #[.int .i64 m.b, .int .i64 m.v, .int .i64 m.s, .int .i64 m.c] 75)
    simpa using this
  rintro w1 ⟨c1, a1, b1⟩
  have C1 := Lib.hid c1
  have A1 := Lib.hid a1
  have B1 := Lib.hid b1
  clear c1 a1 b1 e0 e1 e2 e3 HA HB
  go_wp2_with (fail)
  go_loopw [3, 5] (fun s i wx => ∃ q : Nat, q ≤ 4 ∧ s = .string ⟨(numsL (nthM m) q).toArray⟩ ∧ i = .int .i64 (q : Int) ∧ Below w1.heap.size w1 wx) (fun _ i _ => match i with | .int _ q => 5 - q.toNat | _ => 0)
  case atStart => exact ⟨0, by omega, rfl, rfl, Below.refl _ _⟩
  case round =>
    obtain ⟨q, hq, rfl, rfl, hb⟩ := hrel
    by_cases hlt : q < 4
    · have x0 : (q : Int) < 4 := by omega
      have x1 : decide ((q : Int) < 4) = true := decide_eq_true x0
      have x4 : 0 ≤ (q : Int) := by omega
      have x5 := IntWalk.wrap64_in ((q : Int) + 1) (by omega)
      have c0 : wr.cell? ⟨w.heap.size + 1, q, none⟩ = some (.int .i64 (nthM m q)) := by
        rw [cell_of_row _ _ _ _ _ _ ((hb.block _ (Array.getElem?_eq_some_iff.1 C1.out).1).trans C1.out)]
        exact HNT.out q hlt
      have HNX := Lib.hid (show (⟨(numsL (nthM m) q).toArray⟩ : ByteArray) ++ ⟨(numL (nthM m q)).toArray⟩ = ⟨(numsL (nthM m) (q + 1)).toArray⟩ by rw [bapp, numsL_next])
      have HNU := Lib.hid (fun W => refw_num W (nthM m q) (HW.out q).1 (HW.out q).2)
      have s0 : (⟨(numsL (nthM m) q).toArray⟩ : ByteArray).size = 4 * q := bsize (numsL_length _ _)
      have s1 : (⟨(numL (nthM m q)).toArray⟩ : ByteArray).size = 4 := bsize (numL_length _)
      have s2 : ¬ 9223372036854775807 < (⟨(numsL (nthM m) q).toArray⟩ : ByteArray).size + (⟨(numL (nthM m q)).toArray⟩ : ByteArray).size := by rw [s0, s1]; omega
      have HBQ := Lib.hid hb
      clear s0 s1 hb
      generalize (⟨(numsL (nthM m) q).toArray⟩ : ByteArray) = X at *
      generalize (⟨(numL (nthM m q)).toArray⟩ : ByteArray) = Y at *
      generalize nthM m q = Z at *
      generalize numOk Z = zb at *
      go_wp2_with (fail)
      refine (HNU.out _).mono ?_
      rintro e w2 ⟨rfl, b2⟩
      have HB2 := Lib.hid (HBQ.out.trans (b2.mono HBQ.out.size))
      clear b2
      go_wp2_with (fail)
      exact ⟨⟨q + 1, by omega, by rw [HNX.out], rfl, HB2.out⟩, by show 5 - ((q : Int) + 1).toNat < 5 - (q : Int).toNat; omega⟩
    · have x0 : ¬ (q : Int) < 4 := by omega
      have x1 : decide ((q : Int) < 4) = false := decide_eq_false x0
      have hq4 : q = 4 := by omega
      have HHD := Lib.hid (show numsL (nthM m) q = headL m ++ sumsL (m.sums.take 0) by rw [hq4, nth_head, List.take_zero]; simp [sumsL])
      have HBQ := Lib.hid (B1.out.trans (hb.mono B1.out.size))
      have HAQ := Lib.hid (A1.out.keep hb)
      clear hb hq4
      rw [HHD.out]
      go_wp2_with (fail)
      go_loopw [3, 8] (fun s i wx => ∃ j : Nat, j ≤ m.sums.length ∧ s = .string ⟨(headL m ++ sumsL (m.sums.take j)).toArray⟩ ∧ i = .int .i64 (j : Int) ∧ At wx w.heap.size 30 m A k ∧ Below w.heap.size w wx) (fun _ i _ => match i with | .int _ q => 71 - q.toNat | _ => 0)
      case atStart => exact ⟨0, by omega, rfl, rfl, HAQ.out, HBQ.out⟩
      case round =>
        clear HBQ HAQ x0 x1 hlt
        obtain ⟨j, hj, rfl, rfl, ha, hb⟩ := hrel
        have e4 := ha.sums
        have HA := Lib.hid ha
        have HB := Lib.hid hb
        clear ha hb
        have hn := HN.out
        by_cases hlt : j < m.sums.length
        · have x0 : (j : Int) < (m.sums.length : Int) := by omega
          have x1 : decide ((j : Int) < (m.sums.length : Int)) = true := decide_eq_true x0
          have x2 : decide (j < m.sums.length) = true := decide_eq_true hlt
          have x4 : 0 ≤ (j : Int) := by omega
          have x5 := IntWalk.wrap64_in ((j : Int) + 1) (by omega)
          obtain ⟨pb, po, rfl, hpb, hf⟩ := HSI.out.at hlt
          have HNX := Lib.hid (show (⟨(headL m ++ sumsL (m.sums.take j)).toArray⟩ : ByteArray) ++ ⟨(digL (m.sums.getD j fun _ => 0)).toArray⟩ = ⟨(headL m ++ sumsL (m.sums.take (j + 1))).toArray⟩ by rw [bapp, sumsL_take _ _ hlt, List.append_assoc])
          have hcv := fun (cc : Nat) => show (convert 78 9 (.slice (some ⟨pb, po + j * 32, none⟩) 32 cc)).run Tryd.prog wr = .ok (.string ⟨(digL (m.sums.getD j fun _ => 0)).toArray⟩) wr from
            run_bytes_string wr ⟨pb, po + j * 32, none⟩ 32 cc (m.sums.getD j fun _ => 0) (fun i hi => by
              rw [Addr.add_lit]
              exact (HB.out.cell (p := ⟨pb, po + j * 32 + i, none⟩) hpb).trans (hf i _ (by rw [Array.getElem?_toList]; exact vals_get 32 _ i hi)))
          have s0 : (⟨(headL m ++ sumsL (m.sums.take j)).toArray⟩ : ByteArray).size = 16 + 32 * j := bsize (by rw [List.length_append, headL_length, sumsL_length, List.length_take]; omega)
          have s1 : (⟨(digL (m.sums.getD j fun _ => 0)).toArray⟩ : ByteArray).size = 32 := bsize (digL_length _)
          have s2 : ¬ 9223372036854775807 < (⟨(headL m ++ sumsL (m.sums.take j)).toArray⟩ : ByteArray).size + (⟨(digL (m.sums.getD j fun _ => 0)).toArray⟩ : ByteArray).size := by rw [s0, s1]; omega
          have HLT := Lib.hid hlt
          clear s0 s1 hf hpb hn
          generalize (⟨(headL m ++ sumsL (m.sums.take j)).toArray⟩ : ByteArray) = X at *
          generalize (⟨(digL (m.sums.getD j fun _ => 0)).toArray⟩ : ByteArray) = Y at *
          go_wp2_with (fail)
          exact ⟨⟨j + 1, HLT.out, by rw [HNX.out], by rw [x5]; rfl, HA.out, HB.out⟩, by rw [x5]; clear x5; have := HLT.out; have := HN.out; show 71 - ((j : Int) + 1).toNat < 71 - (j : Int).toNat; omega⟩
        · have x0 : ¬ (j : Int) < (m.sums.length : Int) := by omega
          have x1 : decide ((j : Int) < (m.sums.length : Int)) = false := decide_eq_false x0
          have x2 : decide (j < m.sums.length) = false := decide_eq_false hlt
          have HTK := Lib.hid (show m.sums.take j = m.sums from List.take_of_length_le (by omega))
          have HRT := Lib.hid (rootR_any wr m.sums A m.sums.length k rfl (by omega) (HSI.out.keep HB.out))
          rw [HTK.out]
          clear hn
          go_wp2_with (fail)
          refine HRT.out.mono ?_
          rintro e w2 ⟨rfl, b2⟩
          have HA2 := Lib.hid (HA.out.keep b2)
          have HB2 := Lib.hid (HB.out.trans (b2.mono HB.out.size))
          have HNW := Lib.hid (show ∀ o, (w2.alloc o).heap[w2.heap.size]? = some o from fun o => heap_alloc_new w2 o)
          have hxb := fun cc => show Below w2.heap.size w2 ((w2.alloc (.cells cc 23)).setRow w2.heap.size (digF (rootF m.sums))) from below_setRow' ((Below.refl _ _).alloc (Nat.le_refl _) _) (Nat.le_refl _) _
          have HXB := Lib.hid hxb
          have HXR := Lib.hid (show ∀ cc, ((w2.alloc (.cells cc 23)).setRow w2.heap.size (digF (rootF m.sums))).heap[w2.heap.size]? = some (.cells (digF (rootF m.sums)) 23 (0, 0)) from fun cc => setRow_heap _ _ _ _ _ _ (heap_alloc_new w2 _))
          clear b2 hxb e4 HA
          go_upto_region 13 with (with_reducible refine wpList_store_row rfl 23 _ _ rfl _ (digF (rootF m.sums)) rfl rfl 23 _ (HNW.out _) (hiRD _) (by rw [digF_size]; kernel_rfl) (hoDig _) ?_)
          refine gen_world (fun W => Below w2.heap.size w2 W ∧ W.heap[w2.heap.size]? = some (.cells (digF (rootF m.sums)) 23 (0, 0))) ⟨HXB.out _, HXR.out _⟩ ?_
          rintro w3 ⟨b3, x3⟩
          have HA3 := HA2.out.keep b3
          have HB3 := Lib.hid (HB2.out.trans (b3.mono HB2.out.size))
          clear HNW HXB HXR
          generalize w2.heap.size = rb at *
          have hc1 := fun (nn cc : Nat) => show (convert 78 9 (.slice (some ⟨w.heap.size, 5, none⟩) 32 cc)).run Tryd.prog (w3.drewN nn) = .ok (.string ⟨(digL m.res).toArray⟩) (w3.drewN nn) from
            run_bytes_string (w3.drewN nn) ⟨w.heap.size, 5, none⟩ 32 cc m.res (fun i hi => by
              rw [Addr.add_lit]
              exact HA3.res i _ (by rw [Array.getElem?_toList]; exact vals_get 32 _ i hi))
          have hc2 := fun (nn cc : Nat) => show (convert 78 9 (.slice (some ⟨rb, 0, none⟩) 32 cc)).run Tryd.prog (w3.drewN nn) = .ok (.string ⟨(digL (rootF m.sums)).toArray⟩) (w3.drewN nn) from
            run_bytes_string (w3.drewN nn) ⟨rb, 0, none⟩ 32 cc (rootF m.sums) (fun i hi => by
              rw [Addr.add_lit, Nat.zero_add]
              show w3.cell? _ = _
              rw [cell_of_row _ _ _ _ _ _ x3]
              exact vals_get 32 _ i hi)
          have HTX := Lib.hid (show ((⟨(headL m ++ sumsL m.sums).toArray⟩ : ByteArray) ++ ⟨(digL m.res).toArray⟩) ++ ⟨(digL (rootF m.sums)).toArray⟩ = ⟨(textR m).toArray⟩ by
            rw [bapp, bapp]
            unfold textR
            simp only [List.append_assoc])
          have s0 : (⟨(headL m ++ sumsL m.sums).toArray⟩ : ByteArray).size = 16 + 32 * m.sums.length := bsize (by rw [List.length_append, headL_length, sumsL_length])
          have s1 : (⟨(digL m.res).toArray⟩ : ByteArray).size = 32 := bsize (digL_length _)
          have s2 : (⟨(digL (rootF m.sums)).toArray⟩ : ByteArray).size = 32 := bsize (digL_length _)
          have hn := HN.out
          clear HA3 x3 b3
          generalize (⟨(headL m ++ sumsL m.sums).toArray⟩ : ByteArray) = X at *
          generalize (⟨(digL m.res).toArray⟩ : ByteArray) = Y at *
          generalize (⟨(digL (rootF m.sums)).toArray⟩ : ByteArray) = Z at *
          have s3 : ¬ 9223372036854775807 < X.size + Y.size := by omega
          have s4 : ¬ 9223372036854775807 < X.size + Y.size + Z.size := by omega
          clear s0 s1 s2 hn x0 x1 x2
          go_quiet (fail)
          have HQ := Lib.hid (below_drewN HB3.out nq)
          go_wp2_with (fail)
          refine bodyPost_ret (results_tmp rfl _ _ _) rfl ?_
          rw [← HTX.out]
          exact ⟨rfl, HQ.out⟩
end Go.Proofs.YtgdckpldbofgfaaDoor
namespace Go.Proofs.YtgdckpldbofgfaaDoor
open Go.ChangeShapes Go.WideShapes Go.ChangeAt Go.RowKit Sh Pn Mf

namespace Mf
/-- A manifest in the document's form, on its way: q sums are there. -/
structure Forms (t t2 e : TypeId) (w : World) (ub base : Nat) (m : Man) (A : Option Addr) (k q : Nat) (B : Option Addr) (c : Nat) (W : World) : Prop where
  src : At W w.heap.size t m A k
  out : At W (w.heap.size + 1) t2 zeroM none 0
  grow : Grow base ub t2 e { m with sums := m.sums.take q } B c W
  below : Below w.heap.size w W
  l1 : w.heap.size + 1 < ub
section
variable {t t2 e : TypeId} {w W W' : World} {ub base : Nat} {m : Man} {A : Option Addr} {k q : Nat} {B : Option Addr} {c : Nat}
theorem Forms.step (h : Forms t t2 e w ub base m A k q B c W) (hb : Below W.heap.size W W') : Forms t t2 e w ub base m A k q B c W' :=
  ⟨h.src.keep hb, h.out.keep hb, h.grow.below hb, h.below.trans (hb.mono h.below.size), h.l1⟩
theorem Forms.added (h : Forms t t2 e w ub base m A k q B c W) (hq : q < m.sums.length) {wz : World} {g cap : Nat} (hg : Grow base ub t2 e { m with sums := m.sums.take q ++ [m.sums.getD q fun _ => 0] } (some ⟨g, 0, none⟩) cap (wz.setCell ⟨ub, 4, none⟩ (.slice (some ⟨g, 0, none⟩) (q + 1) cap))) (hb : Below base W wz) :
    Forms t t2 e w ub base m A k (q + 1) (some ⟨g, 0, none⟩) cap (wz.setCell ⟨ub, 4, none⟩ (.slice (some ⟨g, 0, none⟩) (q + 1) cap)) := by
  have h1 := h.l1
  have h2 := h.grow.lt
  have e1 : m.sums.take (q + 1) = m.sums.take q ++ [m.sums.getD q fun _ => 0] := by
    rw [List.take_succ_eq_append_getElem hq, List.getD_eq_getElem?_getD, List.getElem?_eq_getElem hq]
    rfl
  rw [← e1] at hg
  refine ⟨h.src.of_block ((heap_setCell_other _ _ _ _ (by show w.heap.size ≠ ub; omega)).trans (hb.block _ (by omega))), h.out.of_block ((heap_setCell_other _ _ _ _ (by show w.heap.size + 1 ≠ ub; omega)).trans (hb.block _ (by omega))), hg, ?_, h1⟩
  exact (h.below.trans (hb.mono (by omega))).setCell (p := ⟨ub, 4, none⟩) (by show w.heap.size ≤ ub; omega) _
theorem Forms.sinOut (h : Forms t t2 e w ub base m A k q B c W) (cs : Array Value) : SIn (W.setRow (w.heap.size + 1) cs) B c (m.sums.take q) := by
  have h1 := h.l1
  have h2 := h.grow.lt
  exact (h.grow.only ((Only.refl W (w.heap.size + 1)).setRow (.inl rfl) cs) (by omega) (by omega)).sin
end
end Mf
theorem headManR (b v s c : Int) (f : Nat → UInt8) : Tryd.prog.built 30 [(0, .int .i64 b), (1, .int .i64 v), (2, .int .i64 s), (3, .int .i64 c), (5, .agg (digF f))] = some (manA ⟨b, v, s, c, [], f⟩ none 0) := by kernel_rfl
set_option maxRecDepth 100000 in
set_option maxHeartbeats 6400000 in
theorem law20_form (w : World) (m : Man) (A : Option Addr) (k : Nat) (hS : SIn w A k m.sums) (hn : m.sums.length ≤ 1000) :
    Calls Tryd.prog 8 #[.agg (manA m A k)] w fun e w' => ∃ B c, e = .returned (.agg (manA m B c)) ∧ SIn w' B c m.sums ∧ Below w.heap.size w w' := by
  have HI := Lib.hid (fun m A k => manI2 m A k)
  have HO := Lib.hid (fun m A k => manA_one m A k)
  have HSI := Lib.hid hS
  have HN := Lib.hid hn
  have HIM := Lib.hid (digIL m.res)
  have HBU := Lib.hid (headManR m.b m.v m.s m.c m.res)
  obtain ⟨h, hh⟩ : ∃ h : Man, h = ⟨m.b, m.v, m.s, m.c, [], m.res⟩ := ⟨_, rfl⟩
  rw [← hh] at HBU
  have HH := Lib.hid hh
  clear hS hn hh
  go_enter Tryd.func8, Tryd.ntmps8
  go_upto_region 1 with (fail)
  refine gen_world (fun W => At W w.heap.size 26 m A k ∧ At W (w.heap.size + 1) 30 zeroM none 0 ∧ Below w.heap.size w W) ?_ ?_
  · refine ⟨(at_new w _ m A k).keep ((Below.refl _ _).alloc (Nat.le_refl _) _), ⟨?_⟩, ((Below.refl _ _).alloc (Nat.le_refl _) _).alloc (by simp) _⟩
    have := heap_alloc_new (w.alloc (.cells (manA m A k) 26)) (.cells (manA zeroM none 0) 30)
    simp only [World.size_alloc] at this
    exact this
  rintro w1 ⟨a1, o1, b1⟩
  have e0 := a1.base
  have e1 := a1.ver
  have e2 := a1.size
  have e3 := a1.chunk
  have HRES := Lib.hid a1.res
  have HNW := Lib.hid (show ∀ o, (w1.alloc o).heap[w1.heap.size]? = some o from fun o => heap_alloc_new w1 o)
  have HF := Lib.hid (show ∀ cc, Forms 26 30 23 w w1.heap.size (w1.heap.size + 1) m A k 0 none 0 ((w1.alloc (.cells cc 30)).setRow w1.heap.size (manA h none 0)) from fun cc => by
    have hb : Below w1.heap.size w1 ((w1.alloc (.cells cc 30)).setRow w1.heap.size (manA h none 0)) := below_setRow' ((Below.refl _ _).alloc (Nat.le_refl _) _) (Nat.le_refl _) _
    have hs : ((w1.alloc (.cells cc 30)).setRow w1.heap.size (manA h none 0)).heap.size = w1.heap.size + 1 := by simp [World.setRow]
    refine ⟨a1.keep hb, o1.keep hb, ?_, b1.trans (hb.mono b1.size), o1.lt⟩
    have hh : { m with sums := m.sums.take 0 } = h := by rw [HH.out, List.take_zero]
    rw [hh]
    exact grow_new ⟨setRow_heap _ _ _ _ _ _ (heap_alloc_new w1 _)⟩ (by rw [HH.out]) _ hs.symm)
  clear a1 o1 b1
  go_upto_region 2 with (first
    | (with_reducible refine wpList_load_mid rfl 24 _ rfl w.heap.size 5 rfl (digF m.res).toList _ HRES.out Tryd.underlying24 rfl HIM.out ?_)
    | (refine wpList_build_to rfl 30 #[(0, .tmp 6), (1, .tmp 8), (2, .tmp 10), (3, .tmp 12), (5, .tmp 14)] rfl [(0, .int .i64 m.b), (1, .int .i64 m.v), (2, .int .i64 m.s), (3, .int .i64 m.c), (5, .agg (digF m.res))] rfl _ HBU.out ?_)
    | (with_reducible refine wpList_store_row rfl 30 _ _ rfl _ (manA h none 0) rfl rfl 30 _ (HNW.out _) (HI.out h none 0) (by rw [manA_size]; kernel_rfl) (HO.out h none 0) ?_))
  refine gen_world (fun W => Forms 26 30 23 w w1.heap.size (w1.heap.size + 1) m A k 0 none 0 W) (HF.out _) ?_
  rintro w2 f2
  have F2 := Lib.hid f2
  clear f2 HF HNW HRES e0 e1 e2 e3
  generalize w1.heap.size = ub at *
  go_wp2_with (fail)
  go_loopw [4] (fun i wr => ∃ (q : Nat) (B : Option Addr) (c : Nat), i = .int .i64 (q : Int) ∧ q ≤ m.sums.length ∧ Forms 26 30 23 w ub (ub + 1) m A k q B c wr) (fun i _ => match i with | .int _ q => m.sums.length - q.toNat | _ => 0)
  case atStart => exact ⟨0, none, 0, rfl, Nat.zero_le _, F2.out⟩
  case round =>
    clear F2
    obtain ⟨q, B, c, rfl, hq, hr⟩ := hrel
    have HR := Lib.hid hr
    have e4 := hr.src.sums
    clear hr
    have hn := HN.out
    by_cases hlt : q < m.sums.length
    · have x0 : (q : Int) < (m.sums.length : Int) := by omega
      have x1 : decide ((q : Int) < (m.sums.length : Int)) = true := decide_eq_true x0
      have x2 : decide (q < m.sums.length) = true := decide_eq_true hlt
      have x4 : 0 ≤ (q : Int) := by omega
      have x3 := IntWalk.wrap64_in ((q : Int) + 1) (by omega)
      have HLT := Lib.hid hlt
      obtain ⟨pb, po, rfl, hpb, hf⟩ := HSI.out.at hlt
      have hql : (m.sums.take q).length = q := by rw [List.length_take]; omega
      have HQL := Lib.hid hql
      have HSS := Lib.hid (fun (W : World) (hh : Forms 26 30 23 w ub (ub + 1) m (some ⟨pb, po, none⟩) k q B c W) => show W.cell? ⟨ub, 4, none⟩ = some (.slice B q c) ∧ W.cell? ⟨w.heap.size, 4, none⟩ = some (.slice (some ⟨pb, po, none⟩) m.sums.length k) ∧ W.rangeAt pb (po + q * 32) (digF (m.sums.getD q fun _ => 0)).toList from by
        have h1 := hh.grow.at_.sums
        rw [show ({ m with sums := m.sums.take q } : Man).sums.length = q from hql] at h1
        exact ⟨h1, hh.src.sums, fun j u hj => (hh.below.cell (p := ⟨pb, po + q * 32 + j, none⟩) hpb).trans (hf j u hj)⟩)
      have R0 := Lib.hid (HR.out.step (below_drewN (Below.refl wr.heap.size wr) 1))
      have k0 := HSS.out _ R0.out
      have HAD := Lib.hid (fun (W : World) (hh : Forms 26 30 23 w ub (ub + 1) m (some ⟨pb, po, none⟩) k q B c W) (wz : World) (g cap : Nat) hg hb => hh.added HLT.out (wz := wz) (g := g) (cap := cap) hg hb)
      have HID := Lib.hid (digIL (m.sums.getD q fun _ => 0))
      have HWZ := Lib.hid (fun (wz : World) (hb : Below (ub + 1) wr.drew wz) => show wz.cell? ⟨w.heap.size, 4, none⟩ = some (.slice (some ⟨pb, po, none⟩) m.sums.length k) ∧ wz.rangeAt pb (po + q * 32) (digF (m.sums.getD q fun _ => 0)).toList from by
        have hl := R0.out.l1
        have hs := HSI.out
        have h1 := R0.out.below.trans (hb.mono (by omega))
        exact ⟨(hb.cell (p := ⟨w.heap.size, 4, none⟩) (by show w.heap.size < ub + 1; omega)).trans k0.2.1, fun j u hj => (h1.cell (p := ⟨pb, po + q * 32 + j, none⟩) hpb).trans (hf j u hj)⟩)
      clear hpb hf hql hlt
      generalize (m.sums.getD q fun _ => 0) = D at *
      go_wp2_with (fail)
      -- HANDV 0
      refine wp_region_noPanic ?_
      refine wp_region_heldV (S := (fun W : World => W.cell? ⟨ub, 4, none⟩ = some (.slice B q c) ∧ W.cell? ⟨w.heap.size, 4, none⟩ = some (.slice (some ⟨pb, po, none⟩) m.sums.length k) ∧ W.rangeAt pb (po + q * 32) (digF D).toList)) 10 (by kernel_rfl) (by kernel_rfl) (by kernel_rfl) (by kernel_rfl) (by decide) k0 (fun hHeld => ?_)
      refine wpAnyV_take (i := 0) (v := .pointer (some ⟨ub, 4, none⟩)) 23 rfl rfl (by decide) (by kernel_rfl) (by kernel_rfl) (fun _ _ _ h => h) (Or.inl ⟨by rfl, ?_⟩) hHeld ?_
      · intro W hW
        try dsimp only at hW
        go_simp
      simp only [Act.put, List.setIfInBounds_toArray, List.set_cons_succ, List.set_cons_zero]
      refine wpAnyV_take (i := 1) (v := .slice B q c) 24 rfl rfl (by decide) (by kernel_rfl) (by kernel_rfl) (fun _ _ _ h => h) (Or.inl ⟨by rfl, ?_⟩) hHeld ?_
      · intro W hW
        try dsimp only at hW
        go_simp
      simp only [Act.put, List.setIfInBounds_toArray, List.set_cons_succ, List.set_cons_zero]
      refine wpAnyV_take (i := 2) (v := .pointer (some ⟨w.heap.size, 4, none⟩)) 25 rfl rfl (by decide) (by kernel_rfl) (by kernel_rfl) (fun _ _ _ h => h) (Or.inl ⟨by rfl, ?_⟩) hHeld ?_
      · intro W hW
        try dsimp only at hW
        go_simp
      simp only [Act.put, List.setIfInBounds_toArray, List.set_cons_succ, List.set_cons_zero]
      refine wpAnyV_take (i := 3) (v := .slice (some ⟨pb, po, none⟩) m.sums.length k) 26 rfl rfl (by decide) (by kernel_rfl) (by kernel_rfl) (fun _ _ _ h => h) (Or.inl ⟨by rfl, ?_⟩) hHeld ?_
      · intro W hW
        try dsimp only at hW
        go_simp
      simp only [Act.put, List.setIfInBounds_toArray, List.set_cons_succ, List.set_cons_zero]
      refine wpAnyV_take (i := 4) (v := .int .i64 (q : Int)) 27 rfl rfl (by decide) (by kernel_rfl) (by kernel_rfl) (fun _ _ _ h => h) (Or.inl ⟨by rfl, ?_⟩) hHeld ?_
      · intro W hW
        try dsimp only at hW
        go_simp
      simp only [Act.put, List.setIfInBounds_toArray, List.set_cons_succ, List.set_cons_zero]
      refine wpAnyV_take (i := 5) (v := .pointer (some ⟨pb, po + q * 32, none⟩)) 28 rfl rfl (by decide) (by kernel_rfl) (by kernel_rfl) (fun _ _ _ h => h) (Or.inl ⟨by rfl, ?_⟩) hHeld ?_
      · intro W hW
        try dsimp only at hW
        go_simp
      simp only [Act.put, List.setIfInBounds_toArray, List.set_cons_succ, List.set_cons_zero]
      refine wpAnyV_take (i := 6) (v := .agg (digF D).toList.toArray) 29 rfl rfl (by decide) (by kernel_rfl) (by kernel_rfl) (fun _ _ _ h => h) (yieldsIf_load_mid (by rfl) 24 _ rfl pb (po + q * 32) rfl (digF D).toList _ (fun W hW => hW.2.2) Tryd.underlying24 rfl HID.out) hHeld ?_
      simp only [Act.put, List.setIfInBounds_toArray, List.set_cons_succ, List.set_cons_zero]
      refine wpAnyV_one (i := 7) (by kernel_rfl) rfl (by decide) (fun K hK => ?_)
      refine step_buildTo (by rfl) 28 23 1 #[(0, .tmp 29)] (by rfl) Tryd.underlying28 (digF D) (by rw [Array.toList_map]; exact rfOneS _) ?_
      refine hK.out _ _ (HSS.out _ (R0.out.step ((Below.refl wr.drew.heap.size wr.drew).alloc (Nat.le_refl _) (.cells (digF D) 23)))) (fun hHeld2 => ?_)
      clear hK K hHeld
      have hHeld := hHeld2
      clear hHeld2
      try simp only [Act.put, List.setIfInBounds_toArray]
      refine wpAnyV_one (i := 8) (by kernel_rfl) rfl (by decide) (fun K hK => ?_)
      refine step_add (by rfl) (.tmp 24) (.tmp 30) 28 (by rfl) 23 Tryd.underlying28 infoR R0.out.grow D (by simp only [HQL.out]; rfl) (by rfl) (by simp only [HQL.out]; have := HN.out; omega) ?_
      intro g cap wz hg hat hb7
      simp only [HQL.out] at hg hat ⊢
      have R7 := Lib.hid (HAD.out _ R0.out _ _ _ hg hb7)
      have c7 := hat.sums
      simp only [HQL.out] at c7
      have f7 := hat.fz 4
      have ⟨HSS2, HSS3⟩ := HWZ.out _ hb7
      clear hg hat hb7
      refine hK.out _ _ ⟨c7, HSS2, HSS3⟩ (fun hHeld2 => ?_)
      clear hK K hHeld
      have hHeld := hHeld2
      clear hHeld2
      try simp only [Act.put]
      refine wpAnyV_take (i := 9) (v := .pointer (some ⟨ub, 4, none⟩)) 32 rfl rfl (by decide) (by kernel_rfl) (by kernel_rfl) (fun _ _ _ h => h) (Or.inl ⟨by rfl, ?_⟩) hHeld ?_
      · intro W hW
        try dsimp only at hW
        go_simp
      simp only [Act.put]
      refine wpAnyV_last (by kernel_rfl) rfl (by kernel_rfl) (fun K hK => ?_)
      go_simp
      refine hK.out _ _ ?_
      refine NoPanic.normal ?_
      -- VDNAH 0
      clear hHeld k0 c7 f7
      go_wp2_with (fail)
      exact ⟨⟨q + 1, _, _, by first | rfl | (rw [x3]; rfl), HLT.out, R7.out⟩, by first | exact mfLess q _ HLT.out | (rw [x3]; exact mfLess q _ HLT.out)⟩
    · have x0 : ¬ (q : Int) < (m.sums.length : Int) := by omega
      have x1 : decide ((q : Int) < (m.sums.length : Int)) = false := decide_eq_false x0
      have x2 : decide (q < m.sums.length) = false := decide_eq_false hlt
      have HTK := Lib.hid (show m.sums.take q = m.sums from List.take_of_length_le (by omega))
      have HMC := Lib.hid (show At wr ub 30 m B c from by
        have h1 := HR.out.grow.at_
        rw [HTK.out] at h1
        exact h1).cells
      have HZ1 := Lib.hid HR.out.out.cells
      have HSN := Lib.hid (show SIn (wr.setRow (w.heap.size + 1) (manA m B c)) B c m.sums by
        have h1 := HR.out.sinOut (manA m B c)
        rw [HTK.out] at h1
        exact h1)
      go_wp2_with (first
        | (with_reducible refine wpList_load_row rfl 30 _ rfl _ rfl 30 (manA m B c) (0, 0) _ HMC.out Tryd.underlying30 rfl (HI.out m B c) ?_)
        | (with_reducible refine wpList_store_row rfl 30 _ _ rfl _ (manA m B c) rfl rfl 30 _ HZ1.out (HI.out m B c) (by rw [manA_size, manA_size]) (HO.out m B c) ?_))
      refine bodyPost_ret (results_cell_row rfl _ _ _ 30 (manA m B c) (0, 0) _ rfl (setRow_heap _ _ _ _ _ _ HZ1.out) Tryd.underlying30 rfl (HI.out m B c)) rfl ?_
      exact ⟨B, c, rfl, HSN.out, below_setRow' HR.out.below (by omega) _⟩
end Go.Proofs.YtgdckpldbofgfaaDoor
namespace Go.Proofs.YtgdckpldbofgfaaDoor
open Go.ChangeShapes Go.WideShapes Go.ChangeAt Go.RowKit Sh Pn Mf

theorem run_neq_digR (f g : Nat → UInt8) (w : World) : (binOp .neq 23 (.agg (digF f)) (.agg (digF g))).run Tryd.prog w = .ok (.bool (!same f g)) w := by
  obtain ⟨i0, hi, _⟩ := info_parts info5
  rw [run_neq_struct, run_equalIn_array (P := Tryd.prog) (w := w) 9999 (digF f) (digF g) Tryd.underlying23 hi]
  have hc : Tryd.prog.cellsOf 5 = 1 := by kernel_rfl
  rw [hc, run_items f g w (List.range 32) (fun i hi => List.mem_range.1 hi)]
  rfl
theorem digRL (f : Nat → UInt8) : (Tryd.prog.info? 23).map (·.size) = some (digF f).toList.length := by rw [Array.length_toList]; exact hiRD f
namespace Mf
/-- Both manifests. -/
structure Both (t : TypeId) (w : World) (ub nb : Nat) (m : Man) (B : Option Addr) (c : Nat) (C : Option Addr) (d : Nat) (W : World) : Prop where
  one : At W ub t m B c
  two : At W nb t m C d
  s1 : SIn W B c m.sums
  s2 : SIn W C d m.sums
  below : Below w.heap.size w W
theorem Both.step {t : TypeId} {w W W' : World} {ub nb : Nat} {m : Man} {B : Option Addr} {c : Nat} {C : Option Addr} {d : Nat} (h : Both t w ub nb m B c C d W) (hb : Below W.heap.size W W') : Both t w ub nb m B c C d W' :=
  ⟨h.one.keep hb, h.two.keep hb, h.s1.keep hb, h.s2.keep hb, h.below.trans (hb.mono h.below.size)⟩
end Mf
set_option maxRecDepth 100000 in
set_option maxHeartbeats 6400000 in
theorem law20_alike (w : World) (m : Man) (A : Option Addr) (k : Nat) (C : Option Addr) (d : Nat) (hS : SIn w A k m.sums) (hS2 : SIn w C d m.sums) (hn : m.sums.length ≤ 1000) :
    Calls Tryd.prog 25 #[.agg (manA m A k), .agg (manA m C d)] w fun e w' => e = .returned (.bool true) ∧ Below w.heap.size w w' := by
  have HI := Lib.hid (fun m A k => manI2 m A k)
  have HI1 := Lib.hid (fun m A k => manI m A k)
  have HO := Lib.hid (fun m A k => manA_one m A k)
  have HN := Lib.hid hn
  have HFM := Lib.hid (fun (W : World) (hW : Below w.heap.size w W) => law20_form W m A k (hS.keep hW) hn)
  have HS2 := Lib.hid hS2
  have HIR := Lib.hid (digRL m.res)
  have ER : ∀ W, (binOp .neq 23 (.agg (digF m.res)) (.agg (digF m.res))).run Tryd.prog W = .ok (.bool false) W := fun W => by rw [run_neq_digR, same_refl]; rfl
  clear hS hS2 hn
  go_enter Tryd.func25, Tryd.ntmps25
  go_upto_region 1 with (fail)
  refine gen_world (fun W => At W w.heap.size 26 m A k ∧ At W (w.heap.size + 1) 30 m C d ∧ Below w.heap.size w W) ?_ ?_
  · refine ⟨(at_new w _ m A k).keep ((Below.refl _ _).alloc (Nat.le_refl _) _), ⟨?_⟩, ((Below.refl _ _).alloc (Nat.le_refl _) _).alloc (by simp) _⟩
    have := heap_alloc_new (w.alloc (.cells (manA m A k) 26)) (.cells (manA m C d) 30)
    simp only [World.size_alloc] at this
    exact this
  rintro w1 ⟨a1, o1, b1⟩
  have HMC := Lib.hid a1.cells
  have O1 := Lib.hid o1
  have B1 := Lib.hid b1
  clear a1 o1 b1
  go_wp2_with (with_reducible refine wpList_load_row rfl 26 _ rfl _ rfl 26 (manA m A k) (0, 0) _ HMC.out Tryd.underlying26 rfl (HI1.out m A k) ?_)
  refine (HFM.out _ B1.out).mono ?_
  rintro e w2 ⟨B, c, rfl, s2, b2⟩
  have O2 := Lib.hid (O1.out.keep b2)
  have B2 := Lib.hid (B1.out.trans (b2.mono B1.out.size))
  have S2 := Lib.hid s2
  clear s2 b2 HMC O1 B1 HFM
  have HNW := Lib.hid (show ∀ o, (w2.alloc o).heap[w2.heap.size]? = some o from fun o => heap_alloc_new w2 o)
  have HXA := Lib.hid (fun cc => And.intro (show At ((w2.alloc (.cells cc 30)).setRow w2.heap.size (manA m B c)) w2.heap.size 30 m B c from ⟨setRow_heap _ _ _ _ _ _ (heap_alloc_new w2 _)⟩) (below_setRow' ((Below.refl w2.heap.size w2).alloc (Nat.le_refl _) (.cells cc 30)) (Nat.le_refl _) (manA m B c)))
  go_upto_region 2 with (with_reducible refine wpList_store_row rfl 30 _ _ rfl _ (manA m B c) rfl rfl 30 _ (HNW.out _) (HI.out m B c) (by rw [manA_size]; kernel_rfl) (HO.out m B c) ?_)
  refine gen_world (fun W => Both 30 w w2.heap.size (w.heap.size + 1) m B c C d W) ⟨(HXA.out _).1, O2.out.keep (HXA.out _).2, S2.out.keep (HXA.out _).2, (HS2.out.keep B2.out).keep (HXA.out _).2, B2.out.trans ((HXA.out _).2.mono B2.out.size)⟩ ?_
  generalize w.heap.size + 1 = nb at *
  rintro w3 t3
  have T3 := Lib.hid t3
  have p0 := t3.one.base
  have p1 := t3.one.ver
  have p2 := t3.one.size
  have p3 := t3.one.chunk
  have p4 := t3.one.sums
  have q0 := t3.two.base
  have q1 := t3.two.ver
  have q2 := t3.two.size
  have q3 := t3.two.chunk
  have q4 := t3.two.sums
  have HR1 := Lib.hid t3.one.res
  have HR2 := Lib.hid t3.two.res
  clear t3 HNW HXA O2 B2 S2
  generalize w2.heap.size = ub at *
  have u0 : (m.b != m.b) = false := bne_self_eq_false _
  have u1 : (m.v != m.v) = false := bne_self_eq_false _
  have u2 : (m.s != m.s) = false := bne_self_eq_false _
  have u3 : (m.c != m.c) = false := bne_self_eq_false _
  have u4 : ((m.sums.length : Int) != (m.sums.length : Int)) = false := bne_self_eq_false _
  go_upto_region 4 with (first
    | (refine wpList_load_mid_g (by rfl) 23 _ rfl ub 5 rfl (digF m.res).toList _ HR1.out Tryd.underlying23 rfl HIR.out ?_)
    | (refine wpList_load_mid_g (by rfl) 23 _ rfl nb 5 rfl (digF m.res).toList _ HR2.out Tryd.underlying23 rfl HIR.out ?_))
  clear p0 p1 p2 p3 q0 q1 q2 q3 u0 u1 u2 u3 u4 ER HR1 HR2 p4 q4
  go_wp2_with (fail)
  go_loopw [6] (fun i wr => ∃ q : Nat, i = .int .i64 (q : Int) ∧ q ≤ m.sums.length ∧ Both 30 w ub nb m B c C d wr) (fun i _ => match i with | .int _ q => m.sums.length - q.toNat | _ => 0)
  case atStart => exact ⟨0, rfl, Nat.zero_le _, T3.out⟩
  case round =>
    clear T3
    obtain ⟨q, rfl, hq, hr⟩ := hrel
    have HR := Lib.hid hr
    have p4 := hr.one.sums
    clear hr
    have hn := HN.out
    by_cases hlt : q < m.sums.length
    · have x0 : (q : Int) < (m.sums.length : Int) := by omega
      have x1 : decide ((q : Int) < (m.sums.length : Int)) = true := decide_eq_true x0
      have x2 : decide (q < m.sums.length) = true := decide_eq_true hlt
      have x4 : 0 ≤ (q : Int) := by omega
      have x3 := IntWalk.wrap64_in ((q : Int) + 1) (by omega)
      have HLT := Lib.hid hlt
      obtain ⟨pb, po, rfl, hpb, hf⟩ := HR.out.s1.at hlt
      obtain ⟨pc, oc, rfl, hpc, hg⟩ := HR.out.s2.at hlt
      have HSS := Lib.hid (fun (W : World) (hW : Below wr.heap.size wr W) => show W.cell? ⟨ub, 4, none⟩ = some (.slice (some ⟨pb, po, none⟩) m.sums.length c) ∧ W.cell? ⟨nb, 4, none⟩ = some (.slice (some ⟨pc, oc, none⟩) m.sums.length d) ∧ W.rangeAt pb (po + q * 32) (digF (m.sums.getD q fun _ => 0)).toList ∧ W.rangeAt pc (oc + q * 32) (digF (m.sums.getD q fun _ => 0)).toList from
        ⟨(HR.out.one.keep hW).sums, (HR.out.two.keep hW).sums, fun j u hj => (hW.cell (p := ⟨pb, po + q * 32 + j, none⟩) hpb).trans (hf j u hj), fun j u hj => (hW.cell (p := ⟨pc, oc + q * 32 + j, none⟩) hpc).trans (hg j u hj)⟩)
      have b00 : Below wr.heap.size wr wr.drew := below_drewN (Below.refl _ _) 1
      have k0 := HSS.out _ b00
      have HRD := Lib.hid (HR.out.step b00)
      have HID := Lib.hid (digRL (m.sums.getD q fun _ => 0))
      have E : ∀ W, (binOp .neq 23 (.agg (digF (m.sums.getD q fun _ => 0))) (.agg (digF (m.sums.getD q fun _ => 0)))).run Tryd.prog W = .ok (.bool false) W := fun W => by rw [run_neq_digR, same_refl]; rfl
      clear hpb hf hpc hg hlt b00
      generalize (m.sums.getD q fun _ => 0) = D at *
      go_wp2_with (fail)
      -- HAND
      refine wp_region_noPanic ?_
      refine wp_region_held_drew (S := (fun W : World => W.cell? ⟨ub, 4, none⟩ = some (.slice (some ⟨pb, po, none⟩) m.sums.length c) ∧ W.cell? ⟨nb, 4, none⟩ = some (.slice (some ⟨pc, oc, none⟩) m.sums.length d) ∧ W.rangeAt pb (po + q * 32) (digF D).toList ∧ W.rangeAt pc (oc + q * 32) (digF D).toList)) (by kernel_rfl) k0 (fun hHeld => ?_)
      refine wpAnyH_takeAt (i := 0) (v := .pointer (some ⟨ub, 4, none⟩)) 58 rfl rfl (by kernel_rfl) (by kernel_rfl) (by kernel_rfl) (fun _ _ _ h => h) (Or.inl ⟨by rfl, ?_⟩) hHeld ?_
      · intro W hW
        try dsimp only at hW
        go_simp
      simp only [Act.put, List.setIfInBounds_toArray, List.set_cons_succ, List.set_cons_zero]
      refine wpAnyH_takeAt (i := 1) (v := .slice (some ⟨pb, po, none⟩) m.sums.length c) 59 rfl rfl (by kernel_rfl) (by kernel_rfl) (by kernel_rfl) (fun _ _ _ h => h) (Or.inl ⟨by rfl, ?_⟩) hHeld ?_
      · intro W hW
        try dsimp only at hW
        go_simp
      simp only [Act.put, List.setIfInBounds_toArray, List.set_cons_succ, List.set_cons_zero]
      refine wpAnyH_takeAt (i := 2) (v := .int .i64 (q : Int)) 60 rfl rfl (by kernel_rfl) (by kernel_rfl) (by kernel_rfl) (fun _ _ _ h => h) (Or.inl ⟨by rfl, ?_⟩) hHeld ?_
      · intro W hW
        try dsimp only at hW
        go_simp
      simp only [Act.put, List.setIfInBounds_toArray, List.set_cons_succ, List.set_cons_zero]
      refine wpAnyH_takeAt (i := 3) (v := .pointer (some ⟨pb, po + q * 32, none⟩)) 61 rfl rfl (by kernel_rfl) (by kernel_rfl) (by kernel_rfl) (fun _ _ _ h => h) (Or.inl ⟨by rfl, ?_⟩) hHeld ?_
      · intro W hW
        try dsimp only at hW
        go_simp
      simp only [Act.put, List.setIfInBounds_toArray, List.set_cons_succ, List.set_cons_zero]
      refine wpAnyH_takeAt (i := 4) (v := .agg (digF D).toList.toArray) 62 rfl rfl (by kernel_rfl) (by kernel_rfl) (by kernel_rfl) (fun _ _ _ h => h) (yieldsIf_load_mid (by rfl) 23 _ rfl pb (po + q * 32) rfl (digF D).toList _ (fun W hW => hW.2.2.1) Tryd.underlying23 rfl HID.out) hHeld ?_
      simp only [Act.put, List.setIfInBounds_toArray, List.set_cons_succ, List.set_cons_zero]
      refine wpAnyH_takeAt (i := 5) (v := .pointer (some ⟨nb, 4, none⟩)) 63 rfl rfl (by kernel_rfl) (by kernel_rfl) (by kernel_rfl) (fun _ _ _ h => h) (Or.inl ⟨by rfl, ?_⟩) hHeld ?_
      · intro W hW
        try dsimp only at hW
        go_simp
      simp only [Act.put, List.setIfInBounds_toArray, List.set_cons_succ, List.set_cons_zero]
      refine wpAnyH_takeAt (i := 6) (v := .slice (some ⟨pc, oc, none⟩) m.sums.length d) 64 rfl rfl (by kernel_rfl) (by kernel_rfl) (by kernel_rfl) (fun _ _ _ h => h) (Or.inl ⟨by rfl, ?_⟩) hHeld ?_
      · intro W hW
        try dsimp only at hW
        go_simp
      simp only [Act.put, List.setIfInBounds_toArray, List.set_cons_succ, List.set_cons_zero]
      refine wpAnyH_takeAt (i := 7) (v := .int .i64 (q : Int)) 65 rfl rfl (by kernel_rfl) (by kernel_rfl) (by kernel_rfl) (fun _ _ _ h => h) (Or.inl ⟨by rfl, ?_⟩) hHeld ?_
      · intro W hW
        try dsimp only at hW
        go_simp
      simp only [Act.put, List.setIfInBounds_toArray, List.set_cons_succ, List.set_cons_zero]
      refine wpAnyH_takeAt (i := 8) (v := .pointer (some ⟨pc, oc + q * 32, none⟩)) 66 rfl rfl (by kernel_rfl) (by kernel_rfl) (by kernel_rfl) (fun _ _ _ h => h) (Or.inl ⟨by rfl, ?_⟩) hHeld ?_
      · intro W hW
        try dsimp only at hW
        go_simp
      simp only [Act.put, List.setIfInBounds_toArray, List.set_cons_succ, List.set_cons_zero]
      refine wpAnyH_takeAt (i := 9) (v := .agg (digF D).toList.toArray) 67 rfl rfl (by kernel_rfl) (by kernel_rfl) (by kernel_rfl) (fun _ _ _ h => h) (yieldsIf_load_mid (by rfl) 23 _ rfl pc (oc + q * 32) rfl (digF D).toList _ (fun W hW => hW.2.2.2) Tryd.underlying23 rfl HID.out) hHeld ?_
      simp only [Act.put, List.setIfInBounds_toArray, List.set_cons_succ, List.set_cons_zero]
      refine wpAnyH_takeAt (i := 10) (v := .bool false) 68 rfl rfl (by kernel_rfl) (by kernel_rfl) (by kernel_rfl) (fun _ _ _ h => h) (Or.inl ⟨by rfl, ?_⟩) hHeld ?_
      · intro W hW
        try dsimp only at hW
        go_simp
      simp only [Act.put, List.setIfInBounds_toArray, List.set_cons_succ, List.set_cons_zero]
      refine wpAnyH_done (by kernel_rfl) ?_ _
      refine NoPanic.normal ?_
      -- DNAH
      clear hHeld E k0
      go_wp2_with (fail)
      exact ⟨⟨q + 1, by first | rfl | (rw [x3]; rfl), HLT.out, HRD.out⟩, by first | exact mfLess q _ HLT.out | (rw [x3]; exact mfLess q _ HLT.out)⟩
    · have x0 : ¬ (q : Int) < (m.sums.length : Int) := by omega
      have x1 : decide ((q : Int) < (m.sums.length : Int)) = false := decide_eq_false x0
      have x2 : decide (q < m.sums.length) = false := decide_eq_false hlt
      go_wp2_with (fail)
      exact bodyPost_ret (results_tmp rfl _ _ _) rfl ⟨rfl, HR.out.below⟩
end Go.Proofs.YtgdckpldbofgfaaDoor
namespace Go.Proofs.YtgdckpldbofgfaaDoor
open Go Go.RowKit Sh Pn Mf Cf

namespace Mf
def freeM (_ : Nat) : Int := 2147483647
theorem freeM_ok {r : ByteArray} {m : Int} (h : nmOk r m = true) (hm : m ≤ 2147483647) (i : Nat) : nmOk r (freeM i) = true := by
  unfold nmOk at h
  simp only [Bool.and_eq_true, decide_eq_true_iff] at h
  exact nm_ok h.1 (by unfold freeM; omega)
theorem limM_most (i : Nat) : limM i ≤ 2147483647 := by
  unfold limM
  split <;> omega
theorem step_alikeM {t : ByteArray} {i : Nat} (hr : rsT limM t i = rsT freeM t i) (hb : bsT limM t i = bsT freeM t i) (h1 : nmOk (rsT freeM t i) (limM i) = true) :
    vsT limM t i = vsT freeM t i ∧ rsT limM t (i + 1) = rsT freeM t (i + 1) ∧ bsT limM t (i + 1) = bsT freeM t (i + 1) := by
  have h2 := freeM_ok h1 (limM_most i) i
  have h3 : nmOk (rsT limM t i) (limM i) = true := by rw [hr]; exact h1
  refine ⟨?_, ?_, ?_⟩
  · unfold vsT
    rw [nm_out_yes h3, nm_out_yes h2, hr]
  · show nmRest (rsT limM t i) (limM i) = nmRest (rsT freeM t i) (freeM i)
    rw [nm_rest_yes h3, nm_rest_yes h2, hr]
  · show nmBad (rsT limM t i) (bsT limM t i) (limM i) = nmBad (rsT freeM t i) (bsT freeM t i) (freeM i)
    rw [nm_bad_yes _ h3, nm_bad_yes _ h2, hb]
theorem four_alike {t : ByteArray} (h : ∀ i, i < 4 → rsT limM t i = rsT freeM t i → nmOk (rsT freeM t i) (limM i) = true) :
    ∀ i, i ≤ 4 → rsT limM t i = rsT freeM t i ∧ bsT limM t i = bsT freeM t i ∧ (∀ j, j < i → vsT limM t j = vsT freeM t j)
  | 0, _ => ⟨rfl, rfl, fun j hj => by omega⟩
  | i + 1, hi => by
    obtain ⟨a, b, c⟩ := four_alike h i (by omega)
    obtain ⟨d, e, f⟩ := step_alikeM a b (h i (by omega) a)
    exact ⟨e, f, fun j hj => by
      by_cases hji : j = i
      · rw [hji]; exact d
      · exact c j (by omega)⟩
def headV (m : Nat → Int) (t : ByteArray) : Bool := headB (vsT m t 0) (vsT m t 1) (vsT m t 2) (vsT m t 3)
def okF (t : ByteArray) : Bool := !bsT freeM t 4 && headV freeM t
theorem headV_in {m : Nat → Int} {t : ByteArray} (h : headV m t = true) (i : Nat) (hi : i < 4) : 1 ≤ vsT m t i ∧ (vsT m t i : Int) ≤ limM i := by
  have := headB_iff.1 h
  rcases (show i = 0 ∨ i = 1 ∨ i = 2 ∨ i = 3 by omega) with rfl | rfl | rfl | rfl <;> (simp only [limM]; omega)
theorem key_lim {t : ByteArray} (h : headV limM t = true) (i : Nat) (hi : i < 4) (he : rsT limM t i = rsT freeM t i) : nmOk (rsT freeM t i) (limM i) = true := by
  have := low_ok (headV_in h i hi).1
  rwa [he] at this
theorem key_free {t : ByteArray} (h : okF t = true) (i : Nat) (hi : i < 4) : nmOk (rsT freeM t i) (limM i) = true := by
  unfold okF at h
  rw [Bool.and_eq_true, Bool.not_eq_true'] at h
  have hb : bsT freeM t (i + 1) = false := bad_stays (i + 1) (4 - (i + 1)) (by rw [show i + 1 + (4 - (i + 1)) = 4 by omega]; exact h.1)
  have hb' : nmBad (rsT freeM t i) (bsT freeM t i) (freeM i) = false := hb
  have ho : nmOk (rsT freeM t i) (freeM i) = true := by
    unfold nmBad at hb'
    have := (Bool.or_eq_false_iff.1 hb').2
    simpa using this
  have hl := (headV_in h.2 i hi).2
  unfold vsT at hl
  rw [nm_out_yes ho] at hl
  unfold nmOk at ho
  simp only [Bool.and_eq_true, decide_eq_true_iff] at ho
  exact nm_ok ho.1 hl
theorem alike_all {t : ByteArray} (h : headV limM t = true ∨ okF t = true) : rsT limM t 4 = rsT freeM t 4 ∧ bsT limM t 4 = bsT freeM t 4 ∧ (∀ j, j < 4 → vsT limM t j = vsT freeM t j) :=
  four_alike (fun i hi he => by
    rcases h with h | h
    · exact key_lim h i hi he
    · exact key_free h i hi) 4 (Nat.le_refl _)
theorem bad_lim {t : ByteArray} (h : headV limM t = true) : ∀ i, i ≤ 4 → bsT limM t i = false
  | 0, _ => rfl
  | i + 1, hi => by
    show nmBad (rsT limM t i) (bsT limM t i) (limM i) = false
    rw [nm_bad_yes _ (low_ok (headV_in h i (by omega)).1)]
    exact bad_lim h i (by omega)
theorem ok_same (t : ByteArray) : okF t = headV limM t := by
  have hv : (∀ j, j < 4 → vsT limM t j = vsT freeM t j) → headV limM t = headV freeM t := fun h => by
    unfold headV
    rw [h 0 (by omega), h 1 (by omega), h 2 (by omega), h 3 (by omega)]
  cases h1 : headV limM t with
  | true =>
    obtain ⟨_, b, c⟩ := alike_all (.inl h1)
    unfold okF
    rw [← hv c, h1, ← b, bad_lim h1 4 (Nat.le_refl _)]
    rfl
  | false =>
    cases h2 : okF t with
    | false => rfl
    | true =>
      obtain ⟨_, _, c⟩ := alike_all (.inr h2)
      unfold okF at h2
      rw [← hv c, h1, Bool.and_false] at h2
      cases h2
theorem need_head_V (t : ByteArray) : needT t = if headV limM t = true then cntN (vsT limM t 2) (vsT limM t 3) else 0 := by
  show needN (vsT limM t 0) (vsT limM t 1) (vsT limM t 2) (vsT limM t 3) = _
  unfold needN headV
  simp only [Int.toNat_natCast]
theorem need_pos (t : ByteArray) : 0 < needT t ↔ headV limM t = true := by
  rw [need_head_V]
  by_cases h : headV limM t = true
  · rw [if_pos h]
    have := headB_iff.1 h
    have h1 := cntN_pos (s := vsT limM t 2) (c := vsT limM t 3) (by omega) (by omega)
    exact ⟨fun _ => h, fun _ => h1⟩
  · rw [if_neg h]
    exact ⟨fun h' => absurd h' (Nat.lt_irrefl 0), fun h' => absurd h' h⟩
/-! The sums of what is left. -/
theorem rD_list (r : ByteArray) : ∀ k, (32 * k ≤ r.size → bD r false k = false ∧ (rD r k).data.toList = r.data.toList.drop (32 * k)) ∧ (r.size < 32 * k → bD r false k = true)
  | 0 => ⟨fun _ => ⟨rfl, by simp [rD]⟩, fun h => by omega⟩
  | k + 1 => by
    obtain ⟨h1, h2⟩ := rD_list r k
    have hz : r.data.toList.length = r.size := rfl
    have sz : 32 * k ≤ r.size → (rD r k).size = r.size - 32 * k := fun h => by
      have h3 := congrArg List.length (h1 h).2
      rw [List.length_drop, hz] at h3
      exact h3
    constructor
    · intro h
      have h3 := sz (by omega)
      obtain ⟨h4, h5⟩ := h1 (by omega)
      constructor
      · show tkBad (rD r k) (bD r false k) 32 = false
        rw [tk_bad_yes _ (by omega), h4]
      · show (tkRest (rD r k) 32).data.toList = _
        rw [tk_rest_yes (by omega), ByteArray.data_extract, Array.toList_extract, List.extract_eq_take_drop, List.take_of_length_le (by rw [List.length_drop]; exact Nat.le_refl _), h5, List.drop_drop]
        congr 1
    · intro h
      show tkBad (rD r k) (bD r false k) 32 = true
      by_cases h3 : 32 * k ≤ r.size
      · exact tk_bad_no _ (by rw [sz h3]; omega)
      · unfold tkBad
        rw [h2 (by omega)]
        rfl
theorem end_iff (r : ByteArray) (k : Nat) : endOf (rD r k) (bD r false k) = 0 ↔ r.size = 32 * k := by
  obtain ⟨h1, h2⟩ := rD_list r k
  have hz : r.data.toList.length = r.size := rfl
  by_cases h : 32 * k ≤ r.size
  · obtain ⟨h3, h4⟩ := h1 h
    have h5 : (rD r k).size = r.size - 32 * k := by
      have := congrArg List.length h4
      rw [List.length_drop, hz] at this
      exact this
    unfold endOf
    rw [h3, h5]
    by_cases h6 : 0 < r.size - 32 * k
    · rw [if_pos h6]
      exact ⟨fun h => absurd h (by decide), fun h => by omega⟩
    · rw [if_neg h6]
      exact ⟨fun _ => by omega, fun _ => rfl⟩
  · have h3 := h2 (by omega)
    unfold endOf
    rw [h3]
    constructor
    · intro h4
      split at h4
      · cases h4
      · cases h4
    · intro h4
      omega
theorem sD_list (r : ByteArray) (k : Nat) (h : 32 * (k + 1) ≤ r.size) : digL (sD r k) = (r.data.toList.drop (32 * k)).take 32 := by
  obtain ⟨_, h2⟩ := (rD_list r k).1 (by omega)
  have hz : r.data.toList.length = r.size := rfl
  have h5 : (rD r k).data.toList.length = r.size - 32 * k := by rw [h2, List.length_drop, hz]
  have hg : ∀ i, i < 32 → (sD r k i) = (r.data.toList.drop (32 * k)).getD i 0 := fun i hi => by
    unfold sD dgOut
    have hsz : (rD r k).size = (rD r k).data.toList.length := rfl
    rw [if_pos (show 32 ≤ (rD r k).size by omega)]
    unfold byAt
    rw [h2]
  have hl : 32 ≤ (r.data.toList.drop (32 * k)).length := by rw [List.length_drop, hz]; omega
  generalize r.data.toList.drop (32 * k) = l at hg hl
  apply List.ext_getElem?
  intro i
  unfold digL
  by_cases hi : i < 32
  · rw [List.getElem?_map, List.getElem?_range hi, List.getElem?_take, if_pos hi, Option.map_some, hg i hi, List.getD_eq_getElem?_getD, List.getElem?_eq_getElem (show i < l.length by omega)]
    rfl
  · rw [List.getElem?_eq_none (by simp; omega), List.getElem?_eq_none (by rw [List.length_take]; omega)]
theorem sums_list (r : ByteArray) : ∀ k, 32 * k ≤ r.size → sumsL (sumsD r k) = r.data.toList.take (32 * k)
  | 0, _ => by rw [Nat.mul_zero, List.take_zero]; rfl
  | k + 1, h => by
    have h1 : sumsL (sumsD r k ++ [sD r k]) = sumsL (sumsD r k) ++ digL (sD r k) := by unfold sumsL; rw [List.flatMap_append]; simp
    rw [sumsD_next, h1, sums_list r k (by omega), sD_list r k h, show 32 * (k + 1) = 32 * k + 32 by omega, List.take_add]
theorem rest_list {r : ByteArray} {n : Nat} (h : r.size = 32 * (n + 2)) : r.data.toList = sumsL (sumsD r n) ++ (digL (sD r n) ++ digL (sD r (n + 1))) := by
  have hz : r.data.toList.length = r.size := rfl
  rw [sums_list r n (by omega), sD_list r n (by omega), sD_list r (n + 1) (by omega), show 32 * (n + 1) = 32 * n + 32 by omega, ← List.drop_drop,
    List.take_of_length_le (l := (r.data.toList.drop (32 * n)).drop 32) (by rw [List.length_drop, List.length_drop, hz]; omega), List.take_append_drop, List.take_append_drop]
theorem num_list {r : ByteArray} {m : Int} (h : nmOk r m = true) : r.data.toList = numL (nmOut r m : Int) ++ (nmRest r m).data.toList := by
  have ho := h
  unfold nmOk at ho
  simp only [Bool.and_eq_true, decide_eq_true_iff] at ho
  have hz : r.data.toList.length = r.size := rfl
  rw [nm_out_yes h, nm_rest_yes h, ByteArray.data_extract, Array.toList_extract, List.extract_eq_take_drop, List.take_of_length_le (l := r.data.toList.drop 4) (by rw [List.length_drop]; exact Nat.le_refl _)]
  have hv : numV (le4 r : Int) = le4 r := by
    have h1 := numV_ok (n := (le4 r : Int)) (num_ok (by omega) (by have := le4_lt r; omega))
    omega
  have hb : ∀ j, j < 4 → numF (le4 r : Int) j = byAt r j := fun j hj => by
    apply UInt8.toNat_inj.1
    unfold numF
    rw [hv, UInt8.toNat_ofNat']
    unfold le4
    have b0 := (byAt r 0).toNat_lt
    have b1 := (byAt r 1).toNat_lt
    have b2 := (byAt r 2).toNat_lt
    have b3 := (byAt r 3).toNat_lt
    rcases (show j = 0 ∨ j = 1 ∨ j = 2 ∨ j = 3 by omega) with rfl | rfl | rfl | rfl <;> (simp only [Nat.pow_zero, Nat.pow_succ, Nat.one_mul]; omega)
  rw [numL_four, hb 0 (by omega), hb 1 (by omega), hb 2 (by omega), hb 3 (by omega)]
  have hl : ∀ j, j < 4 → r.data.toList[j]? = some (byAt r j) := fun j hj => by
    unfold byAt
    rw [List.getD_eq_getElem?_getD, List.getElem?_eq_getElem (by omega)]
    rfl
  generalize r.data.toList = l at hl hz
  match l, hz, hl with
  | a :: b :: c :: d :: t, _, hl =>
    have h0 := hl 0 (by omega)
    have h1 := hl 1 (by omega)
    have h2 := hl 2 (by omega)
    have h3 := hl 3 (by omega)
    simp at h0 h1 h2 h3
    simp [h0, h1, h2, h3]
  | [], hz, _ => simp at hz; omega
  | [_], hz, _ => simp at hz; omega
  | [_, _], hz, _ => simp at hz; omega
  | [_, _, _], hz, _ => simp at hz; omega
theorem head_list {t : ByteArray} (h : headV limM t = true) : t.data.toList = headL (headT t) ++ (rsT limM t 4).data.toList := by
  have ok := fun i hi => num_list (low_ok (headV_in h i hi).1)
  have h0 := ok 0 (by omega)
  have h1 := ok 1 (by omega)
  have h2 := ok 2 (by omega)
  have h3 := ok 3 (by omega)
  show (rsT limM t 0).data.toList = (numL _ ++ (numL _ ++ (numL _ ++ numL _))) ++ _
  rw [h0]
  show numL _ ++ (rsT limM t 1).data.toList = _
  rw [h1]
  show numL _ ++ (numL _ ++ (rsT limM t 2).data.toList) = _
  rw [h2]
  show numL _ ++ (numL _ ++ (numL _ ++ (rsT limM t 3).data.toList)) = _
  rw [h3]
  simp only [List.append_assoc]
  rfl
end Mf
end Go.Proofs.YtgdckpldbofgfaaDoor
namespace Go.Proofs.YtgdckpldbofgfaaDoor
open Go.ChangeShapes Go.WideShapes Go.ChangeAt Go.RowKit Sh Pn Mf Cf

namespace Mf
theorem par_not {t : ByteArray} (h : okF t = false) : parM t = (zeroM, 5) := by
  rw [ok_same] at h
  have hn : ¬ 0 < needT t := fun h' => by rw [(need_pos t).1 h'] at h; cases h
  exact if_neg fun h' => hn h'.1
theorem par_yes {t : ByteArray} (h : okF t = true) : rsT limM t 4 = rsT freeM t 4 ∧ bsT limM t 4 = false ∧ 0 < needT t ∧ needT t ≤ 64 ∧ (endT t = 0 ↔ (rsT freeM t 4).size = 32 * (needT t + 2)) ∧
    headT t = ⟨vsT freeM t 0, vsT freeM t 1, vsT freeM t 2, vsT freeM t 3, [], fun _ => 0⟩ := by
  have h1 := h
  rw [ok_same] at h1
  obtain ⟨a, _, c⟩ := alike_all (.inr h)
  have b := bad_lim h1 4 (Nat.le_refl _)
  refine ⟨a, b, (need_pos t).2 h1, need_most _, ?_, ?_⟩
  · unfold endT
    rw [b, a]
    exact end_iff _ _
  · unfold headT
    rw [c 0 (by omega), c 1 (by omega), c 2 (by omega), c 3 (by omega)]
theorem par_text {t : ByteArray} (h : okF t = true) (hs : (rsT freeM t 4).size = 32 * (needT t + 2)) : (textR (readT t) = t.data.toList) ↔ same (rootT t) (rootF (readT t).sums) = true := by
  have h1 := h
  rw [ok_same] at h1
  obtain ⟨a, _, _, _, _, _⟩ := par_yes h
  have hr : rsT limM t 4 = rsT freeM t 4 := a
  have ht := head_list h1
  have hrl := rest_list (r := rsT limM t 4) (n := needT t) (by rw [hr]; exact hs)
  rw [ht, hrl]
  have e1 : textR (readT t) = headL (headT t) ++ (sumsL (sumsD (rsT limM t 4) (needT t)) ++ (digL (sD (rsT limM t 4) (needT t)) ++ digL (rootF (readT t).sums))) := rfl
  rw [e1]
  have e2 : rootT t = sD (rsT limM t 4) (needT t + 1) := rfl
  rw [← e2]
  generalize rootF (readT t).sums = R
  generalize rootT t = Q
  constructor
  · intro h2
    have h3 := List.append_cancel_left (List.append_cancel_left (List.append_cancel_left h2))
    rw [same_iff]
    intro j hj
    have h4 := congrArg (fun l => l[j]?) h3
    unfold digL at h4
    simp only [List.getElem?_map, List.getElem?_range hj, Option.map_some, Option.some.injEq] at h4
    exact h4.symm
  · intro h2
    have h3 : digL R = digL Q := by
      unfold digL
      exact List.map_congr_left fun j hj => ((same_iff _ _).1 h2 j (List.mem_range.1 hj)).symm
    rw [h3]
theorem dig_take (r : ByteArray) (k : Nat) (h : 32 ≤ (rD r k).size) : digF (byAt (tkOut (rD r k) 32)) = digF (sD r k) := by
  refine vals_congr fun j hj => ?_
  unfold sD dgOut
  rw [if_pos h, tk_out_yes h, byAt_take _ _ _ hj]
theorem rD_size {r : ByteArray} {k : Nat} (h : 32 * k ≤ r.size) : (rD r k).size = r.size - 32 * k := by
  have h3 := congrArg List.length ((rD_list r k).1 h).2
  rw [List.length_drop] at h3
  exact h3
/-- The document's reader on its way: j sums are read, k laid. -/
structure Rads (t e : TypeId) (w : World) (eb mb base : Nat) (r : ByteArray) (m : Man) (j k : Nat) (A : Option Addr) (c : Nat) (W : World) : Prop where
  eye : RefAt W eb (rD r j) false
  out : At W w.heap.size t zeroM none 0
  grow : Grow base mb t e { m with sums := sumsD r k } A c W
  below : Below w.heap.size w W
  l0 : w.heap.size < eb
  l1 : eb < mb
section
variable {t e : TypeId} {w W W' : World} {eb mb base : Nat} {r : ByteArray} {m : Man} {j k : Nat} {A : Option Addr} {c : Nat}
theorem Rads.step (h : Rads t e w eb mb base r m j k A c W) (hb : Below W.heap.size W W') : Rads t e w eb mb base r m j k A c W' :=
  ⟨h.eye.of_block (hb.block _ h.eye.lt), h.out.keep hb, h.grow.below hb, h.below.trans (hb.mono h.below.size), h.l0, h.l1⟩
theorem Rads.read (h : Rads t e w eb mb base r m j k A c W) (hs : 32 ≤ (rD r j).size) (he : RefAt W' eb (tkRest (rD r j) 32) (tkBad (rD r j) false 32)) (ho : Only W W' eb) : Rads t e w eb mb base r m (j + 1) k A c W' := by
  have h0 := h.l0
  have h1 := h.l1
  have h2 := h.grow.lt
  rw [tk_bad_yes false hs] at he
  exact ⟨he, h.out.of_block (ho.block _ h.out.lt (by omega)), h.grow.only ho (by omega) (by omega), h.below.trans (ho.below (by omega) h.below.size), h0, h1⟩
theorem Rads.added (h : Rads t e w eb mb base r m (k + 1) k A c W) {wz : World} {g cap : Nat} (hg : Grow base mb t e { m with sums := sumsD r k ++ [sD r k] } (some ⟨g, 0, none⟩) cap (wz.setCell ⟨mb, 4, none⟩ (.slice (some ⟨g, 0, none⟩) (k + 1) cap))) (hb : Below base W wz) :
    Rads t e w eb mb base r m (k + 1) (k + 1) (some ⟨g, 0, none⟩) cap (wz.setCell ⟨mb, 4, none⟩ (.slice (some ⟨g, 0, none⟩) (k + 1) cap)) := by
  have h0 := h.l0
  have h1 := h.l1
  have h2 := h.grow.lt
  rw [← sumsD_next] at hg
  refine ⟨h.eye.of_block ((heap_setCell_other _ _ _ _ (by show eb ≠ mb; omega)).trans (hb.block _ (by omega))), h.out.of_block ((heap_setCell_other _ _ _ _ (by show w.heap.size ≠ mb; omega)).trans (hb.block _ (by omega))), hg, ?_, h0, h1⟩
  exact (h.below.trans (hb.mono (by omega))).setCell (p := ⟨mb, 4, none⟩) (by show w.heap.size ≤ mb; omega) _
theorem Rads.res (h : Rads t e w eb mb base r m j k A c W) (f : Nat → UInt8) : Rads t e w eb mb base r { m with res := f } j k A c (W.setCells mb 5 (digF f).toList) := by
  have h0 := h.l0
  have h1 := h.l1
  refine ⟨h.eye.of_block (setCells_other (by omega) _ _ _), h.out.of_block (setCells_other (by omega) _ _ _), ⟨h.grow.at_.setRes f, ?_, h.grow.lt, by rw [setCells_size]; exact h.grow.low⟩, setCells_below (by omega) _ _ _ h.below, h0, h1⟩
  exact own_only h.grow.row (setCells_only (.inl rfl) _ _ _ (Only.refl W mb)) h.grow.lt
theorem Rads.sinOut (h : Rads t e w eb mb base r m j k A c W) (cs : Array Value) : SIn (W.setRow w.heap.size cs) A c (sumsD r k) := by
  have h0 := h.l0
  have h1 := h.l1
  have h2 := h.grow.lt
  exact (h.grow.only ((Only.refl W w.heap.size).setRow (.inl rfl) cs) (by omega) (by omega)).sin
end
end Mf
theorem zeroMan2 : Tryd.prog.built 30 [] = some (manA zeroM none 0) := by kernel_rfl
theorem headMan2 (b v s c : Int) : Tryd.prog.built 30 [(0, .int .i64 b), (1, .int .i64 v), (2, .int .i64 s), (3, .int .i64 c)] = some (manA ⟨b, v, s, c, [], fun _ => 0⟩ none 0) := by kernel_rfl
end Go.Proofs.YtgdckpldbofgfaaDoor
