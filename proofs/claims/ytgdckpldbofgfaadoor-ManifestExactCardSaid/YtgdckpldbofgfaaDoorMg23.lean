/-
  The document's manifest: Bytes. Conditions: the sums stand behind the slice, at most 70; the numbers are ints.
  The law's own form (a manifest, in the document's form). Condition: the sums stand behind the slice, at most 1000.
  The law's own alike: two that are the same are alike. Condition: the sums stand behind the slices, at most 1000.
  The document's manifest: Count, Length, Part. Condition: none (a patch of any length).
-/
import Derived.Test.YtgdckpldbofgfaaDoorMg18
import Derived.Test.YtgdckpldbofgfaaDoorMg19
import Derived.Test.YtgdckpldbofgfaaDoorMg20
import Derived.Test.YtgdckpldbofgfaaDoorMg22
import Derived.Test.YtgdckpldbofgfaaDoorMg13
import Derived.Test.YtgdckpldbofgfaaDoorMg14
import Derived.Test.YtgdckpldbofgfaaDoorMg10
import Derived.Test.YtgdckpldbofgfaaDoorMg9
set_option maxRecDepth 100000
namespace Go.Proofs.YtgdckpldbofgfaaDoor
open Go.ChangeShapes Go.WideShapes Go.ChangeAt Go.RowKit Sh Pn Mf

set_option maxRecDepth 100000 in
set_option maxHeartbeats 800000 in
theorem refTree_none (A : Option Addr) (cap : Nat) (w : World) :
    Calls Tryd.prog 19 #[.slice A 0 cap] w fun e w' => e = .returned (.agg (digF (sumF []))) ∧ Below w.heap.size w w' := by
  go_enter Tryd.func19, Tryd.ntmps19
  go_wp2_with (fail)
  refine (refOf_any ⟨#[]⟩ _ (by decide)).mono ?_
  rintro e w1 ⟨rfl, hb1⟩
  have hres : w1.rowIs w.heap.size 23 32 (fun _ => .int .u8 0) := (row_alloc _ rfl (by kernel_rfl)).of_block (hb1.block _ (by simp))
  have hB1 : Below w.heap.size w w1 := ((Below.refl _ _).alloc (Nat.le_refl _) _).trans (hb1.mono (by simp))
  have hfin := below_setRow' hB1 (Nat.le_refl _) (digF (sumF []))
  have H2 := Lib.hid (row_block hres)
  have H3 := Lib.hid (row_block (row_setRow (g := fun j => Value.int .u8 ((sumF [] j).toNat : Int)) hres))
  clear hres hb1 hB1
  rw [show digV (⟨#[]⟩ : ByteArray).data.toList = digF (sumF []) from rfl]
  go_wp2_with (with_reducible refine wpList_store_row rfl 23 _ _ rfl _ _ rfl rfl 23 _ H2.out (hiRefF _) (hzDig _) (hoDig _) ?_)
  refine bodyPost_ret (results_cell_row rfl _ _ _ 23 _ _ _ rfl H3.out Tryd.underlying23 rfl (hiRef _)) rfl ?_
  exact ⟨rfl, hfin⟩
theorem rootR_any (w : World) (L : List (Nat → UInt8)) (A : Option Addr) (n cap : Nat) (hn : L.length = n) (hnb : n ≤ 1000) (hS : SIn w A cap L) :
    Calls Tryd.prog 19 #[.slice A n cap] w fun e w' => e = .returned (.agg (digF (rootF L))) ∧ Below w.heap.size w w' := by
  subst hn
  by_cases h0 : 0 < L.length
  · obtain ⟨pb, po, rfl, hd⟩ := hS.2 h0
    rw [rootF_pos h0]
    exact refTree_any w L pb po _ cap rfl h0 hnb hS.1 hd
  · have hl : L.length = 0 := by omega
    rw [rootF_nil hl, hl]
    exact refTree_none A cap w
namespace Mf
def textR (m : Man) : List UInt8 := headL m ++ (sumsL m.sums ++ (digL m.res ++ digL (rootF m.sums)))
theorem bapp (a b : List UInt8) : (⟨a.toArray⟩ : ByteArray) ++ ⟨b.toArray⟩ = ⟨(a ++ b).toArray⟩ := by
  apply ByteArray.ext
  rw [ByteArray.data_append]
  simp
theorem sumsL_take (L : List (Nat → UInt8)) (q : Nat) (h : q < L.length) : sumsL (L.take (q + 1)) = sumsL (L.take q) ++ digL (L.getD q fun _ => 0) := by
  rw [List.take_succ_eq_append_getElem h]
  unfold sumsL
  rw [List.flatMap_append, List.getD_eq_getElem?_getD, List.getElem?_eq_getElem h]
  simp
end Mf
theorem fourArr (a b c d : Int) : Tryd.prog.built 75 [(0, .int .i64 a), (1, .int .i64 b), (2, .int .i64 c), (3, .int .i64 d)] = some #[.int .i64 a, .int .i64 b, .int .i64 c, .int .i64 d] := by kernel_rfl
set_option maxRecDepth 100000 in
set_option maxHeartbeats 3200000 in
theorem ref20_bytes (w : World) (m : Man) (A : Option Addr) (k : Nat) (hS : SIn w A k m.sums) (hn : m.sums.length ≤ 70) (hw : ∀ j, -9223372036854775808 ≤ nthM m j ∧ nthM m j ≤ 9223372036854775807) :
    Calls Tryd.prog 22 #[.agg (manA m A k)] w fun e w' => e = .returned (.string ⟨(textR m).toArray⟩) ∧ Below w.heap.size w w' := by
  have HA := Lib.hid (at_new w 30 m A k)
  have HB := Lib.hid ((Below.refl w.heap.size w).alloc (Nat.le_refl _) (.cells (manA m A k) 30))
  have e0 := HA.out.base
  have e1 := HA.out.ver
  have e2 := HA.out.size
  have e3 := HA.out.chunk
  have HSI := Lib.hid hS
  have HN := Lib.hid hn
  have HW := Lib.hid hw
  have HNT := Lib.hid (show ∀ j, j < 4 → (#[.int .i64 m.b, .int .i64 m.v, .int .i64 m.s, .int .i64 m.c] : Array Value)[j]? = some (.int .i64 (nthM m j)) from fun j hj => by
    rcases (show j = 0 ∨ j = 1 ∨ j = 2 ∨ j = 3 by omega) with rfl | rfl | rfl | rfl <;> rfl)
  clear hS hn hw
  go_enter Tryd.func22, Tryd.ntmps22
  go_upto_region 3 with (refine wpList_build_to rfl 75 #[(0, .tmp 11), (1, .tmp 13), (2, .tmp 15), (3, .tmp 17)] rfl [(0, .int .i64 m.b), (1, .int .i64 m.v), (2, .int .i64 m.s), (3, .int .i64 m.c)] rfl _ (fourArr m.b m.v m.s m.c) ?_)
  refine gen_world (fun W => W.heap[w.heap.size + 1]? = some (.cells #[.int .i64 m.b, .int .i64 m.v, .int .i64 m.s, .int .i64 m.c] 75 (0, 0)) ∧ At W w.heap.size 30 m A k ∧ Below w.heap.size w W) ?_ ?_
  · refine ⟨?_, HA.out.keep ((Below.refl _ _).alloc (Nat.le_refl _) _), HB.out.alloc HB.out.size _⟩
    have := heap_alloc_new (w.alloc (.cells (manA m A k) 30)) (.cells #[.int .i64 m.b, .int .i64 m.v, .int .i64 m.s, .int .i64 m.c] 75)
    simpa using this
  rintro w1 ⟨c1, a1, b1⟩
  have C1 := Lib.hid c1
  have A1 := Lib.hid a1
  have B1 := Lib.hid b1
  clear c1 a1 b1 e0 e1 e2 e3 HA HB
  go_wp2_with (fail)
  go_loopw [3, 5] (fun s i wx => ∃ q : Nat, q ≤ 4 ∧ s = .string ⟨(numsL (nthM m) q).toArray⟩ ∧ i = .int .i64 (q : Int) ∧ Below w1.heap.size w1 wx) (fun _ i _ => match i with | .int _ q => 5 - q.toNat | _ => 0)
  case atStart => exact ⟨0, by omega, rfl, rfl, Below.refl _ _⟩
  case round =>
    obtain ⟨q, hq, rfl, rfl, hb⟩ := hrel
    by_cases hlt : q < 4
    · have x0 : (q : Int) < 4 := by omega
      have x1 : decide ((q : Int) < 4) = true := decide_eq_true x0
      have x4 : 0 ≤ (q : Int) := by omega
      have x5 := IntWalk.wrap64_in ((q : Int) + 1) (by omega)
      have c0 : wr.cell? ⟨w.heap.size + 1, q, none⟩ = some (.int .i64 (nthM m q)) := by
        rw [cell_of_row _ _ _ _ _ _ ((hb.block _ (Array.getElem?_eq_some_iff.1 C1.out).1).trans C1.out)]
        exact HNT.out q hlt
      have HNX := Lib.hid (show (⟨(numsL (nthM m) q).toArray⟩ : ByteArray) ++ ⟨(numL (nthM m q)).toArray⟩ = ⟨(numsL (nthM m) (q + 1)).toArray⟩ by rw [bapp, numsL_next])
      have HNU := Lib.hid (fun W => refw_num W (nthM m q) (HW.out q).1 (HW.out q).2)
      have s0 : (⟨(numsL (nthM m) q).toArray⟩ : ByteArray).size = 4 * q := bsize (numsL_length _ _)
      have s1 : (⟨(numL (nthM m q)).toArray⟩ : ByteArray).size = 4 := bsize (numL_length _)
      have s2 : ¬ 9223372036854775807 < (⟨(numsL (nthM m) q).toArray⟩ : ByteArray).size + (⟨(numL (nthM m q)).toArray⟩ : ByteArray).size := by rw [s0, s1]; omega
      have HBQ := Lib.hid hb
      clear s0 s1 hb
      generalize (⟨(numsL (nthM m) q).toArray⟩ : ByteArray) = X at *
      generalize (⟨(numL (nthM m q)).toArray⟩ : ByteArray) = Y at *
      generalize nthM m q = Z at *
      generalize numOk Z = zb at *
      go_wp2_with (fail)
      refine (HNU.out _).mono ?_
      rintro e w2 ⟨rfl, b2⟩
      have HB2 := Lib.hid (HBQ.out.trans (b2.mono HBQ.out.size))
      clear b2
      go_wp2_with (fail)
      exact ⟨⟨q + 1, by omega, by rw [HNX.out], rfl, HB2.out⟩, by show 5 - ((q : Int) + 1).toNat < 5 - (q : Int).toNat; omega⟩
    · have x0 : ¬ (q : Int) < 4 := by omega
      have x1 : decide ((q : Int) < 4) = false := decide_eq_false x0
      have hq4 : q = 4 := by omega
      have HHD := Lib.hid (show numsL (nthM m) q = headL m ++ sumsL (m.sums.take 0) by rw [hq4, nth_head, List.take_zero]; simp [sumsL])
      have HBQ := Lib.hid (B1.out.trans (hb.mono B1.out.size))
      have HAQ := Lib.hid (A1.out.keep hb)
      clear hb hq4
      rw [HHD.out]
      go_wp2_with (fail)
      go_loopw [3, 8] (fun s i wx => ∃ j : Nat, j ≤ m.sums.length ∧ s = .string ⟨(headL m ++ sumsL (m.sums.take j)).toArray⟩ ∧ i = .int .i64 (j : Int) ∧ At wx w.heap.size 30 m A k ∧ Below w.heap.size w wx) (fun _ i _ => match i with | .int _ q => 71 - q.toNat | _ => 0)
      case atStart => exact ⟨0, by omega, rfl, rfl, HAQ.out, HBQ.out⟩
      case round =>
        clear HBQ HAQ x0 x1 hlt
        obtain ⟨j, hj, rfl, rfl, ha, hb⟩ := hrel
        have e4 := ha.sums
        have HA := Lib.hid ha
        have HB := Lib.hid hb
        clear ha hb
        have hn := HN.out
        by_cases hlt : j < m.sums.length
        · have x0 : (j : Int) < (m.sums.length : Int) := by omega
          have x1 : decide ((j : Int) < (m.sums.length : Int)) = true := decide_eq_true x0
          have x2 : decide (j < m.sums.length) = true := decide_eq_true hlt
          have x4 : 0 ≤ (j : Int) := by omega
          have x5 := IntWalk.wrap64_in ((j : Int) + 1) (by omega)
          obtain ⟨pb, po, rfl, hpb, hf⟩ := HSI.out.at hlt
          have HNX := Lib.hid (show (⟨(headL m ++ sumsL (m.sums.take j)).toArray⟩ : ByteArray) ++ ⟨(digL (m.sums.getD j fun _ => 0)).toArray⟩ = ⟨(headL m ++ sumsL (m.sums.take (j + 1))).toArray⟩ by rw [bapp, sumsL_take _ _ hlt, List.append_assoc])
          have hcv := fun (cc : Nat) => show (convert 78 9 (.slice (some ⟨pb, po + j * 32, none⟩) 32 cc)).run Tryd.prog wr = .ok (.string ⟨(digL (m.sums.getD j fun _ => 0)).toArray⟩) wr from
            run_bytes_string wr ⟨pb, po + j * 32, none⟩ 32 cc (m.sums.getD j fun _ => 0) (fun i hi => by
              rw [Addr.add_lit]
              exact (HB.out.cell (p := ⟨pb, po + j * 32 + i, none⟩) hpb).trans (hf i _ (by rw [Array.getElem?_toList]; exact vals_get 32 _ i hi)))
          have s0 : (⟨(headL m ++ sumsL (m.sums.take j)).toArray⟩ : ByteArray).size = 16 + 32 * j := bsize (by rw [List.length_append, headL_length, sumsL_length, List.length_take]; omega)
          have s1 : (⟨(digL (m.sums.getD j fun _ => 0)).toArray⟩ : ByteArray).size = 32 := bsize (digL_length _)
          have s2 : ¬ 9223372036854775807 < (⟨(headL m ++ sumsL (m.sums.take j)).toArray⟩ : ByteArray).size + (⟨(digL (m.sums.getD j fun _ => 0)).toArray⟩ : ByteArray).size := by rw [s0, s1]; omega
          have HLT := Lib.hid hlt
          clear s0 s1 hf hpb hn
          generalize (⟨(headL m ++ sumsL (m.sums.take j)).toArray⟩ : ByteArray) = X at *
          generalize (⟨(digL (m.sums.getD j fun _ => 0)).toArray⟩ : ByteArray) = Y at *
          go_wp2_with (fail)
          exact ⟨⟨j + 1, HLT.out, by rw [HNX.out], by rw [x5]; rfl, HA.out, HB.out⟩, by rw [x5]; clear x5; have := HLT.out; have := HN.out; show 71 - ((j : Int) + 1).toNat < 71 - (j : Int).toNat; omega⟩
        · have x0 : ¬ (j : Int) < (m.sums.length : Int) := by omega
          have x1 : decide ((j : Int) < (m.sums.length : Int)) = false := decide_eq_false x0
          have x2 : decide (j < m.sums.length) = false := decide_eq_false hlt
          have HTK := Lib.hid (show m.sums.take j = m.sums from List.take_of_length_le (by omega))
          have HRT := Lib.hid (rootR_any wr m.sums A m.sums.length k rfl (by omega) (HSI.out.keep HB.out))
          rw [HTK.out]
          clear hn
          go_wp2_with (fail)
          refine HRT.out.mono ?_
          rintro e w2 ⟨rfl, b2⟩
          have HA2 := Lib.hid (HA.out.keep b2)
          have HB2 := Lib.hid (HB.out.trans (b2.mono HB.out.size))
          have HNW := Lib.hid (show ∀ o, (w2.alloc o).heap[w2.heap.size]? = some o from fun o => heap_alloc_new w2 o)
          have hxb := fun cc => show Below w2.heap.size w2 ((w2.alloc (.cells cc 23)).setRow w2.heap.size (digF (rootF m.sums))) from below_setRow' ((Below.refl _ _).alloc (Nat.le_refl _) _) (Nat.le_refl _) _
          have HXB := Lib.hid hxb
          have HXR := Lib.hid (show ∀ cc, ((w2.alloc (.cells cc 23)).setRow w2.heap.size (digF (rootF m.sums))).heap[w2.heap.size]? = some (.cells (digF (rootF m.sums)) 23 (0, 0)) from fun cc => setRow_heap _ _ _ _ _ _ (heap_alloc_new w2 _))
          clear b2 hxb e4 HA
          go_upto_region 13 with (with_reducible refine wpList_store_row rfl 23 _ _ rfl _ (digF (rootF m.sums)) rfl rfl 23 _ (HNW.out _) (hiRD _) (by rw [digF_size]; kernel_rfl) (hoDig _) ?_)
          refine gen_world (fun W => Below w2.heap.size w2 W ∧ W.heap[w2.heap.size]? = some (.cells (digF (rootF m.sums)) 23 (0, 0))) ⟨HXB.out _, HXR.out _⟩ ?_
          rintro w3 ⟨b3, x3⟩
          have HA3 := HA2.out.keep b3
          have HB3 := Lib.hid (HB2.out.trans (b3.mono HB2.out.size))
          clear HNW HXB HXR
          generalize w2.heap.size = rb at *
          have hc1 := fun (nn cc : Nat) => show (convert 78 9 (.slice (some ⟨w.heap.size, 5, none⟩) 32 cc)).run Tryd.prog (w3.drewN nn) = .ok (.string ⟨(digL m.res).toArray⟩) (w3.drewN nn) from
            run_bytes_string (w3.drewN nn) ⟨w.heap.size, 5, none⟩ 32 cc m.res (fun i hi => by
              rw [Addr.add_lit]
              exact HA3.res i _ (by rw [Array.getElem?_toList]; exact vals_get 32 _ i hi))
          have hc2 := fun (nn cc : Nat) => show (convert 78 9 (.slice (some ⟨rb, 0, none⟩) 32 cc)).run Tryd.prog (w3.drewN nn) = .ok (.string ⟨(digL (rootF m.sums)).toArray⟩) (w3.drewN nn) from
            run_bytes_string (w3.drewN nn) ⟨rb, 0, none⟩ 32 cc (rootF m.sums) (fun i hi => by
              rw [Addr.add_lit, Nat.zero_add]
              show w3.cell? _ = _
              rw [cell_of_row _ _ _ _ _ _ x3]
              exact vals_get 32 _ i hi)
          have HTX := Lib.hid (show ((⟨(headL m ++ sumsL m.sums).toArray⟩ : ByteArray) ++ ⟨(digL m.res).toArray⟩) ++ ⟨(digL (rootF m.sums)).toArray⟩ = ⟨(textR m).toArray⟩ by
            rw [bapp, bapp]
            unfold textR
            simp only [List.append_assoc])
          have s0 : (⟨(headL m ++ sumsL m.sums).toArray⟩ : ByteArray).size = 16 + 32 * m.sums.length := bsize (by rw [List.length_append, headL_length, sumsL_length])
          have s1 : (⟨(digL m.res).toArray⟩ : ByteArray).size = 32 := bsize (digL_length _)
          have s2 : (⟨(digL (rootF m.sums)).toArray⟩ : ByteArray).size = 32 := bsize (digL_length _)
          have hn := HN.out
          clear HA3 x3 b3
          generalize (⟨(headL m ++ sumsL m.sums).toArray⟩ : ByteArray) = X at *
          generalize (⟨(digL m.res).toArray⟩ : ByteArray) = Y at *
          generalize (⟨(digL (rootF m.sums)).toArray⟩ : ByteArray) = Z at *
          have s3 : ¬ 9223372036854775807 < X.size + Y.size := by omega
          have s4 : ¬ 9223372036854775807 < X.size + Y.size + Z.size := by omega
          clear s0 s1 s2 hn x0 x1 x2
          go_quiet (fail)
          have HQ := Lib.hid (below_drewN HB3.out nq)
          go_wp2_with (fail)
          refine bodyPost_ret (results_tmp rfl _ _ _) rfl ?_
          rw [← HTX.out]
          exact ⟨rfl, HQ.out⟩
end Go.Proofs.YtgdckpldbofgfaaDoor
namespace Go.Proofs.YtgdckpldbofgfaaDoor
open Go.ChangeShapes Go.WideShapes Go.ChangeAt Go.RowKit Sh Pn Mf

namespace Mf
/-- A manifest in the document's form, on its way: q sums are there. -/
structure Forms (t t2 e : TypeId) (w : World) (ub base : Nat) (m : Man) (A : Option Addr) (k q : Nat) (B : Option Addr) (c : Nat) (W : World) : Prop where
  src : At W w.heap.size t m A k
  out : At W (w.heap.size + 1) t2 zeroM none 0
  grow : Grow base ub t2 e { m with sums := m.sums.take q } B c W
  below : Below w.heap.size w W
  l1 : w.heap.size + 1 < ub
section
variable {t t2 e : TypeId} {w W W' : World} {ub base : Nat} {m : Man} {A : Option Addr} {k q : Nat} {B : Option Addr} {c : Nat}
theorem Forms.step (h : Forms t t2 e w ub base m A k q B c W) (hb : Below W.heap.size W W') : Forms t t2 e w ub base m A k q B c W' :=
  ⟨h.src.keep hb, h.out.keep hb, h.grow.below hb, h.below.trans (hb.mono h.below.size), h.l1⟩
theorem Forms.added (h : Forms t t2 e w ub base m A k q B c W) (hq : q < m.sums.length) {wz : World} {g cap : Nat} (hg : Grow base ub t2 e { m with sums := m.sums.take q ++ [m.sums.getD q fun _ => 0] } (some ⟨g, 0, none⟩) cap (wz.setCell ⟨ub, 4, none⟩ (.slice (some ⟨g, 0, none⟩) (q + 1) cap))) (hb : Below base W wz) :
    Forms t t2 e w ub base m A k (q + 1) (some ⟨g, 0, none⟩) cap (wz.setCell ⟨ub, 4, none⟩ (.slice (some ⟨g, 0, none⟩) (q + 1) cap)) := by
  have h1 := h.l1
  have h2 := h.grow.lt
  have e1 : m.sums.take (q + 1) = m.sums.take q ++ [m.sums.getD q fun _ => 0] := by
    rw [List.take_succ_eq_append_getElem hq, List.getD_eq_getElem?_getD, List.getElem?_eq_getElem hq]
    rfl
  rw [← e1] at hg
  refine ⟨h.src.of_block ((heap_setCell_other _ _ _ _ (by show w.heap.size ≠ ub; omega)).trans (hb.block _ (by omega))), h.out.of_block ((heap_setCell_other _ _ _ _ (by show w.heap.size + 1 ≠ ub; omega)).trans (hb.block _ (by omega))), hg, ?_, h1⟩
  exact (h.below.trans (hb.mono (by omega))).setCell (p := ⟨ub, 4, none⟩) (by show w.heap.size ≤ ub; omega) _
theorem Forms.sinOut (h : Forms t t2 e w ub base m A k q B c W) (cs : Array Value) : SIn (W.setRow (w.heap.size + 1) cs) B c (m.sums.take q) := by
  have h1 := h.l1
  have h2 := h.grow.lt
  exact (h.grow.only ((Only.refl W (w.heap.size + 1)).setRow (.inl rfl) cs) (by omega) (by omega)).sin
end
end Mf
theorem headManR (b v s c : Int) (f : Nat → UInt8) : Tryd.prog.built 30 [(0, .int .i64 b), (1, .int .i64 v), (2, .int .i64 s), (3, .int .i64 c), (5, .agg (digF f))] = some (manA ⟨b, v, s, c, [], f⟩ none 0) := by kernel_rfl
set_option maxRecDepth 100000 in
set_option maxHeartbeats 6400000 in
theorem law20_form (w : World) (m : Man) (A : Option Addr) (k : Nat) (hS : SIn w A k m.sums) (hn : m.sums.length ≤ 1000) :
    Calls Tryd.prog 8 #[.agg (manA m A k)] w fun e w' => ∃ B c, e = .returned (.agg (manA m B c)) ∧ SIn w' B c m.sums ∧ Below w.heap.size w w' := by
  have HI := Lib.hid (fun m A k => manI2 m A k)
  have HO := Lib.hid (fun m A k => manA_one m A k)
  have HSI := Lib.hid hS
  have HN := Lib.hid hn
  have HIM := Lib.hid (digIL m.res)
  have HBU := Lib.hid (headManR m.b m.v m.s m.c m.res)
  obtain ⟨h, hh⟩ : ∃ h : Man, h = ⟨m.b, m.v, m.s, m.c, [], m.res⟩ := ⟨_, rfl⟩
  rw [← hh] at HBU
  have HH := Lib.hid hh
  clear hS hn hh
  go_enter Tryd.func8, Tryd.ntmps8
  go_upto_region 1 with (fail)
  refine gen_world (fun W => At W w.heap.size 26 m A k ∧ At W (w.heap.size + 1) 30 zeroM none 0 ∧ Below w.heap.size w W) ?_ ?_
  · refine ⟨(at_new w _ m A k).keep ((Below.refl _ _).alloc (Nat.le_refl _) _), ⟨?_⟩, ((Below.refl _ _).alloc (Nat.le_refl _) _).alloc (by simp) _⟩
    have := heap_alloc_new (w.alloc (.cells (manA m A k) 26)) (.cells (manA zeroM none 0) 30)
    simp only [World.size_alloc] at this
    exact this
  rintro w1 ⟨a1, o1, b1⟩
  have e0 := a1.base
  have e1 := a1.ver
  have e2 := a1.size
  have e3 := a1.chunk
  have HRES := Lib.hid a1.res
  have HNW := Lib.hid (show ∀ o, (w1.alloc o).heap[w1.heap.size]? = some o from fun o => heap_alloc_new w1 o)
  have HF := Lib.hid (show ∀ cc, Forms 26 30 23 w w1.heap.size (w1.heap.size + 1) m A k 0 none 0 ((w1.alloc (.cells cc 30)).setRow w1.heap.size (manA h none 0)) from fun cc => by
    have hb : Below w1.heap.size w1 ((w1.alloc (.cells cc 30)).setRow w1.heap.size (manA h none 0)) := below_setRow' ((Below.refl _ _).alloc (Nat.le_refl _) _) (Nat.le_refl _) _
    have hs : ((w1.alloc (.cells cc 30)).setRow w1.heap.size (manA h none 0)).heap.size = w1.heap.size + 1 := by simp [World.setRow]
    refine ⟨a1.keep hb, o1.keep hb, ?_, b1.trans (hb.mono b1.size), o1.lt⟩
    have hh : { m with sums := m.sums.take 0 } = h := by rw [HH.out, List.take_zero]
    rw [hh]
    exact grow_new ⟨setRow_heap _ _ _ _ _ _ (heap_alloc_new w1 _)⟩ (by rw [HH.out]) _ hs.symm)
  clear a1 o1 b1
  go_upto_region 2 with (first
    | (with_reducible refine wpList_load_mid rfl 24 _ rfl w.heap.size 5 rfl (digF m.res).toList _ HRES.out Tryd.underlying24 rfl HIM.out ?_)
    | (refine wpList_build_to rfl 30 #[(0, .tmp 6), (1, .tmp 8), (2, .tmp 10), (3, .tmp 12), (5, .tmp 14)] rfl [(0, .int .i64 m.b), (1, .int .i64 m.v), (2, .int .i64 m.s), (3, .int .i64 m.c), (5, .agg (digF m.res))] rfl _ HBU.out ?_)
    | (with_reducible refine wpList_store_row rfl 30 _ _ rfl _ (manA h none 0) rfl rfl 30 _ (HNW.out _) (HI.out h none 0) (by rw [manA_size]; kernel_rfl) (HO.out h none 0) ?_))
  refine gen_world (fun W => Forms 26 30 23 w w1.heap.size (w1.heap.size + 1) m A k 0 none 0 W) (HF.out _) ?_
  rintro w2 f2
  have F2 := Lib.hid f2
  clear f2 HF HNW HRES e0 e1 e2 e3
  generalize w1.heap.size = ub at *
  go_wp2_with (fail)
  go_loopw [4] (fun i wr => ∃ (q : Nat) (B : Option Addr) (c : Nat), i = .int .i64 (q : Int) ∧ q ≤ m.sums.length ∧ Forms 26 30 23 w ub (ub + 1) m A k q B c wr) (fun i _ => match i with | .int _ q => m.sums.length - q.toNat | _ => 0)
  case atStart => exact ⟨0, none, 0, rfl, Nat.zero_le _, F2.out⟩
  case round =>
    clear F2
    obtain ⟨q, B, c, rfl, hq, hr⟩ := hrel
    have HR := Lib.hid hr
    have e4 := hr.src.sums
    clear hr
    have hn := HN.out
    by_cases hlt : q < m.sums.length
    · have x0 : (q : Int) < (m.sums.length : Int) := by omega
      have x1 : decide ((q : Int) < (m.sums.length : Int)) = true := decide_eq_true x0
      have x2 : decide (q < m.sums.length) = true := decide_eq_true hlt
      have x4 : 0 ≤ (q : Int) := by omega
      have x3 := IntWalk.wrap64_in ((q : Int) + 1) (by omega)
      have HLT := Lib.hid hlt
      obtain ⟨pb, po, rfl, hpb, hf⟩ := HSI.out.at hlt
      have hql : (m.sums.take q).length = q := by rw [List.length_take]; omega
      have HQL := Lib.hid hql
      have HSS := Lib.hid (fun (W : World) (hh : Forms 26 30 23 w ub (ub + 1) m (some ⟨pb, po, none⟩) k q B c W) => show W.cell? ⟨ub, 4, none⟩ = some (.slice B q c) ∧ W.cell? ⟨w.heap.size, 4, none⟩ = some (.slice (some ⟨pb, po, none⟩) m.sums.length k) ∧ W.rangeAt pb (po + q * 32) (digF (m.sums.getD q fun _ => 0)).toList from by
        have h1 := hh.grow.at_.sums
        rw [show ({ m with sums := m.sums.take q } : Man).sums.length = q from hql] at h1
        exact ⟨h1, hh.src.sums, fun j u hj => (hh.below.cell (p := ⟨pb, po + q * 32 + j, none⟩) hpb).trans (hf j u hj)⟩)
      have R0 := Lib.hid (HR.out.step (below_drewN (Below.refl wr.heap.size wr) 1))
      have k0 := HSS.out _ R0.out
      have HAD := Lib.hid (fun (W : World) (hh : Forms 26 30 23 w ub (ub + 1) m (some ⟨pb, po, none⟩) k q B c W) (wz : World) (g cap : Nat) hg hb => hh.added HLT.out (wz := wz) (g := g) (cap := cap) hg hb)
      have HID := Lib.hid (digIL (m.sums.getD q fun _ => 0))
      have HWZ := Lib.hid (fun (wz : World) (hb : Below (ub + 1) wr.drew wz) => show wz.cell? ⟨w.heap.size, 4, none⟩ = some (.slice (some ⟨pb, po, none⟩) m.sums.length k) ∧ wz.rangeAt pb (po + q * 32) (digF (m.sums.getD q fun _ => 0)).toList from by
        have hl := R0.out.l1
        have hs := HSI.out
        have h1 := R0.out.below.trans (hb.mono (by omega))
        exact ⟨(hb.cell (p := ⟨w.heap.size, 4, none⟩) (by show w.heap.size < ub + 1; omega)).trans k0.2.1, fun j u hj => (h1.cell (p := ⟨pb, po + q * 32 + j, none⟩) hpb).trans (hf j u hj)⟩)
      clear hpb hf hql hlt
      generalize (m.sums.getD q fun _ => 0) = D at *
      go_wp2_with (fail)
      -- HANDV 0
      refine wp_region_noPanic ?_
      refine wp_region_heldV (S := (fun W : World => W.cell? ⟨ub, 4, none⟩ = some (.slice B q c) ∧ W.cell? ⟨w.heap.size, 4, none⟩ = some (.slice (some ⟨pb, po, none⟩) m.sums.length k) ∧ W.rangeAt pb (po + q * 32) (digF D).toList)) 10 (by kernel_rfl) (by kernel_rfl) (by kernel_rfl) (by kernel_rfl) (by decide) k0 (fun hHeld => ?_)
      refine wpAnyV_take (i := 0) (v := .pointer (some ⟨ub, 4, none⟩)) 23 rfl rfl (by decide) (by kernel_rfl) (by kernel_rfl) (fun _ _ _ h => h) (Or.inl ⟨by rfl, ?_⟩) hHeld ?_
      · intro W hW
        try dsimp only at hW
        go_simp
      simp only [Act.put, List.setIfInBounds_toArray, List.set_cons_succ, List.set_cons_zero]
      refine wpAnyV_take (i := 1) (v := .slice B q c) 24 rfl rfl (by decide) (by kernel_rfl) (by kernel_rfl) (fun _ _ _ h => h) (Or.inl ⟨by rfl, ?_⟩) hHeld ?_
      · intro W hW
        try dsimp only at hW
        go_simp
      simp only [Act.put, List.setIfInBounds_toArray, List.set_cons_succ, List.set_cons_zero]
      refine wpAnyV_take (i := 2) (v := .pointer (some ⟨w.heap.size, 4, none⟩)) 25 rfl rfl (by decide) (by kernel_rfl) (by kernel_rfl) (fun _ _ _ h => h) (Or.inl ⟨by rfl, ?_⟩) hHeld ?_
      · intro W hW
        try dsimp only at hW
        go_simp
      simp only [Act.put, List.setIfInBounds_toArray, List.set_cons_succ, List.set_cons_zero]
      refine wpAnyV_take (i := 3) (v := .slice (some ⟨pb, po, none⟩) m.sums.length k) 26 rfl rfl (by decide) (by kernel_rfl) (by kernel_rfl) (fun _ _ _ h => h) (Or.inl ⟨by rfl, ?_⟩) hHeld ?_
      · intro W hW
        try dsimp only at hW
        go_simp
      simp only [Act.put, List.setIfInBounds_toArray, List.set_cons_succ, List.set_cons_zero]
      refine wpAnyV_take (i := 4) (v := .int .i64 (q : Int)) 27 rfl rfl (by decide) (by kernel_rfl) (by kernel_rfl) (fun _ _ _ h => h) (Or.inl ⟨by rfl, ?_⟩) hHeld ?_
      · intro W hW
        try dsimp only at hW
        go_simp
      simp only [Act.put, List.setIfInBounds_toArray, List.set_cons_succ, List.set_cons_zero]
      refine wpAnyV_take (i := 5) (v := .pointer (some ⟨pb, po + q * 32, none⟩)) 28 rfl rfl (by decide) (by kernel_rfl) (by kernel_rfl) (fun _ _ _ h => h) (Or.inl ⟨by rfl, ?_⟩) hHeld ?_
      · intro W hW
        try dsimp only at hW
        go_simp
      simp only [Act.put, List.setIfInBounds_toArray, List.set_cons_succ, List.set_cons_zero]
      refine wpAnyV_take (i := 6) (v := .agg (digF D).toList.toArray) 29 rfl rfl (by decide) (by kernel_rfl) (by kernel_rfl) (fun _ _ _ h => h) (yieldsIf_load_mid (by rfl) 24 _ rfl pb (po + q * 32) rfl (digF D).toList _ (fun W hW => hW.2.2) Tryd.underlying24 rfl HID.out) hHeld ?_
      simp only [Act.put, List.setIfInBounds_toArray, List.set_cons_succ, List.set_cons_zero]
      refine wpAnyV_one (i := 7) (by kernel_rfl) rfl (by decide) (fun K hK => ?_)
      refine step_buildTo (by rfl) 28 23 1 #[(0, .tmp 29)] (by rfl) Tryd.underlying28 (digF D) (by rw [Array.toList_map]; exact rfOneS _) ?_
      refine hK.out _ _ (HSS.out _ (R0.out.step ((Below.refl wr.drew.heap.size wr.drew).alloc (Nat.le_refl _) (.cells (digF D) 23)))) (fun hHeld2 => ?_)
      clear hK K hHeld
      have hHeld := hHeld2
      clear hHeld2
      try simp only [Act.put, List.setIfInBounds_toArray]
      refine wpAnyV_one (i := 8) (by kernel_rfl) rfl (by decide) (fun K hK => ?_)
      refine step_add (by rfl) (.tmp 24) (.tmp 30) 28 (by rfl) 23 Tryd.underlying28 infoR R0.out.grow D (by simp only [HQL.out]; rfl) (by rfl) (by simp only [HQL.out]; have := HN.out; omega) ?_
      intro g cap wz hg hat hb7
      simp only [HQL.out] at hg hat ⊢
      have R7 := Lib.hid (HAD.out _ R0.out _ _ _ hg hb7)
      have c7 := hat.sums
      simp only [HQL.out] at c7
      have f7 := hat.fz 4
      have ⟨HSS2, HSS3⟩ := HWZ.out _ hb7
      clear hg hat hb7
      refine hK.out _ _ ⟨c7, HSS2, HSS3⟩ (fun hHeld2 => ?_)
      clear hK K hHeld
      have hHeld := hHeld2
      clear hHeld2
      try simp only [Act.put]
      refine wpAnyV_take (i := 9) (v := .pointer (some ⟨ub, 4, none⟩)) 32 rfl rfl (by decide) (by kernel_rfl) (by kernel_rfl) (fun _ _ _ h => h) (Or.inl ⟨by rfl, ?_⟩) hHeld ?_
      · intro W hW
        try dsimp only at hW
        go_simp
      simp only [Act.put]
      refine wpAnyV_last (by kernel_rfl) rfl (by kernel_rfl) (fun K hK => ?_)
      go_simp
      refine hK.out _ _ ?_
      refine NoPanic.normal ?_
      -- VDNAH 0
      clear hHeld k0 c7 f7
      go_wp2_with (fail)
      exact ⟨⟨q + 1, _, _, by first | rfl | (rw [x3]; rfl), HLT.out, R7.out⟩, by first | exact mfLess q _ HLT.out | (rw [x3]; exact mfLess q _ HLT.out)⟩
    · have x0 : ¬ (q : Int) < (m.sums.length : Int) := by omega
      have x1 : decide ((q : Int) < (m.sums.length : Int)) = false := decide_eq_false x0
      have x2 : decide (q < m.sums.length) = false := decide_eq_false hlt
      have HTK := Lib.hid (show m.sums.take q = m.sums from List.take_of_length_le (by omega))
      have HMC := Lib.hid (show At wr ub 30 m B c from by
        have h1 := HR.out.grow.at_
        rw [HTK.out] at h1
        exact h1).cells
      have HZ1 := Lib.hid HR.out.out.cells
      have HSN := Lib.hid (show SIn (wr.setRow (w.heap.size + 1) (manA m B c)) B c m.sums by
        have h1 := HR.out.sinOut (manA m B c)
        rw [HTK.out] at h1
        exact h1)
      go_wp2_with (first
        | (with_reducible refine wpList_load_row rfl 30 _ rfl _ rfl 30 (manA m B c) (0, 0) _ HMC.out Tryd.underlying30 rfl (HI.out m B c) ?_)
        | (with_reducible refine wpList_store_row rfl 30 _ _ rfl _ (manA m B c) rfl rfl 30 _ HZ1.out (HI.out m B c) (by rw [manA_size, manA_size]) (HO.out m B c) ?_))
      refine bodyPost_ret (results_cell_row rfl _ _ _ 30 (manA m B c) (0, 0) _ rfl (setRow_heap _ _ _ _ _ _ HZ1.out) Tryd.underlying30 rfl (HI.out m B c)) rfl ?_
      exact ⟨B, c, rfl, HSN.out, below_setRow' HR.out.below (by omega) _⟩
end Go.Proofs.YtgdckpldbofgfaaDoor
namespace Go.Proofs.YtgdckpldbofgfaaDoor
open Go.ChangeShapes Go.WideShapes Go.ChangeAt Go.RowKit Sh Pn Mf

theorem run_neq_digR (f g : Nat → UInt8) (w : World) : (binOp .neq 23 (.agg (digF f)) (.agg (digF g))).run Tryd.prog w = .ok (.bool (!same f g)) w := by
  obtain ⟨i0, hi, _⟩ := info_parts info5
  rw [run_neq_struct, run_equalIn_array (P := Tryd.prog) (w := w) 9999 (digF f) (digF g) Tryd.underlying23 hi]
  have hc : Tryd.prog.cellsOf 5 = 1 := by kernel_rfl
  rw [hc, run_items f g w (List.range 32) (fun i hi => List.mem_range.1 hi)]
  rfl
theorem digRL (f : Nat → UInt8) : (Tryd.prog.info? 23).map (·.size) = some (digF f).toList.length := by rw [Array.length_toList]; exact hiRD f
namespace Mf
/-- Both manifests. -/
structure Both (t : TypeId) (w : World) (ub nb : Nat) (m : Man) (B : Option Addr) (c : Nat) (C : Option Addr) (d : Nat) (W : World) : Prop where
  one : At W ub t m B c
  two : At W nb t m C d
  s1 : SIn W B c m.sums
  s2 : SIn W C d m.sums
  below : Below w.heap.size w W
theorem Both.step {t : TypeId} {w W W' : World} {ub nb : Nat} {m : Man} {B : Option Addr} {c : Nat} {C : Option Addr} {d : Nat} (h : Both t w ub nb m B c C d W) (hb : Below W.heap.size W W') : Both t w ub nb m B c C d W' :=
  ⟨h.one.keep hb, h.two.keep hb, h.s1.keep hb, h.s2.keep hb, h.below.trans (hb.mono h.below.size)⟩
end Mf
set_option maxRecDepth 100000 in
set_option maxHeartbeats 6400000 in
theorem law20_alike (w : World) (m : Man) (A : Option Addr) (k : Nat) (C : Option Addr) (d : Nat) (hS : SIn w A k m.sums) (hS2 : SIn w C d m.sums) (hn : m.sums.length ≤ 1000) :
    Calls Tryd.prog 25 #[.agg (manA m A k), .agg (manA m C d)] w fun e w' => e = .returned (.bool true) ∧ Below w.heap.size w w' := by
  have HI := Lib.hid (fun m A k => manI2 m A k)
  have HI1 := Lib.hid (fun m A k => manI m A k)
  have HO := Lib.hid (fun m A k => manA_one m A k)
  have HN := Lib.hid hn
  have HFM := Lib.hid (fun (W : World) (hW : Below w.heap.size w W) => law20_form W m A k (hS.keep hW) hn)
  have HS2 := Lib.hid hS2
  have HIR := Lib.hid (digRL m.res)
  have ER : ∀ W, (binOp .neq 23 (.agg (digF m.res)) (.agg (digF m.res))).run Tryd.prog W = .ok (.bool false) W := fun W => by rw [run_neq_digR, same_refl]; rfl
  clear hS hS2 hn
  go_enter Tryd.func25, Tryd.ntmps25
  go_upto_region 1 with (fail)
  refine gen_world (fun W => At W w.heap.size 26 m A k ∧ At W (w.heap.size + 1) 30 m C d ∧ Below w.heap.size w W) ?_ ?_
  · refine ⟨(at_new w _ m A k).keep ((Below.refl _ _).alloc (Nat.le_refl _) _), ⟨?_⟩, ((Below.refl _ _).alloc (Nat.le_refl _) _).alloc (by simp) _⟩
    have := heap_alloc_new (w.alloc (.cells (manA m A k) 26)) (.cells (manA m C d) 30)
    simp only [World.size_alloc] at this
    exact this
  rintro w1 ⟨a1, o1, b1⟩
  have HMC := Lib.hid a1.cells
  have O1 := Lib.hid o1
  have B1 := Lib.hid b1
  clear a1 o1 b1
  go_wp2_with (with_reducible refine wpList_load_row rfl 26 _ rfl _ rfl 26 (manA m A k) (0, 0) _ HMC.out Tryd.underlying26 rfl (HI1.out m A k) ?_)
  refine (HFM.out _ B1.out).mono ?_
  rintro e w2 ⟨B, c, rfl, s2, b2⟩
  have O2 := Lib.hid (O1.out.keep b2)
  have B2 := Lib.hid (B1.out.trans (b2.mono B1.out.size))
  have S2 := Lib.hid s2
  clear s2 b2 HMC O1 B1 HFM
  have HNW := Lib.hid (show ∀ o, (w2.alloc o).heap[w2.heap.size]? = some o from fun o => heap_alloc_new w2 o)
  have HXA := Lib.hid (fun cc => And.intro (show At ((w2.alloc (.cells cc 30)).setRow w2.heap.size (manA m B c)) w2.heap.size 30 m B c from ⟨setRow_heap _ _ _ _ _ _ (heap_alloc_new w2 _)⟩) (below_setRow' ((Below.refl w2.heap.size w2).alloc (Nat.le_refl _) (.cells cc 30)) (Nat.le_refl _) (manA m B c)))
  go_upto_region 2 with (with_reducible refine wpList_store_row rfl 30 _ _ rfl _ (manA m B c) rfl rfl 30 _ (HNW.out _) (HI.out m B c) (by rw [manA_size]; kernel_rfl) (HO.out m B c) ?_)
  refine gen_world (fun W => Both 30 w w2.heap.size (w.heap.size + 1) m B c C d W) ⟨(HXA.out _).1, O2.out.keep (HXA.out _).2, S2.out.keep (HXA.out _).2, (HS2.out.keep B2.out).keep (HXA.out _).2, B2.out.trans ((HXA.out _).2.mono B2.out.size)⟩ ?_
  generalize w.heap.size + 1 = nb at *
  rintro w3 t3
  have T3 := Lib.hid t3
  have p0 := t3.one.base
  have p1 := t3.one.ver
  have p2 := t3.one.size
  have p3 := t3.one.chunk
  have p4 := t3.one.sums
  have q0 := t3.two.base
  have q1 := t3.two.ver
  have q2 := t3.two.size
  have q3 := t3.two.chunk
  have q4 := t3.two.sums
  have HR1 := Lib.hid t3.one.res
  have HR2 := Lib.hid t3.two.res
  clear t3 HNW HXA O2 B2 S2
  generalize w2.heap.size = ub at *
  have u0 : (m.b != m.b) = false := bne_self_eq_false _
  have u1 : (m.v != m.v) = false := bne_self_eq_false _
  have u2 : (m.s != m.s) = false := bne_self_eq_false _
  have u3 : (m.c != m.c) = false := bne_self_eq_false _
  have u4 : ((m.sums.length : Int) != (m.sums.length : Int)) = false := bne_self_eq_false _
  go_upto_region 4 with (first
    | (refine wpList_load_mid_g (by rfl) 23 _ rfl ub 5 rfl (digF m.res).toList _ HR1.out Tryd.underlying23 rfl HIR.out ?_)
    | (refine wpList_load_mid_g (by rfl) 23 _ rfl nb 5 rfl (digF m.res).toList _ HR2.out Tryd.underlying23 rfl HIR.out ?_))
  clear p0 p1 p2 p3 q0 q1 q2 q3 u0 u1 u2 u3 u4 ER HR1 HR2 p4 q4
  go_wp2_with (fail)
  go_loopw [6] (fun i wr => ∃ q : Nat, i = .int .i64 (q : Int) ∧ q ≤ m.sums.length ∧ Both 30 w ub nb m B c C d wr) (fun i _ => match i with | .int _ q => m.sums.length - q.toNat | _ => 0)
  case atStart => exact ⟨0, rfl, Nat.zero_le _, T3.out⟩
  case round =>
    clear T3
    obtain ⟨q, rfl, hq, hr⟩ := hrel
    have HR := Lib.hid hr
    have p4 := hr.one.sums
    clear hr
    have hn := HN.out
    by_cases hlt : q < m.sums.length
    · have x0 : (q : Int) < (m.sums.length : Int) := by omega
      have x1 : decide ((q : Int) < (m.sums.length : Int)) = true := decide_eq_true x0
      have x2 : decide (q < m.sums.length) = true := decide_eq_true hlt
      have x4 : 0 ≤ (q : Int) := by omega
      have x3 := IntWalk.wrap64_in ((q : Int) + 1) (by omega)
      have HLT := Lib.hid hlt
      obtain ⟨pb, po, rfl, hpb, hf⟩ := HR.out.s1.at hlt
      obtain ⟨pc, oc, rfl, hpc, hg⟩ := HR.out.s2.at hlt
      have HSS := Lib.hid (fun (W : World) (hW : Below wr.heap.size wr W) => show W.cell? ⟨ub, 4, none⟩ = some (.slice (some ⟨pb, po, none⟩) m.sums.length c) ∧ W.cell? ⟨nb, 4, none⟩ = some (.slice (some ⟨pc, oc, none⟩) m.sums.length d) ∧ W.rangeAt pb (po + q * 32) (digF (m.sums.getD q fun _ => 0)).toList ∧ W.rangeAt pc (oc + q * 32) (digF (m.sums.getD q fun _ => 0)).toList from
        ⟨(HR.out.one.keep hW).sums, (HR.out.two.keep hW).sums, fun j u hj => (hW.cell (p := ⟨pb, po + q * 32 + j, none⟩) hpb).trans (hf j u hj), fun j u hj => (hW.cell (p := ⟨pc, oc + q * 32 + j, none⟩) hpc).trans (hg j u hj)⟩)
      have b00 : Below wr.heap.size wr wr.drew := below_drewN (Below.refl _ _) 1
      have k0 := HSS.out _ b00
      have HRD := Lib.hid (HR.out.step b00)
      have HID := Lib.hid (digRL (m.sums.getD q fun _ => 0))
      have E : ∀ W, (binOp .neq 23 (.agg (digF (m.sums.getD q fun _ => 0))) (.agg (digF (m.sums.getD q fun _ => 0)))).run Tryd.prog W = .ok (.bool false) W := fun W => by rw [run_neq_digR, same_refl]; rfl
      clear hpb hf hpc hg hlt b00
      generalize (m.sums.getD q fun _ => 0) = D at *
      go_wp2_with (fail)
      -- HAND
      refine wp_region_noPanic ?_
      refine wp_region_held_drew (S := (fun W : World => W.cell? ⟨ub, 4, none⟩ = some (.slice (some ⟨pb, po, none⟩) m.sums.length c) ∧ W.cell? ⟨nb, 4, none⟩ = some (.slice (some ⟨pc, oc, none⟩) m.sums.length d) ∧ W.rangeAt pb (po + q * 32) (digF D).toList ∧ W.rangeAt pc (oc + q * 32) (digF D).toList)) (by kernel_rfl) k0 (fun hHeld => ?_)
      refine wpAnyH_takeAt (i := 0) (v := .pointer (some ⟨ub, 4, none⟩)) 58 rfl rfl (by kernel_rfl) (by kernel_rfl) (by kernel_rfl) (fun _ _ _ h => h) (Or.inl ⟨by rfl, ?_⟩) hHeld ?_
      · intro W hW
        try dsimp only at hW
        go_simp
      simp only [Act.put, List.setIfInBounds_toArray, List.set_cons_succ, List.set_cons_zero]
      refine wpAnyH_takeAt (i := 1) (v := .slice (some ⟨pb, po, none⟩) m.sums.length c) 59 rfl rfl (by kernel_rfl) (by kernel_rfl) (by kernel_rfl) (fun _ _ _ h => h) (Or.inl ⟨by rfl, ?_⟩) hHeld ?_
      · intro W hW
        try dsimp only at hW
        go_simp
      simp only [Act.put, List.setIfInBounds_toArray, List.set_cons_succ, List.set_cons_zero]
      refine wpAnyH_takeAt (i := 2) (v := .int .i64 (q : Int)) 60 rfl rfl (by kernel_rfl) (by kernel_rfl) (by kernel_rfl) (fun _ _ _ h => h) (Or.inl ⟨by rfl, ?_⟩) hHeld ?_
      · intro W hW
        try dsimp only at hW
        go_simp
      simp only [Act.put, List.setIfInBounds_toArray, List.set_cons_succ, List.set_cons_zero]
      refine wpAnyH_takeAt (i := 3) (v := .pointer (some ⟨pb, po + q * 32, none⟩)) 61 rfl rfl (by kernel_rfl) (by kernel_rfl) (by kernel_rfl) (fun _ _ _ h => h) (Or.inl ⟨by rfl, ?_⟩) hHeld ?_
      · intro W hW
        try dsimp only at hW
        go_simp
      simp only [Act.put, List.setIfInBounds_toArray, List.set_cons_succ, List.set_cons_zero]
      refine wpAnyH_takeAt (i := 4) (v := .agg (digF D).toList.toArray) 62 rfl rfl (by kernel_rfl) (by kernel_rfl) (by kernel_rfl) (fun _ _ _ h => h) (yieldsIf_load_mid (by rfl) 23 _ rfl pb (po + q * 32) rfl (digF D).toList _ (fun W hW => hW.2.2.1) Tryd.underlying23 rfl HID.out) hHeld ?_
      simp only [Act.put, List.setIfInBounds_toArray, List.set_cons_succ, List.set_cons_zero]
      refine wpAnyH_takeAt (i := 5) (v := .pointer (some ⟨nb, 4, none⟩)) 63 rfl rfl (by kernel_rfl) (by kernel_rfl) (by kernel_rfl) (fun _ _ _ h => h) (Or.inl ⟨by rfl, ?_⟩) hHeld ?_
      · intro W hW
        try dsimp only at hW
        go_simp
      simp only [Act.put, List.setIfInBounds_toArray, List.set_cons_succ, List.set_cons_zero]
      refine wpAnyH_takeAt (i := 6) (v := .slice (some ⟨pc, oc, none⟩) m.sums.length d) 64 rfl rfl (by kernel_rfl) (by kernel_rfl) (by kernel_rfl) (fun _ _ _ h => h) (Or.inl ⟨by rfl, ?_⟩) hHeld ?_
      · intro W hW
        try dsimp only at hW
        go_simp
      simp only [Act.put, List.setIfInBounds_toArray, List.set_cons_succ, List.set_cons_zero]
      refine wpAnyH_takeAt (i := 7) (v := .int .i64 (q : Int)) 65 rfl rfl (by kernel_rfl) (by kernel_rfl) (by kernel_rfl) (fun _ _ _ h => h) (Or.inl ⟨by rfl, ?_⟩) hHeld ?_
      · intro W hW
        try dsimp only at hW
        go_simp
      simp only [Act.put, List.setIfInBounds_toArray, List.set_cons_succ, List.set_cons_zero]
      refine wpAnyH_takeAt (i := 8) (v := .pointer (some ⟨pc, oc + q * 32, none⟩)) 66 rfl rfl (by kernel_rfl) (by kernel_rfl) (by kernel_rfl) (fun _ _ _ h => h) (Or.inl ⟨by rfl, ?_⟩) hHeld ?_
      · intro W hW
        try dsimp only at hW
        go_simp
      simp only [Act.put, List.setIfInBounds_toArray, List.set_cons_succ, List.set_cons_zero]
      refine wpAnyH_takeAt (i := 9) (v := .agg (digF D).toList.toArray) 67 rfl rfl (by kernel_rfl) (by kernel_rfl) (by kernel_rfl) (fun _ _ _ h => h) (yieldsIf_load_mid (by rfl) 23 _ rfl pc (oc + q * 32) rfl (digF D).toList _ (fun W hW => hW.2.2.2) Tryd.underlying23 rfl HID.out) hHeld ?_
      simp only [Act.put, List.setIfInBounds_toArray, List.set_cons_succ, List.set_cons_zero]
      refine wpAnyH_takeAt (i := 10) (v := .bool false) 68 rfl rfl (by kernel_rfl) (by kernel_rfl) (by kernel_rfl) (fun _ _ _ h => h) (Or.inl ⟨by rfl, ?_⟩) hHeld ?_
      · intro W hW
        try dsimp only at hW
        go_simp
      simp only [Act.put, List.setIfInBounds_toArray, List.set_cons_succ, List.set_cons_zero]
      refine wpAnyH_done (by kernel_rfl) ?_ _
      refine NoPanic.normal ?_
      -- DNAH
      clear hHeld E k0
      go_wp2_with (fail)
      exact ⟨⟨q + 1, by first | rfl | (rw [x3]; rfl), HLT.out, HRD.out⟩, by first | exact mfLess q _ HLT.out | (rw [x3]; exact mfLess q _ HLT.out)⟩
    · have x0 : ¬ (q : Int) < (m.sums.length : Int) := by omega
      have x1 : decide ((q : Int) < (m.sums.length : Int)) = false := decide_eq_false x0
      have x2 : decide (q < m.sums.length) = false := decide_eq_false hlt
      go_wp2_with (fail)
      exact bodyPost_ret (results_tmp rfl _ _ _) rfl ⟨rfl, HR.out.below⟩
end Go.Proofs.YtgdckpldbofgfaaDoor
namespace Go.Proofs.YtgdckpldbofgfaaDoor
open Go.ChangeShapes Go.WideShapes Go.ChangeAt Go.RowKit Sh Pn Mf

namespace Mf
theorem At.row5 {w : World} {b : Nat} {t : TypeId} {m : Man} {A : Option Addr} {k : Nat} (h : At w b t m A k) : w.rangeAt b 0 (manA m A k).toList := fun j u hj => by
  rw [cell_of_row w b (0 + j) _ _ _ h.h, Nat.zero_add, ← hj, Array.getElem?_toList]
theorem count_not {m : Man} (h : headB m.b m.v m.s m.c = false) : countM m = 0 := if_neg fun h' => by rw [h] at h'; exact Bool.false_ne_true h'.1
end Mf
set_option maxRecDepth 100000 in
set_option maxHeartbeats 3200000 in
theorem ref20_count (w : World) (m : Man) (A : Option Addr) (k : Nat) : Calls Tryd.prog 9 #[.agg (manA m A k)] w fun e w' => e = .returned (.int .i64 (countM m : Int)) ∧ Below w.heap.size w w' := by
  have HH := Lib.hid (fun W => ref20_head W m A k)
  have HA := Lib.hid (at_new w 30 m A k)
  have HB := Lib.hid ((Below.refl w.heap.size w).alloc (Nat.le_refl _) (.cells (manA m A k) 30))
  have HIL := Lib.hid (manIL2 m A k)
  cases hh : headB m.b m.v m.s m.c with
  | false =>
    have HC := Lib.hid (count_not hh)
    rw [hh] at HH
    go_enter Tryd.func9, Tryd.ntmps9
    go_upto_region 1 with (fail)
    refine gen_world (fun W => At W w.heap.size 30 m A k ∧ Below w.heap.size w W) ⟨HA.out, HB.out⟩ ?_
    rintro w1 ⟨a1, b1⟩
    have HK := Lib.hid (fun (W : World) (hW : Below w1.heap.size w1 W) => show W.rangeAt w.heap.size 0 (manA m A k).toList from (a1.keep hW).row5)
    have B1 := Lib.hid b1
    have b00 : Below w1.heap.size w1 w1.drew := below_drewN (Below.refl _ _) 1
    have k0 := HK.out _ b00
    clear a1 b1 hh HA HB
    -- HAND
    refine wp_region_noPanic ?_
    refine wp_region_held_drew (S := (fun W : World => W.rangeAt w.heap.size 0 (manA m A k).toList)) (by kernel_rfl) k0 (fun hHeld => ?_)
    refine wpAnyH_takeAt (i := 0) (v := .agg (manA m A k).toList.toArray) 3 rfl rfl (by kernel_rfl) (by kernel_rfl) (by kernel_rfl) (fun _ _ _ h => h) (yieldsIf_load_mid (by rfl) 30 _ rfl w.heap.size (0) rfl (manA m A k).toList _ (fun W hW => hW) Tryd.underlying30 rfl HIL.out) hHeld ?_
    simp only [Act.put, List.setIfInBounds_toArray, List.set_cons_succ, List.set_cons_zero]
    refine wpAnyH_ready (rs := [1]) (by kernel_rfl) (by simp) ?_
    refine AllReadyH.cons rfl (fun K hK => ?_) AllReadyH.nil
    go_simp
    refine (HH.out _).mono ?_
    rintro e w2 ⟨rfl, b2⟩
    have hk1 := b00.trans (b2.mono b00.size)
    clear b2
    refine hK.out _ _ (HK.out _ hk1) (fun hHeld2 => ?_)
    clear hK K hHeld
    have hHeld := hHeld2
    clear hHeld2
    try simp only [Act.put, List.setIfInBounds_toArray, List.set_cons_succ, List.set_cons_zero]
    refine wpAnyH_takeAt (i := 2) (v := .bool true) 5 rfl rfl (by kernel_rfl) (by kernel_rfl) (by kernel_rfl) (fun _ _ _ h => h) (Or.inl ⟨by rfl, ?_⟩) hHeld ?_
    · intro W hW
      try dsimp only at hW
      go_simp
    simp only [Act.put, List.setIfInBounds_toArray, List.set_cons_succ, List.set_cons_zero]
    refine wpAnyH_takeAt (i := 3) (v := .bool true) 6 rfl rfl (by kernel_rfl) (by kernel_rfl) (by kernel_rfl) (fun _ _ _ h => h) (Or.inl ⟨by rfl, ?_⟩) hHeld ?_
    · intro W hW
      try dsimp only at hW
      go_simp
    simp only [Act.put, List.setIfInBounds_toArray, List.set_cons_succ, List.set_cons_zero]
    refine wpAnyH_takeAt (i := 4) (v := undef) 7 rfl rfl (by kernel_rfl) (by kernel_rfl) (by kernel_rfl) (fun _ _ _ h => h) (Or.inr ⟨by rfl, rfl⟩) hHeld ?_
    simp only [Act.put, List.setIfInBounds_toArray, List.set_cons_succ, List.set_cons_zero]
    refine wpAnyH_takeAt (i := 5) (v := undef) 8 rfl rfl (by kernel_rfl) (by kernel_rfl) (by kernel_rfl) (fun _ _ _ h => h) (Or.inr ⟨by rfl, rfl⟩) hHeld ?_
    simp only [Act.put, List.setIfInBounds_toArray, List.set_cons_succ, List.set_cons_zero]
    refine wpAnyH_takeAt (i := 6) (v := undef) 9 rfl rfl (by kernel_rfl) (by kernel_rfl) (by kernel_rfl) (fun _ _ _ h => h) (Or.inr ⟨by rfl, rfl⟩) hHeld ?_
    simp only [Act.put, List.setIfInBounds_toArray, List.set_cons_succ, List.set_cons_zero]
    refine wpAnyH_takeAt (i := 7) (v := undef) 10 rfl rfl (by kernel_rfl) (by kernel_rfl) (by kernel_rfl) (fun _ _ _ h => h) (Or.inr ⟨by rfl, rfl⟩) hHeld ?_
    simp only [Act.put, List.setIfInBounds_toArray, List.set_cons_succ, List.set_cons_zero]
    refine wpAnyH_takeAt (i := 8) (v := undef) 11 rfl rfl (by kernel_rfl) (by kernel_rfl) (by kernel_rfl) (fun _ _ _ h => h) (Or.inr ⟨by rfl, rfl⟩) hHeld ?_
    simp only [Act.put, List.setIfInBounds_toArray, List.set_cons_succ, List.set_cons_zero]
    refine wpAnyH_takeAt (i := 9) (v := undef) 12 rfl rfl (by kernel_rfl) (by kernel_rfl) (by kernel_rfl) (fun _ _ _ h => h) (Or.inr ⟨by rfl, rfl⟩) hHeld ?_
    simp only [Act.put, List.setIfInBounds_toArray, List.set_cons_succ, List.set_cons_zero]
    refine wpAnyH_takeAt (i := 10) (v := undef) 13 rfl rfl (by kernel_rfl) (by kernel_rfl) (by kernel_rfl) (fun _ _ _ h => h) (Or.inr ⟨by rfl, rfl⟩) hHeld ?_
    simp only [Act.put, List.setIfInBounds_toArray, List.set_cons_succ, List.set_cons_zero]
    refine wpAnyH_takeAt (i := 11) (v := undef) 14 rfl rfl (by kernel_rfl) (by kernel_rfl) (by kernel_rfl) (fun _ _ _ h => h) (Or.inr ⟨by rfl, rfl⟩) hHeld ?_
    simp only [Act.put, List.setIfInBounds_toArray, List.set_cons_succ, List.set_cons_zero]
    refine wpAnyH_takeAt (i := 12) (v := undef) 15 rfl rfl (by kernel_rfl) (by kernel_rfl) (by kernel_rfl) (fun _ _ _ h => h) (Or.inr ⟨by rfl, rfl⟩) hHeld ?_
    simp only [Act.put, List.setIfInBounds_toArray, List.set_cons_succ, List.set_cons_zero]
    refine wpAnyH_takeAt (i := 13) (v := undef) 16 rfl rfl (by kernel_rfl) (by kernel_rfl) (by kernel_rfl) (fun _ _ _ h => h) (Or.inr ⟨by rfl, rfl⟩) hHeld ?_
    simp only [Act.put, List.setIfInBounds_toArray, List.set_cons_succ, List.set_cons_zero]
    refine wpAnyH_takeAt (i := 14) (v := undef) 17 rfl rfl (by kernel_rfl) (by kernel_rfl) (by kernel_rfl) (fun _ _ _ h => h) (Or.inr ⟨by rfl, rfl⟩) hHeld ?_
    simp only [Act.put, List.setIfInBounds_toArray, List.set_cons_succ, List.set_cons_zero]
    refine wpAnyH_takeAt (i := 15) (v := undef) 18 rfl rfl (by kernel_rfl) (by kernel_rfl) (by kernel_rfl) (fun _ _ _ h => h) (Or.inr ⟨by rfl, rfl⟩) hHeld ?_
    simp only [Act.put, List.setIfInBounds_toArray, List.set_cons_succ, List.set_cons_zero]
    refine wpAnyH_takeAt (i := 16) (v := undef) 19 rfl rfl (by kernel_rfl) (by kernel_rfl) (by kernel_rfl) (fun _ _ _ h => h) (Or.inr ⟨by rfl, rfl⟩) hHeld ?_
    simp only [Act.put, List.setIfInBounds_toArray, List.set_cons_succ, List.set_cons_zero]
    refine wpAnyH_takeAt (i := 17) (v := .bool true) 20 rfl rfl (by kernel_rfl) (by kernel_rfl) (by kernel_rfl) (fun _ _ _ h => h) (Or.inl ⟨by rfl, ?_⟩) hHeld ?_
    · intro W hW
      try dsimp only at hW
      go_simp
    simp only [Act.put, List.setIfInBounds_toArray, List.set_cons_succ, List.set_cons_zero]
    refine wpAnyH_done (by kernel_rfl) ?_ _
    refine NoPanic.normal ?_
    -- DNAH
    have B2 := Lib.hid (B1.out.trans (hk1.mono B1.out.size))
    clear hHeld k0 b00 hk1
    go_wp2_with (fail)
    refine bodyPost_ret (results_tmp rfl _ _ _) rfl ?_
    rw [HC.out]
    exact ⟨rfl, B2.out⟩
  | true =>
    have hgi := headB_iff.1 hh
    have hq := cntN_quot (s := m.s) (c := m.c) (by omega) (by omega)
    have hn := hgi.2.2.2.2.2.2.2.2.2
    have hcm : countM m = if m.sums.length = cntN m.s.toNat m.c.toNat then m.sums.length else 0 := by
      unfold countM
      rw [hh]
      simp
    rw [hh] at HH
    generalize cntN m.s.toNat m.c.toNat = n at *
    have HC := Lib.hid hcm
    have HQ0 := Lib.hid hq
    clear hq
    obtain ⟨nb, hnb⟩ : ∃ nb : Bool, ((m.sums.length : Int) != (n : Int)) = nb := ⟨_, rfl⟩
    have HNB := Lib.hid (show (nb = false → m.sums.length = n) ∧ (nb = true → m.sums.length ≠ n) by
      rw [← hnb]
      constructor
      · intro h
        have := bne_eq_false_iff_eq.1 h
        omega
      · intro h
        have := bne_iff_ne.1 h
        omega)
    have z1' : IntKind.i64.wrap (m.s + m.c) = m.s + m.c := IntWalk.i64_in _ (by omega)
    have z2' : IntKind.i64.wrap (m.s + m.c - 1) = m.s + m.c - 1 := IntWalk.i64_in _ (by clear z1'; omega)
    have z7' : IntKind.i64.wrap (n : Int) = (n : Int) := IntWalk.i64_in _ (by clear z1' z2'; omega)
    have z1 := IntWalk.wrap64_in (m.s + m.c) (by clear z1' z2' z7'; omega)
    have z2 := IntWalk.wrap64_in (m.s + m.c - 1) (by clear z1' z2' z7' z1; omega)
    have z3 : ¬ m.c = 0 := by clear z1' z2' z7' z1 z2; omega
    have z4 : (m.c == 0) = false := beq_eq_false_iff_ne.2 z3
    have z5 : ¬ m.c = -1 := by clear z1' z2' z7' z1 z2; omega
    have z6 : (m.c == -1) = false := beq_eq_false_iff_ne.2 z5
    have z7 := IntWalk.wrap64_in (n : Int) (by clear z1' z2' z7' z1 z2; omega)
    have hq := HQ0.out
    clear hgi hn hcm hh
    go_enter Tryd.func9, Tryd.ntmps9
    go_upto_region 1 with (fail)
    refine gen_world (fun W => At W w.heap.size 30 m A k ∧ Below w.heap.size w W) ⟨HA.out, HB.out⟩ ?_
    rintro w1 ⟨a1, b1⟩
    have HK := Lib.hid (fun (W : World) (hW : Below w1.heap.size w1 W) => show W.rangeAt w.heap.size 0 (manA m A k).toList ∧ W.cell? ⟨w.heap.size, 4, none⟩ = some (.slice A m.sums.length k) ∧ W.cell? ⟨w.heap.size, 2, none⟩ = some (.int .i64 m.s) ∧ W.cell? ⟨w.heap.size, 3, none⟩ = some (.int .i64 m.c) from
      ⟨(a1.keep hW).row5, (a1.keep hW).sums, (a1.keep hW).size, (a1.keep hW).chunk⟩)
    have A1 := Lib.hid a1
    have B1 := Lib.hid b1
    have b00 : Below w1.heap.size w1 w1.drew := below_drewN (Below.refl _ _) 1
    have k0 := HK.out _ b00
    clear a1 b1 HA HB
    -- HAND2
    refine wp_region_noPanic ?_
    refine wp_region_held_drew (S := (fun W : World => W.rangeAt w.heap.size 0 (manA m A k).toList ∧ W.cell? ⟨w.heap.size, 4, none⟩ = some (.slice A m.sums.length k) ∧ W.cell? ⟨w.heap.size, 2, none⟩ = some (.int .i64 m.s) ∧ W.cell? ⟨w.heap.size, 3, none⟩ = some (.int .i64 m.c))) (by kernel_rfl) k0 (fun hHeld => ?_)
    refine wpAnyH_takeAt (i := 0) (v := .agg (manA m A k).toList.toArray) 3 rfl rfl (by kernel_rfl) (by kernel_rfl) (by kernel_rfl) (fun _ _ _ h => h) (yieldsIf_load_mid (by rfl) 30 _ rfl w.heap.size (0) rfl (manA m A k).toList _ (fun W hW => hW.1) Tryd.underlying30 rfl HIL.out) hHeld ?_
    simp only [Act.put, List.setIfInBounds_toArray, List.set_cons_succ, List.set_cons_zero]
    refine wpAnyH_ready (rs := [1]) (by kernel_rfl) (by simp) ?_
    refine AllReadyH.cons rfl (fun K hK => ?_) AllReadyH.nil
    go_simp
    refine (HH.out _).mono ?_
    rintro e w2 ⟨rfl, b2⟩
    have hk1 := b00.trans (b2.mono b00.size)
    clear b2
    refine hK.out _ _ (HK.out _ hk1) (fun hHeld2 => ?_)
    clear hK K hHeld
    have hHeld := hHeld2
    clear hHeld2
    try simp only [Act.put, List.setIfInBounds_toArray, List.set_cons_succ, List.set_cons_zero]
    refine wpAnyH_takeAt (i := 2) (v := .bool false) 5 rfl rfl (by kernel_rfl) (by kernel_rfl) (by kernel_rfl) (fun _ _ _ h => h) (Or.inl ⟨by rfl, ?_⟩) hHeld ?_
    · intro W hW
      try dsimp only at hW
      go_simp
    simp only [Act.put, List.setIfInBounds_toArray, List.set_cons_succ, List.set_cons_zero]
    refine wpAnyH_takeAt (i := 3) (v := .bool false) 6 rfl rfl (by kernel_rfl) (by kernel_rfl) (by kernel_rfl) (fun _ _ _ h => h) (Or.inl ⟨by rfl, ?_⟩) hHeld ?_
    · intro W hW
      try dsimp only at hW
      go_simp
    simp only [Act.put, List.setIfInBounds_toArray, List.set_cons_succ, List.set_cons_zero]
    refine wpAnyH_takeAt (i := 4) (v := .pointer (some ⟨w.heap.size, 4, none⟩)) 7 rfl rfl (by kernel_rfl) (by kernel_rfl) (by kernel_rfl) (fun _ _ _ h => h) (Or.inl ⟨by rfl, ?_⟩) hHeld ?_
    · intro W hW
      try dsimp only at hW
      go_simp
    simp only [Act.put, List.setIfInBounds_toArray, List.set_cons_succ, List.set_cons_zero]
    refine wpAnyH_takeAt (i := 5) (v := .slice A m.sums.length k) 8 rfl rfl (by kernel_rfl) (by kernel_rfl) (by kernel_rfl) (fun _ _ _ h => h) (Or.inl ⟨by rfl, ?_⟩) hHeld ?_
    · intro W hW
      try dsimp only at hW
      go_simp
    simp only [Act.put, List.setIfInBounds_toArray, List.set_cons_succ, List.set_cons_zero]
    refine wpAnyH_takeAt (i := 6) (v := .int .i64 (m.sums.length : Int)) 9 rfl rfl (by kernel_rfl) (by kernel_rfl) (by kernel_rfl) (fun _ _ _ h => h) (Or.inl ⟨by rfl, ?_⟩) hHeld ?_
    · intro W hW
      try dsimp only at hW
      go_simp
    simp only [Act.put, List.setIfInBounds_toArray, List.set_cons_succ, List.set_cons_zero]
    refine wpAnyH_takeAt (i := 7) (v := .pointer (some ⟨w.heap.size, 2, none⟩)) 10 rfl rfl (by kernel_rfl) (by kernel_rfl) (by kernel_rfl) (fun _ _ _ h => h) (Or.inl ⟨by rfl, ?_⟩) hHeld ?_
    · intro W hW
      try dsimp only at hW
      go_simp
    simp only [Act.put, List.setIfInBounds_toArray, List.set_cons_succ, List.set_cons_zero]
    refine wpAnyH_takeAt (i := 8) (v := .int .i64 m.s) 11 rfl rfl (by kernel_rfl) (by kernel_rfl) (by kernel_rfl) (fun _ _ _ h => h) (Or.inl ⟨by rfl, ?_⟩) hHeld ?_
    · intro W hW
      try dsimp only at hW
      go_simp
    simp only [Act.put, List.setIfInBounds_toArray, List.set_cons_succ, List.set_cons_zero]
    refine wpAnyH_takeAt (i := 9) (v := .pointer (some ⟨w.heap.size, 3, none⟩)) 12 rfl rfl (by kernel_rfl) (by kernel_rfl) (by kernel_rfl) (fun _ _ _ h => h) (Or.inl ⟨by rfl, ?_⟩) hHeld ?_
    · intro W hW
      try dsimp only at hW
      go_simp
    simp only [Act.put, List.setIfInBounds_toArray, List.set_cons_succ, List.set_cons_zero]
    refine wpAnyH_takeAt (i := 10) (v := .int .i64 m.c) 13 rfl rfl (by kernel_rfl) (by kernel_rfl) (by kernel_rfl) (fun _ _ _ h => h) (Or.inl ⟨by rfl, ?_⟩) hHeld ?_
    · intro W hW
      try dsimp only at hW
      go_simp
    simp only [Act.put, List.setIfInBounds_toArray, List.set_cons_succ, List.set_cons_zero]
    refine wpAnyH_takeAt (i := 11) (v := .int .i64 (m.s + m.c)) 14 rfl rfl (by kernel_rfl) (by kernel_rfl) (by kernel_rfl) (fun _ _ _ h => h) (Or.inl ⟨by rfl, ?_⟩) hHeld ?_
    · intro W hW
      try dsimp only at hW
      go_simp
    simp only [Act.put, List.setIfInBounds_toArray, List.set_cons_succ, List.set_cons_zero]
    refine wpAnyH_takeAt (i := 12) (v := .int .i64 (m.s + m.c - 1)) 15 rfl rfl (by kernel_rfl) (by kernel_rfl) (by kernel_rfl) (fun _ _ _ h => h) (Or.inl ⟨by rfl, ?_⟩) hHeld ?_
    · intro W hW
      try dsimp only at hW
      go_simp
    simp only [Act.put, List.setIfInBounds_toArray, List.set_cons_succ, List.set_cons_zero]
    refine wpAnyH_takeAt (i := 13) (v := .pointer (some ⟨w.heap.size, 3, none⟩)) 16 rfl rfl (by kernel_rfl) (by kernel_rfl) (by kernel_rfl) (fun _ _ _ h => h) (Or.inl ⟨by rfl, ?_⟩) hHeld ?_
    · intro W hW
      try dsimp only at hW
      go_simp
    simp only [Act.put, List.setIfInBounds_toArray, List.set_cons_succ, List.set_cons_zero]
    refine wpAnyH_takeAt (i := 14) (v := .int .i64 m.c) 17 rfl rfl (by kernel_rfl) (by kernel_rfl) (by kernel_rfl) (fun _ _ _ h => h) (Or.inl ⟨by rfl, ?_⟩) hHeld ?_
    · intro W hW
      try dsimp only at hW
      go_simp
    simp only [Act.put, List.setIfInBounds_toArray, List.set_cons_succ, List.set_cons_zero]
    refine wpAnyH_takeAt (i := 15) (v := .int .i64 (n : Int)) 18 rfl rfl (by kernel_rfl) (by kernel_rfl) (by kernel_rfl) (fun _ _ _ h => h) (Or.inl ⟨by rfl, ?_⟩) hHeld ?_
    · intro W hW
      try dsimp only at hW
      go_simp
    simp only [Act.put, List.setIfInBounds_toArray, List.set_cons_succ, List.set_cons_zero]
    refine wpAnyH_takeAt (i := 16) (v := .bool nb) 19 rfl rfl (by kernel_rfl) (by kernel_rfl) (by kernel_rfl) (fun _ _ _ h => h) (Or.inl ⟨by rfl, ?_⟩) hHeld ?_
    · intro W hW
      try dsimp only at hW
      go_simp
    simp only [Act.put, List.setIfInBounds_toArray, List.set_cons_succ, List.set_cons_zero]
    refine wpAnyH_takeAt (i := 17) (v := .bool nb) 20 rfl rfl (by kernel_rfl) (by kernel_rfl) (by kernel_rfl) (fun _ _ _ h => h) (Or.inl ⟨by rfl, ?_⟩) hHeld ?_
    · intro W hW
      try dsimp only at hW
      go_simp
    simp only [Act.put, List.setIfInBounds_toArray, List.set_cons_succ, List.set_cons_zero]
    refine wpAnyH_done (by kernel_rfl) ?_ _
    refine NoPanic.normal ?_
    -- DNAH2
    have B2 := Lib.hid (B1.out.trans (hk1.mono B1.out.size))
    have A2 := A1.out.keep hk1
    have e4 := A2.sums
    clear hHeld k0 b00 hk1 z1 z2 z3 z4 z5 z6 z7 z1' z2' z7' hq hnb A2
    cases nb with
    | true =>
      go_wp2_with (fail)
      refine bodyPost_ret (results_tmp rfl _ _ _) rfl ?_
      rw [HC.out, if_neg (HNB.out.2 (by first | rfl | trivial))]
      exact ⟨rfl, B2.out⟩
    | false =>
      go_wp2_with (fail)
      refine bodyPost_ret (results_tmp rfl _ _ _) rfl ?_
      rw [HC.out, if_pos (HNB.out.1 (by first | rfl | trivial))]
      exact ⟨rfl, B2.out⟩
end Go.Proofs.YtgdckpldbofgfaaDoor
