/-
  Package disk: Write. Conditions: the disk stands in blocks of its own; fewer than 2^62 writes were done, fewer than 2^30 aren't safe.
-/
import Derived.Test.YtmnponjngdnolaaDkSync
import Derived.Great.Walk
import Derived.Deep.RegionHeld3
import Derived.Deep.AppendLies
namespace Go.Proofs.Ytmnponjngdnolaa
open Go.ChangeShapes Go.WideShapes Go.ChangeAt Go.RowKit Dk

namespace Dk
/-- The bytes of a text. -/
def bs (q : ByteArray) (j : Nat) : UInt8 := q.data.toList.getD j 0
theorem bs_secS (g : Nat → UInt8) (j : Nat) (h : j < 32) : bs (secS g) j = g j := by
  unfold bs secS
  rw [List.getD_eq_getElem?_getD]
  simp [h]
theorem secL_bs {q : ByteArray} (h : q.size = 32) : secL (bs q) = (q.data.toList.take (min q.size 32)).map fun x => Value.int .u8 (x.toNat : Int) := by
  have hl : q.data.toList.length = 32 := h
  rw [h, Nat.min_self, List.take_of_length_le (by omega)]
  apply List.ext_getElem?
  intro j
  by_cases hj : j < 32
  · rw [secL_get _ _ hj, List.getElem?_map, List.getElem?_eq_getElem (by omega)]
    unfold bs
    rw [List.getD_eq_getElem?_getD, List.getElem?_eq_getElem (by omega)]
    rfl
  · rw [List.getElem?_eq_none (by rw [secL_length]; omega), List.getElem?_eq_none (by rw [List.length_map]; omega)]
end Dk
/-- The builtin copy of a text into cells. -/
theorem run_copy_text {P : Program} (w : World) (dT sT ty elem : TypeId) (b o dLen dCap : Nat) (q : ByteArray) (cs : List Value)
    (hu : P.underlying dT = some (.slice elem)) (hz : ∀ w, (Go.sizeOf elem).run P w = .ok 1 w) (ht : w.there b o cs.length)
    (hcs : cs = (q.data.toList.take (min q.size dLen)).map fun x => Value.int .u8 (x.toNat : Int)) (n : Nat) (hn : n = min q.size dLen) :
    (Builtin.copy_ #[dT, sT] ty #[.slice (some ⟨b, o, none⟩) dLen dCap, .string q]).run P w = .ok (goInt n) (w.setCells b o cs) := by
  subst hn
  have hst := run_storeCells_cells (P := P) b o cs 0 w (fun j hj => by simpa using (ht j hj).1) (fun j hj => by simpa using (ht j hj).2) (by
    intro v hv
    rw [hcs] at hv
    obtain ⟨x, _, rfl⟩ := List.mem_map.1 hv
    rfl)
  rw [Nat.add_zero] at hst
  have hmin : Nat.min q.size dLen = min q.size dLen := rfl
  simp [Builtin.copy_, run_underlying hu, Builtin.lenOf, Builtin.firstCells, hz, hmin]
  rw [← List.map_take, ← hcs, hst]
  rfl
theorem infoW : (Try.prog.info? 58).map (fun i => (i.zero, i.size, i.bytes)) = some (some (.agg (wrA noWr)), 33, 40) := by kernel_rfl
set_option maxRecDepth 100000 in
theorem built_wr (p : Nat) : Try.prog.built 58 [(0, .int .i64 (p : Int))] = some (wrA (p, fun _ => 0)) := by kernel_rfl
/-- A write lies in block v. -/
structure WrC (w : World) (v : Nat) (y : Wr) : Prop where
  all : w.rangeAt v 0 (wcells y)
  lt : v < w.heap.size
theorem WrC.place {w : World} {v : Nat} {y : Wr} (h : WrC w v y) : w.cell? ⟨v, 0, none⟩ = some (.int .i64 (y.1 : Int)) := h.all 0 _ rfl
theorem WrC.bytes {w : World} {v : Nat} {y : Wr} (h : WrC w v y) : w.rangeAt v 1 (secL y.2) := fun j u hj => by
  have := h.all (j + 1) u hj
  rwa [show 0 + (j + 1) = 1 + j by omega] at this
theorem WrC.of_block {w w' : World} {v : Nat} {y : Wr} (h : WrC w v y) (e : w'.heap[v]? = w.heap[v]?) : WrC w' v y :=
  ⟨fun j u hj => (World.cell?_of_block (w := w) e).trans (h.all j u hj), by
    have h1 := Array.getElem?_eq_getElem h.lt
    rw [← e] at h1
    exact (Array.getElem?_eq_some_iff.1 h1).1⟩
theorem wr_there {w : World} {v : Nat} {y : Wr} (h : WrAt w v y) : w.there v 1 32 := fun j hj => ⟨by
  rw [h.bytes j (.int .u8 ((y.2 j).toNat : Int)) (secL_get _ _ hj)]; rfl, frozen_of_row w v _ _ _ h⟩
theorem wr_copied {w : World} {v p : Nat} {f g : Nat → UInt8} (h : WrAt w v (p, f)) : WrC (w.setCells v 1 (secL g)) v (p, g) := by
  refine ⟨fun j u hj => ?_, by rw [setCells_size]; exact h.lt⟩
  cases j with
  | zero =>
    rw [World.cell?_setCells_out v _ _ _ _ (fun _ _ => Or.inl (by show 0 + 0 < 1; omega)), ← hj]
    exact h.place
  | succ j =>
    have hl := (List.getElem?_eq_some_iff.1 hj).1
    rw [wcells_length] at hl
    have := World.rangeAt_setCells_same w v 1 (secL g) (by rw [secL_length]; exact wr_there h) j u hj
    rwa [show 0 + (j + 1) = 1 + j by omega]
theorem below_setCells {B : Nat} {w0 w : World} (h : Below B w0 w) {g : Nat} (hg : B ≤ g) (o : Nat) (vs : List Value) : Below B w0 (w.setCells g o vs) := by
  obtain ⟨h1, h2, h3⟩ := setCells_os g vs o w
  exact ⟨h1.trans h.os, h2.trans h.tape, h3.trans h.output, by rw [setCells_size]; exact h.size, fun k hk => (setCells_other g k (by omega) vs o w).trans (h.block k hk)⟩
/-- A sector written in the row of what was written last. -/
theorem Lies.putNow {K : Nat → Prop} {w : World} {D s cs t ct : Nat} {lv fv : Value} {x : St} (h : Lies K w D s cs t ct lv fv x) {p : Nat} (hp : p < x.n) (g : Nat → UInt8) : Lies K (w.setCells t (p * 32) (secL g)) D s cs t ct lv fv { x with now := putS x.now p g } := by
  have ho : ∀ i, i ≠ t → (w.setCells t (p * 32) (secL g)).heap[i]? = w.heap[i]? := fun i hi => setCells_other t i hi _ _ _
  obtain ⟨c, hc, _⟩ := h.tr
  have hfu : FuseAt K (w.setCells t (p * 32) (secL g)) fv x.fuse := by
    have h0 := h.fu
    generalize x.fuse = fu at h0 ⊢
    match fu, h0 with
    | none, h0 => exact (show fv = .pointer none from h0)
    | some (l, kl), ⟨fb, kv, h1, h2, h3, h4, h5⟩ => exact ⟨fb, kv, h1, (ho fb (ne_type h2 hc (by decide))).trans h2, h3.keepT (fun i cur hi => ho i (ne_type hi hc (by decide))), h4, h5⟩
  exact ⟨(ho D h.neDt).trans h.hd, h.sr.of_block (ho s h.ne), h.tr.put hp g, h.ne, h.cs, h.ct, own_keep h.lo (fun i hi => ho i (h.neLt i hi)), hfu, h.pl, h.nb, h.kD, h.ks, h.kt, h.kl⟩
theorem wp_sliceOneK {P : Program} {o : Oper} {a : Act} {w : World} {K : Act → World → Prop} {Q : Exit → Act → World → Prop} (t e : TypeId) (x : Operand) (ho : o.op = .buildSlice t 1 #[(0, x)])
    (dst : Option Tmp) (hdst : o.dst = dst) (hu : P.underlying t = some (.slice e)) (cells : Array Value) (hx : a.eval x = .agg cells) (hf : P.builtSlice e 1 [(0, .agg cells)] = some cells)
    (h : K (a.put dst (.slice (some ⟨w.heap.size, 0, none⟩) 1 1)) (w.alloc (.cells cells e))) : o.wp P a w K Q := by
  subst hdst
  have ee : ((#[(0, x)] : Array (Nat × Operand)).map fun (i, y) => (i, a.eval y)).toList = [(0, .agg cells)] := by simp [hx]
  unfold Program.builtSlice at hf
  cases hie : P.info? e with
  | none => simp [hie] at hf
  | some ie =>
    simp only [hie] at hf
    cases hz : ie.zero with
    | none => simp [hz] at hf
    | some z =>
      simp only [hz] at hf
      by_cases hc : 1 * ie.size > 2 ^ 24 ∨ 1 * ie.size = 0
      · rw [if_pos hc] at hf; cases hf
      · rw [if_neg hc] at hf
        exact wp_buildSlice t e 1 #[(0, x)] ho cells ie z hu hie hz (fun h' => hc (Or.inl h')) (fun h' => hc (Or.inr h')) (by rw [ee]; exact hf) h
set_option maxRecDepth 100000 in
theorem slice_wr (p : Nat) (g : Nat → UInt8) : Try.prog.builtSlice 58 1 [(0, .agg (wcells (p, g)).toArray)] = some (wcells (p, g)).toArray := by kernel_rfl
/-- A write appended to those that aren't safe. -/
theorem Lies.push {K : Nat → Prop} {w w' : World} {D s cs t ct : Nat} {lv lv' fv : Value} {x y : St} {p : Nat} {g : Nat → UInt8} (h : Lies K w D s cs t ct lv fv x) (hp : p < x.n) (hown : w'.ownsRow 0 58 33 lv' (x.loose.length + 1) (lcells x.loose ++ wcells (p, g)))
    (hh : w'.heap[D]? = some (.cells #[.slice (some ⟨s, 0, none⟩) x.n cs, .slice (some ⟨t, 0, none⟩) x.n ct, lv', fv, .bool x.away, .int .i64 (x.done : Int)] 56 (0, 0)))
    (ho : ∀ (i : Nat) (c : Array Value) (u : TypeId), i ≠ D → u ≠ 58 → w.heap[i]? = some (.cells c u (0, 0)) → w'.heap[i]? = w.heap[i]?) (hk : ∀ i, lv'.ownBlock = some i → K i) (hy : y = { x with loose := x.loose ++ [(p, g)] }) : Lies K w' D s cs t ct lv' fv y := by
  subst hy
  obtain ⟨c1, hc1, _⟩ := h.sr
  obtain ⟨c2, hc2, _⟩ := h.tr
  have hfu : FuseAt K w' fv x.fuse := by
    have h0 := h.fu
    generalize x.fuse = fu at h0 ⊢
    match fu, h0 with
    | none, h0 => exact (show fv = .pointer none from h0)
    | some (l, kl), ⟨fb, kv, h1, h2, h3, h4, h5⟩ => exact ⟨fb, kv, h1, (ho fb _ _ (ne_type h2 h.hd (by decide)) (by decide) h2).trans h2, h3.keepT (fun i cur hi => ho i _ _ (ne_type hi h.hd (by decide)) (by decide) hi), h4, h5⟩
  exact ⟨hh, h.sr.of_block (ho s _ _ h.neDs.symm (by decide) hc1), h.tr.of_block (ho t _ _ h.neDt.symm (by decide) hc2), h.ne, h.cs, h.ct, by rw [List.length_append, lcells_append, lcells_one]; exact hown, hfu,
    fun z hz => by
      rcases List.mem_append.1 hz with hz | hz
      · exact h.pl z hz
      · rw [List.mem_singleton.1 hz]; exact hp, h.nb, h.kD, h.ks, h.kt, hk⟩
section
variable (K : Nat → Prop) (w : World) (D : Nat) (x : St)
set_option maxRecDepth 100000 in
set_option maxHeartbeats 3200000 in
/-- A write, behind what the fuse burnt to. -/
theorem disk_write_ok (h : DiskAt K w D x) (ha : x.away = false) (hl : x.loose.length ≤ 1073741824) (p : Nat) (hp : p < x.n) (q : ByteArray) (hq : q.size = 32) (hK : ∀ i, w.heap.size ≤ i → K i)
    (hb : Calls Try.prog 30 #[.pointer (some ⟨D, 0, none⟩)] w (DiskSays K w D (.int .i64 0) x.burnt)) :
    Calls Try.prog 26 #[.pointer (some ⟨D, 0, none⟩), .int .i64 (p : Int), .string q] w (DiskSays K w D (.int .i64 0) (x.burnt.put p (bs q))) := by
  have hr := disk_reach K w D x h (p : Int)
  rw [reach_in (by omega) (by omega), ha, if_neg Bool.false_ne_true] at hr
  have HR := Lib.hid hr
  have HBU := Lib.hid hb
  have HK := Lib.hid hK
  have hl2 : x.burnt.loose.length ≤ 1073741824 := hl
  have hp2 : p < x.burnt.n := hp
  clear hr h hb hK
  generalize x.burnt = y at HBU hl2 hp2 ⊢
  clear hl hp ha
  have HQ := Lib.hid (secL_bs hq)
  have hq2 : (q.size : Int) = 32 := by omega
  have hq3 : ((q.size : Int) == 32) = true := by rw [hq2]; rfl
  have HQS := Lib.hid hq
  clear hq
  go_enter Try.func26, Try.ntmps26
  go_wp2_with (fail)
  refine HR.out.mono ?_
  rintro e w1 ⟨rfl, rfl⟩
  clear HR
  go_wp2_with (fail)
  refine HBU.out.mono ?_
  rintro e w1 ⟨rfl, ⟨s, cs, t, ct, lv, fv, h⟩, hk⟩
  have H := Lib.hid h
  have HKP := Lib.hid hk
  clear h hk HBU
  have HWA := Lib.hid (show (Try.prog.info? 58).map (·.size) = some (wrA (p, fun _ => 0)).size by rw [wrA_size]; exact sizeW)
  have HWO := Lib.hid (wrA_one (p, fun _ => 0))
  have HB := Lib.hid (built_wr p)
  have HSZ := Lib.hid (fun W : World => (show (Go.sizeOf 5).run Try.prog W = .ok 1 W by kernel_rfl))
  have HNEW := Lib.hid (show ∀ z, Below w1.heap.size w1 ((w1.alloc (.cells z 58)).setRow w1.heap.size (wrA (p, fun _ => 0))) ∧ WrAt ((w1.alloc (.cells z 58)).setRow w1.heap.size (wrA (p, fun _ => 0))) w1.heap.size (p, fun _ => 0) from fun z =>
    ⟨below_setRow' ((Below.refl w1.heap.size w1).alloc (Nat.le_refl _) (.cells z 58)) (Nat.le_refl _) (wrA (p, fun _ => 0)), setRow_heap _ _ _ _ _ _ (heap_alloc_new w1 _)⟩)
  go_wp2_with (first
    | (with_reducible refine wpList_build_to rfl 58 _ rfl [(0, .int .i64 (p : Int))] rfl (wrA (p, fun _ => 0)) HB.out ?_)
    | (refine wpList_store_row rfl 58 (.tmp 9) (.tmp 27) rfl w1.heap.size (wrA (p, fun _ => 0)) rfl rfl 58 _ (heap_alloc_new _ _) HWA.out (by rw [wrA_size]; rfl) HWO.out ?_
       refine gen_list (fun W => Below w1.heap.size w1 W ∧ WrAt W w1.heap.size (p, fun _ => 0)) (HNEW.out _) ?_
       rintro w5 ⟨h5, v5⟩
       have hcp := run_copy_text (P := Try.prog) w5 22 9 3 5 w1.heap.size 1 32 32 q (secL (bs q)) Try.underlying22 HSZ.out (by rw [secL_length]; exact wr_there v5) HQ.out 32 (by rw [HQS.out]; rfl)
       have H5 := Lib.hid h5
       have V5 := Lib.hid v5
       clear h5 v5))
  clear hcp
  refine gen_world (fun W => Below w1.heap.size w1 W ∧ WrC W w1.heap.size (p, bs q)) ⟨below_setCells H5.out (Nat.le_refl _) _ _, wr_copied V5.out⟩ ?_
  rintro w6 ⟨h6, v6⟩
  have q0 : 0 ≤ (p : Int) := by omega
  have q1 : (p : Int) < (y.n : Int) := by omega
  have L6 := Lib.hid (H.out.below h6)
  have L6d := Lib.hid (H.out.below h6.drew)
  have V6d := Lib.hid (show WrC w6.drew w1.heap.size (p, bs q) from v6.of_block rfl)
  have K6d := Lib.hid (HKP.out.then_below h6.drew)
  have d6 : w6.cell? ⟨D, 1, none⟩ = some (.slice (some ⟨t, 0, none⟩) y.n ct) := L6.out.cell 1
  have HSI := Lib.hid (show (Try.prog.info? 52).map (·.size) = some (secL (bs q)).length by rw [secL_length]; exact sizeS)
  have HSA := Lib.hid (show (Try.prog.info? 52).map (·.size) = some (secL (bs q)).toArray.size by rw [List.size_toArray, secL_length]; exact sizeS)
  have HSO := Lib.hid (show (secL (bs q)).toArray.all (·.oneCell') = true by rw [secA_list]; exact secA_one _)
  have hVt : w1.heap.size ≠ t := by have := H.out.tr.lt; omega
  clear h6 v6 HNEW H5 V5
  go_still_tail 8, (by kernel_rfl)
  refine wpStill_load_midK (by rfl) 52 (.tmp 37) rfl w1.heap.size 1 rfl (secL (bs q)) _ V6d.out.bytes Try.underlying52 rfl HSI.out ?_
  repeat still_step
  refine wpStill_nil ?_
  change wpList _ _ _ _ _ w6.drew
  clear d6 L6
  generalize w6.drew = w7 at L6d V6d K6d ⊢
  have HTH := Lib.hid (show w7.there t (p * 32) (secL (bs q)).toArray.size by rw [List.size_toArray, secL_length]; exact L6d.out.tr.there hp2)
  have HPN := Lib.hid (L6d.out.putNow hp2 (bs q))
  have HPV := Lib.hid (V6d.out.of_block (setCells_other t w1.heap.size hVt (secL (bs q)) (p * 32) w7))
  have HPK := Lib.hid (K6d.out.setCells (.inl H.out.kt) (p * 32) (secL (bs q)))
  refine wpList_store_mid rfl 52 (.tmp 39) (.tmp 38) rfl t (p * 32) (secL (bs q)).toArray rfl rfl HTH.out HSA.out HSO.out ?_
  refine gen_list (fun W => Lies K W D s cs t ct lv fv { y with now := putS y.now p (bs q) } ∧ WrC W w1.heap.size (p, bs q) ∧ Kept K w W) ⟨HPN.out, HPV.out, HPK.out⟩ ?_
  rintro w8 ⟨h8, v8, k8⟩
  clear HTH HPN HPV HPK L6d V6d K6d
  have H8 := Lib.hid h8
  have V8 := Lib.hid v8
  have K8 := Lib.hid k8
  have d8 : w8.cell? ⟨D, 2, none⟩ = some lv := h8.cell 2
  have d8d : w8.drew.cell? ⟨D, 2, none⟩ = some lv := h8.cell 2
  have f8d : w8.drew.frozen? ⟨D, 2, none⟩ = false := h8.fz 2
  have V8d := Lib.hid (show w8.drew.rangeAt w1.heap.size 0 (wcells (p, bs q)) from v8.all)
  have HWI := Lib.hid (show (Try.prog.info? 58).map (·.size) = some (wcells (p, bs q)).length by rw [wcells_length]; exact sizeW)
  clear h8 v8 k8
  go_wp2_with (fail)
  obtain ⟨i0, hi, hz0, hz1, hz2⟩ := info_parts infoW
  have HI := Lib.hid hi
  have HZ0 := Lib.hid hz0
  have HZ1 := Lib.hid hz1
  have HZ2 := Lib.hid hz2
  have HZS := Lib.hid (show (Value.agg (wrA noWr)).cells.size = 33 from wrA_size _)
  clear hi hz0 hz1 hz2
  have K8d := Lib.hid K8.out.drew
  have L8d := Lib.hid (H8.out.below (Below.refl _ _).drew)
  have hVs : w1.heap.size < w8.drew.heap.size := V8.out.lt
  have hD8 : D < w8.drew.heap.size := L8d.out.lt
  have hwl : w.heap.size ≤ w8.drew.heap.size := K8d.out.size
  have hlw := H.out.lo.lt
  have HLW := Lib.hid hlw
  clear d8 hlw
  refine wp_region_held_drew (S := fun W : World => W.rangeAt w1.heap.size 0 (wcells (p, bs q))) (by kernel_rfl) V8.out.all (fun hHeld => ?_)
  generalize w8.drew = w9 at d8d f8d V8d K8d L8d hVs hD8 hwl hHeld ⊢
  have d9 : (w9.alloc (.cells (wcells (p, bs q)).toArray 58)).cell? ⟨D, 2, none⟩ = some lv := by rw [World.cell?_alloc_lt _ _ _ hD8]; exact d8d
  have VK := Lib.hid (fun o => World.rangeAt_alloc V8d.out o)
  have HOW := Lib.hid (L8d.out.lo.alloc (.cells (wcells (p, bs q)).toArray 58))
  have HSR := Lib.hid (show ∀ j u, (wcells (p, bs q))[j]? = some u → (w9.alloc (.cells (wcells (p, bs q)).toArray 58)).cell? ((⟨w9.heap.size, 0, none⟩ : Addr).add j) = some u from fun j u hj => by
    rw [Addr.add_lit, Nat.zero_add, cell_of_row _ _ _ _ _ _ (heap_alloc_new w9 _), List.getElem?_toArray]; exact hj)
  obtain ⟨m, hm⟩ : ∃ m, m = y.loose.length := ⟨_, rfl⟩
  obtain ⟨M, hM⟩ : ∃ M, M = lcells y.loose := ⟨_, rfl⟩
  change Hid (World.ownsRow _ 0 _ 33 lv y.loose.length (lcells y.loose)) at HOW
  rw [← hm, ← hM] at HOW
  have hm2 : m ≤ 1073741824 := by omega
  have HPOST := Lib.hid (show ∀ (v9 : Value) (wa : World), (∀ i, v9.ownBlock = some i → lv.ownBlock = some i ∨ (w9.alloc (.cells (wcells (p, bs q)).toArray 58)).heap.size ≤ i) → wa.ownsRow 0 58 33 v9 (m + 1) (M ++ wcells (p, bs q)) → (w9.alloc (.cells (wcells (p, bs q)).toArray 58)).grownBy wa lv.ownBlock →
      ((wa.setCell ⟨D, 2, none⟩ v9).rangeAt w1.heap.size 0 (wcells (p, bs q)) ∧ DiskSays K w D (.int .i64 0) (y.put p (bs q)) (.returned (.int .i64 0)) (wa.setCell ⟨D, 2, none⟩ v9)) ∧ wa.rangeAt w1.heap.size 0 (wcells (p, bs q)) ∧ wa.cell? ⟨D, 2, none⟩ = some lv ∧ wa.frozen? ⟨D, 2, none⟩ = false from fun v9 wa hnw ho hg => by
    have hDb : wa.heap[D]? = w9.heap[D]? := (hg.block D (by simp; omega) (fun e => L8d.out.neLD D e.symm rfl)).trans (heap_alloc_old w9 _ hD8)
    have hVb : wa.heap[w1.heap.size]? = w9.heap[w1.heap.size]? := (hg.block _ (by simp; omega) (fun e => by have := (HLW.out _ e.symm).2; omega)).trans (heap_alloc_old w9 _ hVs)
    have hVD : w1.heap.size ≠ D := by have := H.out.lt; omega
    have hcell : wa.cell? ⟨D, 2, none⟩ = some lv := by rw [cell_of_row wa D 2 _ _ _ (hDb.trans L8d.out.hd)]; rfl
    have hrv : wa.rangeAt w1.heap.size 0 (wcells (p, bs q)) := fun j u hj => (World.cell?_of_block (w := w9) (a := ⟨w1.heap.size, 0 + j, none⟩) hVb).trans (V8d.out j u hj)
    have hset : ∀ i, i ≠ D → (wa.setCell ⟨D, 2, none⟩ v9).heap[i]? = wa.heap[i]? := fun i hi => heap_setCell_other wa ⟨D, 2, none⟩ i _ hi
    have hwa : w9.heap.size < wa.heap.size := Nat.lt_of_lt_of_le (by simp) hg.size
    have hold : ∀ i, i < w9.heap.size → (∀ g, lv.ownBlock = some g → i ≠ g) → wa.heap[i]? = w9.heap[i]? := fun i hi hne => (hg.block i (by simp; omega) (fun e => hne i e.symm rfl)).trans (heap_alloc_old w9 _ hi)
    have hkk : ∀ i, v9.ownBlock = some i → K i := fun i hi => by
      rcases hnw i hi with h' | h'
      · exact L8d.out.kl i h'
      · exact HK.out i (Nat.le_trans hwl (by simp at h'; omega))
    refine ⟨⟨?_, rfl, ⟨s, cs, t, ct, v9, fv, L8d.out.push (y := y.put p (bs q)) hp2 (w' := wa.setCell ⟨D, 2, none⟩ v9) ?_ (heap_setCell_same wa D 2 _ _ v9 (hDb.trans L8d.out.hd)) (fun i c u hi hu hc => ?_) hkk rfl⟩, ?_⟩, hrv, hcell, frozen_of_row wa D 2 _ _ (hDb.trans L8d.out.hd)⟩
    · exact fun j u hj => (World.cell?_of_block (w := wa) (a := ⟨w1.heap.size, 0 + j, none⟩) (hset _ hVD)).trans (hrv j u hj)
    · rw [hm, hM] at ho
      exact own_keep ho (fun g hg' => hset g (fun e => by
        obtain ⟨c, hc⟩ := own_type ho g hg'
        exact ne_type hc (hDb.trans L8d.out.hd) (by decide) e))
    · refine (hset i hi).trans (hold i (Array.getElem?_eq_some_iff.1 hc).1 (fun g hg' e => ?_))
      obtain ⟨c', hc'⟩ := own_type L8d.out.lo g hg'
      exact ne_type hc hc' hu e
    · refine ((K8d.out.alloc _).grown hg (fun g hg' => .inl (L8d.out.kl g hg'))).setCell (.inl H.out.kD) _)
  clear HLW hm hM
  refine wpAnyH_take (i := 0) (v := .pointer (some ⟨D, 0, none⟩)) rfl (by kernel_rfl) (by kernel_rfl) (by kernel_rfl) (fun _ _ _ h => h) (Or.inl ⟨by rfl, ?_⟩) hHeld ?_
  · intro W _
    go_simp
  simp only [Act.put]
  refine wpAnyH_take (i := 1) (v := .pointer (some ⟨D, 0, none⟩)) rfl (by kernel_rfl) (by kernel_rfl) (by kernel_rfl) (fun _ _ _ h => h) (Or.inl ⟨by rfl, ?_⟩) hHeld ?_
  · intro W _
    go_simp
  simp only [Act.put]
  refine wpAnyH_take (i := 2) (v := .pointer (some ⟨D, 0, none⟩)) rfl (by kernel_rfl) (by kernel_rfl) (by kernel_rfl) (fun _ _ _ h => h) (Or.inl ⟨by rfl, ?_⟩) hHeld ?_
  · intro W _
    go_simp
  simp only [Act.put]
  refine wpAnyH_take (i := 3) (v := .pointer (some ⟨D, 2, none⟩)) rfl (by kernel_rfl) (by kernel_rfl) (by kernel_rfl) (fun _ _ _ h => h) (Or.inl ⟨by rfl, ?_⟩) hHeld ?_
  · intro W _
    go_simp
  simp only [Act.put]
  refine wpAnyH_take (i := 5) (v := .agg (wcells (p, bs q)).toArray) rfl (by kernel_rfl) (by kernel_rfl) (by kernel_rfl) (fun _ _ _ h => h) (yieldsIf_load_mid (by rfl) 58 _ rfl w1.heap.size 0 rfl (wcells (p, bs q)) _ (fun W hW => hW) Try.underlying58 rfl HWI.out) hHeld ?_
  simp only [Act.put]
  refine wpAnyH_ready (rs := [4, 6]) (by kernel_rfl) (by simp) ?_
  refine AllReadyH.cons rfl (fun K' hK => ?_) (AllReadyH.cons rfl (fun K' hK => ?_) AllReadyH.nil)
  · go_simp
    refine hK.out _ _ V8d.out (fun hHeld => ?_)
    clear hK K'
    refine wpAnyH_ready (rs := [6]) (by kernel_rfl) (by simp) ?_
    refine AllReadyH.cons rfl (fun K' hK => ?_) AllReadyH.nil
    rw [if_pos (by rfl)]
    refine wp_sliceOneK 53 58 (.tmp 45) rfl (some 46) rfl Try.underlying53 (wcells (p, bs q)).toArray rfl (slice_wr p _) ?_
    refine hK.out _ _ (VK.out _) (fun hHeld => ?_)
    clear hK K'
    simp only [Act.put]
    refine wpAnyH_ready (rs := [7]) (by kernel_rfl) (by simp) ?_
    refine AllReadyH.cons rfl (fun K' hK => ?_) AllReadyH.nil
    rw [if_pos (by rfl)]
    refine wp_append_lies _ (.tmp 44) (.tmp 46) 53 rfl 0 58 i0 _ 33 40 Try.underlying53 HI.out HZ0.out HZ1.out HZ2.out HZS.out (by omega) lv m M rfl HOW.out ⟨w9.heap.size, 0, none⟩ 1 1 (wcells (p, bs q)) rfl (by rw [wcells_length]) HSR.out (wcells_one _) (by omega) (by unfold maxLen; omega) (by omega) (Nat.zero_le _) _ rfl ?_
    intro g9 c9 wa hown9 hg9 hor9 _
    have hlie : ∀ i, (Value.slice (some ⟨g9, 0, none⟩) (m + 1) c9).ownBlock = some i → lv.ownBlock = some i ∨ (w9.alloc (.cells (wcells (p, bs q)).toArray 58)).heap.size ≤ i := fun i hi => by
      injection hi with hi
      subst hi
      rcases hor9 with h' | h'
      · exact .inl h'
      · exact .inr (by rw [h']; exact Nat.le_refl _)
    obtain ⟨hpost, hVa, hcz, hfz⟩ := HPOST.out _ wa hlie hown9 hg9
    have HPO := Lib.hid hpost
    refine hK.out _ _ hVa (fun hHeld => ?_)
    clear hK K' hown9 hg9 hor9 hlie hpost hVa
    simp only [Act.put]
    refine wpAnyH_take (i := 8) (v := .pointer (some ⟨D, 0, none⟩)) rfl (by kernel_rfl) (by kernel_rfl) (by kernel_rfl) (fun _ _ _ h => h) (Or.inl ⟨by rfl, ?_⟩) hHeld ?_
    · intro W _
      go_simp
    simp only [Act.put]
    refine wpAnyH_take (i := 9) (v := .pointer (some ⟨D, 2, none⟩)) rfl (by kernel_rfl) (by kernel_rfl) (by kernel_rfl) (fun _ _ _ h => h) (Or.inl ⟨by rfl, ?_⟩) hHeld ?_
    · intro W _
      go_simp
    simp only [Act.put]
    refine wpAnyH_ready (rs := [10]) (by kernel_rfl) (by simp) ?_
    refine AllReadyH.cons rfl (fun K' hK => ?_) AllReadyH.nil
    go_simp
    refine hK.out _ _ HPO.out.1 (fun hHeld => ?_)
    clear hK K'
    refine wpAnyH_done (by kernel_rfl) ?_ _
    clear hHeld
    go_wp2_with (fail)
    refine bodyPost_ret (results_tmp rfl _ _ _) rfl ?_
    exact HPO.out.2
  · rw [if_pos (by rfl)]
    refine wp_sliceOneK 53 58 (.tmp 45) rfl (some 46) rfl Try.underlying53 (wcells (p, bs q)).toArray rfl (slice_wr p _) ?_
    refine hK.out _ _ (VK.out _) (fun hHeld => ?_)
    clear hK K'
    simp only [Act.put]
    refine wpAnyH_ready (rs := [4]) (by kernel_rfl) (by simp) ?_
    refine AllReadyH.cons rfl (fun K' hK => ?_) AllReadyH.nil
    go_simp
    refine hK.out _ _ (VK.out _) (fun hHeld => ?_)
    clear hK K'
    refine wpAnyH_ready (rs := [7]) (by kernel_rfl) (by simp) ?_
    refine AllReadyH.cons rfl (fun K' hK => ?_) AllReadyH.nil
    rw [if_pos (by rfl)]
    refine wp_append_lies _ (.tmp 44) (.tmp 46) 53 rfl 0 58 i0 _ 33 40 Try.underlying53 HI.out HZ0.out HZ1.out HZ2.out HZS.out (by omega) lv m M rfl HOW.out ⟨w9.heap.size, 0, none⟩ 1 1 (wcells (p, bs q)) rfl (by rw [wcells_length]) HSR.out (wcells_one _) (by omega) (by unfold maxLen; omega) (by omega) (Nat.zero_le _) _ rfl ?_
    intro g9 c9 wa hown9 hg9 hor9 _
    have hlie : ∀ i, (Value.slice (some ⟨g9, 0, none⟩) (m + 1) c9).ownBlock = some i → lv.ownBlock = some i ∨ (w9.alloc (.cells (wcells (p, bs q)).toArray 58)).heap.size ≤ i := fun i hi => by
      injection hi with hi
      subst hi
      rcases hor9 with h' | h'
      · exact .inl h'
      · exact .inr (by rw [h']; exact Nat.le_refl _)
    obtain ⟨hpost, hVa, hcz, hfz⟩ := HPOST.out _ wa hlie hown9 hg9
    have HPO := Lib.hid hpost
    refine hK.out _ _ hVa (fun hHeld => ?_)
    clear hK K' hown9 hg9 hor9 hlie hpost hVa
    simp only [Act.put]
    refine wpAnyH_take (i := 8) (v := .pointer (some ⟨D, 0, none⟩)) rfl (by kernel_rfl) (by kernel_rfl) (by kernel_rfl) (fun _ _ _ h => h) (Or.inl ⟨by rfl, ?_⟩) hHeld ?_
    · intro W _
      go_simp
    simp only [Act.put]
    refine wpAnyH_take (i := 9) (v := .pointer (some ⟨D, 2, none⟩)) rfl (by kernel_rfl) (by kernel_rfl) (by kernel_rfl) (fun _ _ _ h => h) (Or.inl ⟨by rfl, ?_⟩) hHeld ?_
    · intro W _
      go_simp
    simp only [Act.put]
    refine wpAnyH_ready (rs := [10]) (by kernel_rfl) (by simp) ?_
    refine AllReadyH.cons rfl (fun K' hK => ?_) AllReadyH.nil
    go_simp
    refine hK.out _ _ HPO.out.1 (fun hHeld => ?_)
    clear hK K'
    refine wpAnyH_done (by kernel_rfl) ?_ _
    clear hHeld
    go_wp2_with (fail)
    refine bodyPost_ret (results_tmp rfl _ _ _) rfl ?_
    exact HPO.out.2
end
end Go.Proofs.Ytmnponjngdnolaa
