/-
  Package disk: Write. Conditions: the disk stands in blocks of its own; fewer than 2^62 writes were done, fewer than 2^30 aren't safe.
  A disk of blocks that weren't there at the beginning: what each call answers, and what stands there then. Conditions: as each call's own.
  Package disk: Image. Conditions: the disk stands in blocks of its own.
  What is found behind a loss of power: each sector is what was synced there, or what was written there since. No program here. No conditions.
-/
import Derived.Test.YtfpkgcofkgpgnaaDoorMg3
import Derived.Great.Walk
import Derived.Deep.RegionHeld3
import Derived.Deep.AppendLies
set_option maxRecDepth 100000
namespace Go.Proofs.YtfpkgcofkgpgnaaDoor
open Go.ChangeShapes Go.WideShapes Go.ChangeAt Go.RowKit Dk

namespace Dk
/-- The bytes of a text. -/
def bs (q : ByteArray) (j : Nat) : UInt8 := q.data.toList.getD j 0
theorem bs_secS (g : Nat → UInt8) (j : Nat) (h : j < 32) : bs (secS g) j = g j := by
  unfold bs secS
  rw [List.getD_eq_getElem?_getD]
  simp [h]
theorem secL_bs {q : ByteArray} (h : q.size = 32) : secL (bs q) = (q.data.toList.take (min q.size 32)).map fun x => Value.int .u8 (x.toNat : Int) := by
  have hl : q.data.toList.length = 32 := h
  rw [h, Nat.min_self, List.take_of_length_le (by omega)]
  apply List.ext_getElem?
  intro j
  by_cases hj : j < 32
  · rw [secL_get _ _ hj, List.getElem?_map, List.getElem?_eq_getElem (by omega)]
    unfold bs
    rw [List.getD_eq_getElem?_getD, List.getElem?_eq_getElem (by omega)]
    rfl
  · rw [List.getElem?_eq_none (by rw [secL_length]; omega), List.getElem?_eq_none (by rw [List.length_map]; omega)]
end Dk
/-- The builtin copy of a text into cells. -/
theorem run_copy_text {P : Program} (w : World) (dT sT ty elem : TypeId) (b o dLen dCap : Nat) (q : ByteArray) (cs : List Value)
    (hu : P.underlying dT = some (.slice elem)) (hz : ∀ w, (Go.sizeOf elem).run P w = .ok 1 w) (ht : w.there b o cs.length)
    (hcs : cs = (q.data.toList.take (min q.size dLen)).map fun x => Value.int .u8 (x.toNat : Int)) (n : Nat) (hn : n = min q.size dLen) :
    (Builtin.copy_ #[dT, sT] ty #[.slice (some ⟨b, o, none⟩) dLen dCap, .string q]).run P w = .ok (goInt n) (w.setCells b o cs) := by
  subst hn
  have hst := run_storeCells_cells (P := P) b o cs 0 w (fun j hj => by simpa using (ht j hj).1) (fun j hj => by simpa using (ht j hj).2) (by
    intro v hv
    rw [hcs] at hv
    obtain ⟨x, _, rfl⟩ := List.mem_map.1 hv
    rfl)
  rw [Nat.add_zero] at hst
  have hmin : Nat.min q.size dLen = min q.size dLen := rfl
  simp [Builtin.copy_, run_underlying hu, Builtin.lenOf, Builtin.firstCells, hz, hmin]
  rw [← List.map_take, ← hcs, hst]
  rfl
theorem infoW : (Tryd.prog.info? 68).map (fun i => (i.zero, i.size, i.bytes)) = some (some (.agg (wrA noWr)), 33, 40) := by kernel_rfl
set_option maxRecDepth 100000 in
theorem built_wr (p : Nat) : Tryd.prog.built 68 [(0, .int .i64 (p : Int))] = some (wrA (p, fun _ => 0)) := by kernel_rfl
/-- A write lies in block v. -/
structure WrC (w : World) (v : Nat) (y : Wr) : Prop where
  all : w.rangeAt v 0 (wcells y)
  lt : v < w.heap.size
theorem WrC.place {w : World} {v : Nat} {y : Wr} (h : WrC w v y) : w.cell? ⟨v, 0, none⟩ = some (.int .i64 (y.1 : Int)) := h.all 0 _ rfl
theorem WrC.bytes {w : World} {v : Nat} {y : Wr} (h : WrC w v y) : w.rangeAt v 1 (secL y.2) := fun j u hj => by
  have := h.all (j + 1) u hj
  rwa [show 0 + (j + 1) = 1 + j by omega] at this
theorem WrC.of_block {w w' : World} {v : Nat} {y : Wr} (h : WrC w v y) (e : w'.heap[v]? = w.heap[v]?) : WrC w' v y :=
  ⟨fun j u hj => (World.cell?_of_block (w := w) e).trans (h.all j u hj), by
    have h1 := Array.getElem?_eq_getElem h.lt
    rw [← e] at h1
    exact (Array.getElem?_eq_some_iff.1 h1).1⟩
theorem wr_there {w : World} {v : Nat} {y : Wr} (h : WrAt w v y) : w.there v 1 32 := fun j hj => ⟨by
  rw [h.bytes j (.int .u8 ((y.2 j).toNat : Int)) (secL_get _ _ hj)]; rfl, frozen_of_row w v _ _ _ h⟩
theorem wr_copied {w : World} {v p : Nat} {f g : Nat → UInt8} (h : WrAt w v (p, f)) : WrC (w.setCells v 1 (secL g)) v (p, g) := by
  refine ⟨fun j u hj => ?_, by rw [setCells_size]; exact h.lt⟩
  cases j with
  | zero =>
    rw [World.cell?_setCells_out v _ _ _ _ (fun _ _ => Or.inl (by show 0 + 0 < 1; omega)), ← hj]
    exact h.place
  | succ j =>
    have hl := (List.getElem?_eq_some_iff.1 hj).1
    rw [wcells_length] at hl
    have := World.rangeAt_setCells_same w v 1 (secL g) (by rw [secL_length]; exact wr_there h) j u hj
    rwa [show 0 + (j + 1) = 1 + j by omega]
theorem below_setCells {B : Nat} {w0 w : World} (h : Below B w0 w) {g : Nat} (hg : B ≤ g) (o : Nat) (vs : List Value) : Below B w0 (w.setCells g o vs) := by
  obtain ⟨h1, h2, h3⟩ := setCells_os g vs o w
  exact ⟨h1.trans h.os, h2.trans h.tape, h3.trans h.output, by rw [setCells_size]; exact h.size, fun k hk => (setCells_other g k (by omega) vs o w).trans (h.block k hk)⟩
/-- A sector written in the row of what was written last. -/
theorem Lies.putNow {K : Nat → Prop} {w : World} {D s cs t ct : Nat} {lv fv : Value} {x : St} (h : Lies K w D s cs t ct lv fv x) {p : Nat} (hp : p < x.n) (g : Nat → UInt8) : Lies K (w.setCells t (p * 32) (secL g)) D s cs t ct lv fv { x with now := putS x.now p g } := by
  have ho : ∀ i, i ≠ t → (w.setCells t (p * 32) (secL g)).heap[i]? = w.heap[i]? := fun i hi => setCells_other t i hi _ _ _
  obtain ⟨c, hc, _⟩ := h.tr
  have hfu : FuseAt K (w.setCells t (p * 32) (secL g)) fv x.fuse := by
    have h0 := h.fu
    generalize x.fuse = fu at h0 ⊢
    match fu, h0 with
    | none, h0 => exact (show fv = .pointer none from h0)
    | some (l, kl), ⟨fb, kv, h1, h2, h3, h4, h5⟩ => exact ⟨fb, kv, h1, (ho fb (ne_type h2 hc (by decide))).trans h2, h3.keepT (fun i cur hi => ho i (ne_type hi hc (by decide))), h4, h5⟩
  exact ⟨(ho D h.neDt).trans h.hd, h.sr.of_block (ho s h.ne), h.tr.put hp g, h.ne, h.cs, h.ct, own_keep h.lo (fun i hi => ho i (h.neLt i hi)), hfu, h.pl, h.nb, h.kD, h.ks, h.kt, h.kl⟩
theorem wp_sliceOneK {P : Program} {o : Oper} {a : Act} {w : World} {K : Act → World → Prop} {Q : Exit → Act → World → Prop} (t e : TypeId) (x : Operand) (ho : o.op = .buildSlice t 1 #[(0, x)])
    (dst : Option Tmp) (hdst : o.dst = dst) (hu : P.underlying t = some (.slice e)) (cells : Array Value) (hx : a.eval x = .agg cells) (hf : P.builtSlice e 1 [(0, .agg cells)] = some cells)
    (h : K (a.put dst (.slice (some ⟨w.heap.size, 0, none⟩) 1 1)) (w.alloc (.cells cells e))) : o.wp P a w K Q := by
  subst hdst
  have ee : ((#[(0, x)] : Array (Nat × Operand)).map fun (i, y) => (i, a.eval y)).toList = [(0, .agg cells)] := by simp [hx]
  unfold Program.builtSlice at hf
  cases hie : P.info? e with
  | none => simp [hie] at hf
  | some ie =>
    simp only [hie] at hf
    cases hz : ie.zero with
    | none => simp [hz] at hf
    | some z =>
      simp only [hz] at hf
      by_cases hc : 1 * ie.size > 2 ^ 24 ∨ 1 * ie.size = 0
      · rw [if_pos hc] at hf; cases hf
      · rw [if_neg hc] at hf
        exact wp_buildSlice t e 1 #[(0, x)] ho cells ie z hu hie hz (fun h' => hc (Or.inl h')) (fun h' => hc (Or.inr h')) (by rw [ee]; exact hf) h
set_option maxRecDepth 100000 in
theorem slice_wr (p : Nat) (g : Nat → UInt8) : Tryd.prog.builtSlice 68 1 [(0, .agg (wcells (p, g)).toArray)] = some (wcells (p, g)).toArray := by kernel_rfl
/-- A write appended to those that aren't safe. -/
theorem Lies.push {K : Nat → Prop} {w w' : World} {D s cs t ct : Nat} {lv lv' fv : Value} {x y : St} {p : Nat} {g : Nat → UInt8} (h : Lies K w D s cs t ct lv fv x) (hp : p < x.n) (hown : w'.ownsRow 0 68 33 lv' (x.loose.length + 1) (lcells x.loose ++ wcells (p, g)))
    (hh : w'.heap[D]? = some (.cells #[.slice (some ⟨s, 0, none⟩) x.n cs, .slice (some ⟨t, 0, none⟩) x.n ct, lv', fv, .bool x.away, .int .i64 (x.done : Int)] 64 (0, 0)))
    (ho : ∀ (i : Nat) (c : Array Value) (u : TypeId), i ≠ D → u ≠ 68 → w.heap[i]? = some (.cells c u (0, 0)) → w'.heap[i]? = w.heap[i]?) (hk : ∀ i, lv'.ownBlock = some i → K i) (hy : y = { x with loose := x.loose ++ [(p, g)] }) : Lies K w' D s cs t ct lv' fv y := by
  subst hy
  obtain ⟨c1, hc1, _⟩ := h.sr
  obtain ⟨c2, hc2, _⟩ := h.tr
  have hfu : FuseAt K w' fv x.fuse := by
    have h0 := h.fu
    generalize x.fuse = fu at h0 ⊢
    match fu, h0 with
    | none, h0 => exact (show fv = .pointer none from h0)
    | some (l, kl), ⟨fb, kv, h1, h2, h3, h4, h5⟩ => exact ⟨fb, kv, h1, (ho fb _ _ (ne_type h2 h.hd (by decide)) (by decide) h2).trans h2, h3.keepT (fun i cur hi => ho i _ _ (ne_type hi h.hd (by decide)) (by decide) hi), h4, h5⟩
  exact ⟨hh, h.sr.of_block (ho s _ _ h.neDs.symm (by decide) hc1), h.tr.of_block (ho t _ _ h.neDt.symm (by decide) hc2), h.ne, h.cs, h.ct, by rw [List.length_append, lcells_append, lcells_one]; exact hown, hfu,
    fun z hz => by
      rcases List.mem_append.1 hz with hz | hz
      · exact h.pl z hz
      · rw [List.mem_singleton.1 hz]; exact hp, h.nb, h.kD, h.ks, h.kt, hk⟩
section
variable (K : Nat → Prop) (w : World) (D : Nat) (x : St)
set_option maxRecDepth 100000 in
set_option maxHeartbeats 3200000 in
/-- A write, behind what the fuse burnt to. -/
theorem disk_write_ok (h : DiskAt K w D x) (ha : x.away = false) (hl : x.loose.length ≤ 1073741824) (p : Nat) (hp : p < x.n) (q : ByteArray) (hq : q.size = 32) (hK : ∀ i, w.heap.size ≤ i → K i)
    (hb : Calls Tryd.prog 24 #[.pointer (some ⟨D, 0, none⟩)] w (DiskSays K w D (.int .i64 0) x.burnt)) :
    Calls Tryd.prog 64 #[.pointer (some ⟨D, 0, none⟩), .int .i64 (p : Int), .string q] w (DiskSays K w D (.int .i64 0) (x.burnt.put p (bs q))) := by
  have hr := disk_reach K w D x h (p : Int)
  rw [reach_in (by omega) (by omega), ha, if_neg Bool.false_ne_true] at hr
  have HR := Lib.hid hr
  have HBU := Lib.hid hb
  have HK := Lib.hid hK
  have hl2 : x.burnt.loose.length ≤ 1073741824 := hl
  have hp2 : p < x.burnt.n := hp
  clear hr h hb hK
  generalize x.burnt = y at HBU hl2 hp2 ⊢
  clear hl hp ha
  have HQ := Lib.hid (secL_bs hq)
  have hq2 : (q.size : Int) = 32 := by omega
  have hq3 : ((q.size : Int) == 32) = true := by rw [hq2]; rfl
  have HQS := Lib.hid hq
  clear hq
  go_enter Tryd.func64, Tryd.ntmps64
  go_wp2_with (fail)
  refine HR.out.mono ?_
  rintro e w1 ⟨rfl, rfl⟩
  clear HR
  go_wp2_with (fail)
  refine HBU.out.mono ?_
  rintro e w1 ⟨rfl, ⟨s, cs, t, ct, lv, fv, h⟩, hk⟩
  have H := Lib.hid h
  have HKP := Lib.hid hk
  clear h hk HBU
  have HWA := Lib.hid (show (Tryd.prog.info? 68).map (·.size) = some (wrA (p, fun _ => 0)).size by rw [wrA_size]; exact sizeW)
  have HWO := Lib.hid (wrA_one (p, fun _ => 0))
  have HB := Lib.hid (built_wr p)
  have HSZ := Lib.hid (fun W : World => (show (Go.sizeOf 5).run Tryd.prog W = .ok 1 W by kernel_rfl))
  have HNEW := Lib.hid (show ∀ z, Below w1.heap.size w1 ((w1.alloc (.cells z 68)).setRow w1.heap.size (wrA (p, fun _ => 0))) ∧ WrAt ((w1.alloc (.cells z 68)).setRow w1.heap.size (wrA (p, fun _ => 0))) w1.heap.size (p, fun _ => 0) from fun z =>
    ⟨below_setRow' ((Below.refl w1.heap.size w1).alloc (Nat.le_refl _) (.cells z 68)) (Nat.le_refl _) (wrA (p, fun _ => 0)), setRow_heap _ _ _ _ _ _ (heap_alloc_new w1 _)⟩)
  go_wp2_with (first
    | (with_reducible refine wpList_build_to rfl 68 _ rfl [(0, .int .i64 (p : Int))] rfl (wrA (p, fun _ => 0)) HB.out ?_)
    | (refine wpList_store_row rfl 68 (.tmp 9) (.tmp 27) rfl w1.heap.size (wrA (p, fun _ => 0)) rfl rfl 68 _ (heap_alloc_new _ _) HWA.out (by rw [wrA_size]; rfl) HWO.out ?_
       refine gen_list (fun W => Below w1.heap.size w1 W ∧ WrAt W w1.heap.size (p, fun _ => 0)) (HNEW.out _) ?_
       rintro w5 ⟨h5, v5⟩
       have hcp := run_copy_text (P := Tryd.prog) w5 77 9 3 5 w1.heap.size 1 32 32 q (secL (bs q)) Tryd.underlying77 HSZ.out (by rw [secL_length]; exact wr_there v5) HQ.out 32 (by rw [HQS.out]; rfl)
       have H5 := Lib.hid h5
       have V5 := Lib.hid v5
       clear h5 v5))
  clear hcp
  refine gen_world (fun W => Below w1.heap.size w1 W ∧ WrC W w1.heap.size (p, bs q)) ⟨below_setCells H5.out (Nat.le_refl _) _ _, wr_copied V5.out⟩ ?_
  rintro w6 ⟨h6, v6⟩
  have q0 : 0 ≤ (p : Int) := by omega
  have q1 : (p : Int) < (y.n : Int) := by omega
  have L6 := Lib.hid (H.out.below h6)
  have L6d := Lib.hid (H.out.below h6.drew)
  have V6d := Lib.hid (show WrC w6.drew w1.heap.size (p, bs q) from v6.of_block rfl)
  have K6d := Lib.hid (HKP.out.then_below h6.drew)
  have d6 : w6.cell? ⟨D, 1, none⟩ = some (.slice (some ⟨t, 0, none⟩) y.n ct) := L6.out.cell 1
  have HSI := Lib.hid (show (Tryd.prog.info? 66).map (·.size) = some (secL (bs q)).length by rw [secL_length]; exact sizeS)
  have HSA := Lib.hid (show (Tryd.prog.info? 66).map (·.size) = some (secL (bs q)).toArray.size by rw [List.size_toArray, secL_length]; exact sizeS)
  have HSO := Lib.hid (show (secL (bs q)).toArray.all (·.oneCell') = true by rw [secA_list]; exact secA_one _)
  have hVt : w1.heap.size ≠ t := by have := H.out.tr.lt; omega
  clear h6 v6 HNEW H5 V5
  go_still_tail 8, (by kernel_rfl)
  refine wpStill_load_midK (by rfl) 66 (.tmp 37) rfl w1.heap.size 1 rfl (secL (bs q)) _ V6d.out.bytes Tryd.underlying66 rfl HSI.out ?_
  repeat still_step
  refine wpStill_nil ?_
  change wpList _ _ _ _ _ w6.drew
  clear d6 L6
  generalize w6.drew = w7 at L6d V6d K6d ⊢
  have HTH := Lib.hid (show w7.there t (p * 32) (secL (bs q)).toArray.size by rw [List.size_toArray, secL_length]; exact L6d.out.tr.there hp2)
  have HPN := Lib.hid (L6d.out.putNow hp2 (bs q))
  have HPV := Lib.hid (V6d.out.of_block (setCells_other t w1.heap.size hVt (secL (bs q)) (p * 32) w7))
  have HPK := Lib.hid (K6d.out.setCells (.inl H.out.kt) (p * 32) (secL (bs q)))
  refine wpList_store_mid rfl 66 (.tmp 39) (.tmp 38) rfl t (p * 32) (secL (bs q)).toArray rfl rfl HTH.out HSA.out HSO.out ?_
  refine gen_list (fun W => Lies K W D s cs t ct lv fv { y with now := putS y.now p (bs q) } ∧ WrC W w1.heap.size (p, bs q) ∧ Kept K w W) ⟨HPN.out, HPV.out, HPK.out⟩ ?_
  rintro w8 ⟨h8, v8, k8⟩
  clear HTH HPN HPV HPK L6d V6d K6d
  have H8 := Lib.hid h8
  have V8 := Lib.hid v8
  have K8 := Lib.hid k8
  have d8 : w8.cell? ⟨D, 2, none⟩ = some lv := h8.cell 2
  have d8d : w8.drew.cell? ⟨D, 2, none⟩ = some lv := h8.cell 2
  have f8d : w8.drew.frozen? ⟨D, 2, none⟩ = false := h8.fz 2
  have V8d := Lib.hid (show w8.drew.rangeAt w1.heap.size 0 (wcells (p, bs q)) from v8.all)
  have HWI := Lib.hid (show (Tryd.prog.info? 68).map (·.size) = some (wcells (p, bs q)).length by rw [wcells_length]; exact sizeW)
  clear h8 v8 k8
  go_wp2_with (fail)
  obtain ⟨i0, hi, hz0, hz1, hz2⟩ := info_parts infoW
  have HI := Lib.hid hi
  have HZ0 := Lib.hid hz0
  have HZ1 := Lib.hid hz1
  have HZ2 := Lib.hid hz2
  have HZS := Lib.hid (show (Value.agg (wrA noWr)).cells.size = 33 from wrA_size _)
  clear hi hz0 hz1 hz2
  have K8d := Lib.hid K8.out.drew
  have L8d := Lib.hid (H8.out.below (Below.refl _ _).drew)
  have hVs : w1.heap.size < w8.drew.heap.size := V8.out.lt
  have hD8 : D < w8.drew.heap.size := L8d.out.lt
  have hwl : w.heap.size ≤ w8.drew.heap.size := K8d.out.size
  have hlw := H.out.lo.lt
  have HLW := Lib.hid hlw
  clear d8 hlw
  refine wp_region_held_drew (S := fun W : World => W.rangeAt w1.heap.size 0 (wcells (p, bs q))) (by kernel_rfl) V8.out.all (fun hHeld => ?_)
  generalize w8.drew = w9 at d8d f8d V8d K8d L8d hVs hD8 hwl hHeld ⊢
  have d9 : (w9.alloc (.cells (wcells (p, bs q)).toArray 68)).cell? ⟨D, 2, none⟩ = some lv := by rw [World.cell?_alloc_lt _ _ _ hD8]; exact d8d
  have VK := Lib.hid (fun o => World.rangeAt_alloc V8d.out o)
  have HOW := Lib.hid (L8d.out.lo.alloc (.cells (wcells (p, bs q)).toArray 68))
  have HSR := Lib.hid (show ∀ j u, (wcells (p, bs q))[j]? = some u → (w9.alloc (.cells (wcells (p, bs q)).toArray 68)).cell? ((⟨w9.heap.size, 0, none⟩ : Addr).add j) = some u from fun j u hj => by
    rw [Addr.add_lit, Nat.zero_add, cell_of_row _ _ _ _ _ _ (heap_alloc_new w9 _), List.getElem?_toArray]; exact hj)
  obtain ⟨m, hm⟩ : ∃ m, m = y.loose.length := ⟨_, rfl⟩
  obtain ⟨M, hM⟩ : ∃ M, M = lcells y.loose := ⟨_, rfl⟩
  change Hid (World.ownsRow _ 0 _ 33 lv y.loose.length (lcells y.loose)) at HOW
  rw [← hm, ← hM] at HOW
  have hm2 : m ≤ 1073741824 := by omega
  have HPOST := Lib.hid (show ∀ (v9 : Value) (wa : World), (∀ i, v9.ownBlock = some i → lv.ownBlock = some i ∨ (w9.alloc (.cells (wcells (p, bs q)).toArray 68)).heap.size ≤ i) → wa.ownsRow 0 68 33 v9 (m + 1) (M ++ wcells (p, bs q)) → (w9.alloc (.cells (wcells (p, bs q)).toArray 68)).grownBy wa lv.ownBlock →
      ((wa.setCell ⟨D, 2, none⟩ v9).rangeAt w1.heap.size 0 (wcells (p, bs q)) ∧ DiskSays K w D (.int .i64 0) (y.put p (bs q)) (.returned (.int .i64 0)) (wa.setCell ⟨D, 2, none⟩ v9)) ∧ wa.rangeAt w1.heap.size 0 (wcells (p, bs q)) ∧ wa.cell? ⟨D, 2, none⟩ = some lv ∧ wa.frozen? ⟨D, 2, none⟩ = false from fun v9 wa hnw ho hg => by
    have hDb : wa.heap[D]? = w9.heap[D]? := (hg.block D (by simp; omega) (fun e => L8d.out.neLD D e.symm rfl)).trans (heap_alloc_old w9 _ hD8)
    have hVb : wa.heap[w1.heap.size]? = w9.heap[w1.heap.size]? := (hg.block _ (by simp; omega) (fun e => by have := (HLW.out _ e.symm).2; omega)).trans (heap_alloc_old w9 _ hVs)
    have hVD : w1.heap.size ≠ D := by have := H.out.lt; omega
    have hcell : wa.cell? ⟨D, 2, none⟩ = some lv := by rw [cell_of_row wa D 2 _ _ _ (hDb.trans L8d.out.hd)]; rfl
    have hrv : wa.rangeAt w1.heap.size 0 (wcells (p, bs q)) := fun j u hj => (World.cell?_of_block (w := w9) (a := ⟨w1.heap.size, 0 + j, none⟩) hVb).trans (V8d.out j u hj)
    have hset : ∀ i, i ≠ D → (wa.setCell ⟨D, 2, none⟩ v9).heap[i]? = wa.heap[i]? := fun i hi => heap_setCell_other wa ⟨D, 2, none⟩ i _ hi
    have hwa : w9.heap.size < wa.heap.size := Nat.lt_of_lt_of_le (by simp) hg.size
    have hold : ∀ i, i < w9.heap.size → (∀ g, lv.ownBlock = some g → i ≠ g) → wa.heap[i]? = w9.heap[i]? := fun i hi hne => (hg.block i (by simp; omega) (fun e => hne i e.symm rfl)).trans (heap_alloc_old w9 _ hi)
    have hkk : ∀ i, v9.ownBlock = some i → K i := fun i hi => by
      rcases hnw i hi with h' | h'
      · exact L8d.out.kl i h'
      · exact HK.out i (Nat.le_trans hwl (by simp at h'; omega))
    refine ⟨⟨?_, rfl, ⟨s, cs, t, ct, v9, fv, L8d.out.push (y := y.put p (bs q)) hp2 (w' := wa.setCell ⟨D, 2, none⟩ v9) ?_ (heap_setCell_same wa D 2 _ _ v9 (hDb.trans L8d.out.hd)) (fun i c u hi hu hc => ?_) hkk rfl⟩, ?_⟩, hrv, hcell, frozen_of_row wa D 2 _ _ (hDb.trans L8d.out.hd)⟩
    · exact fun j u hj => (World.cell?_of_block (w := wa) (a := ⟨w1.heap.size, 0 + j, none⟩) (hset _ hVD)).trans (hrv j u hj)
    · rw [hm, hM] at ho
      exact own_keep ho (fun g hg' => hset g (fun e => by
        obtain ⟨c, hc⟩ := own_type ho g hg'
        exact ne_type hc (hDb.trans L8d.out.hd) (by decide) e))
    · refine (hset i hi).trans (hold i (Array.getElem?_eq_some_iff.1 hc).1 (fun g hg' e => ?_))
      obtain ⟨c', hc'⟩ := own_type L8d.out.lo g hg'
      exact ne_type hc hc' hu e
    · refine ((K8d.out.alloc _).grown hg (fun g hg' => .inl (L8d.out.kl g hg'))).setCell (.inl H.out.kD) _)
  clear HLW hm hM
  refine wpAnyH_take (i := 0) (v := .pointer (some ⟨D, 0, none⟩)) rfl (by kernel_rfl) (by kernel_rfl) (by kernel_rfl) (fun _ _ _ h => h) (Or.inl ⟨by rfl, ?_⟩) hHeld ?_
  · intro W _
    go_simp
  simp only [Act.put]
  refine wpAnyH_take (i := 1) (v := .pointer (some ⟨D, 0, none⟩)) rfl (by kernel_rfl) (by kernel_rfl) (by kernel_rfl) (fun _ _ _ h => h) (Or.inl ⟨by rfl, ?_⟩) hHeld ?_
  · intro W _
    go_simp
  simp only [Act.put]
  refine wpAnyH_take (i := 2) (v := .pointer (some ⟨D, 0, none⟩)) rfl (by kernel_rfl) (by kernel_rfl) (by kernel_rfl) (fun _ _ _ h => h) (Or.inl ⟨by rfl, ?_⟩) hHeld ?_
  · intro W _
    go_simp
  simp only [Act.put]
  refine wpAnyH_take (i := 3) (v := .pointer (some ⟨D, 2, none⟩)) rfl (by kernel_rfl) (by kernel_rfl) (by kernel_rfl) (fun _ _ _ h => h) (Or.inl ⟨by rfl, ?_⟩) hHeld ?_
  · intro W _
    go_simp
  simp only [Act.put]
  refine wpAnyH_take (i := 5) (v := .agg (wcells (p, bs q)).toArray) rfl (by kernel_rfl) (by kernel_rfl) (by kernel_rfl) (fun _ _ _ h => h) (yieldsIf_load_mid (by rfl) 68 _ rfl w1.heap.size 0 rfl (wcells (p, bs q)) _ (fun W hW => hW) Tryd.underlying68 rfl HWI.out) hHeld ?_
  simp only [Act.put]
  refine wpAnyH_ready (rs := [4, 6]) (by kernel_rfl) (by simp) ?_
  refine AllReadyH.cons rfl (fun K' hK => ?_) (AllReadyH.cons rfl (fun K' hK => ?_) AllReadyH.nil)
  · go_simp
    refine hK.out _ _ V8d.out (fun hHeld => ?_)
    clear hK K'
    refine wpAnyH_ready (rs := [6]) (by kernel_rfl) (by simp) ?_
    refine AllReadyH.cons rfl (fun K' hK => ?_) AllReadyH.nil
    rw [if_pos (by rfl)]
    refine wp_sliceOneK 61 68 (.tmp 45) rfl (some 46) rfl Tryd.underlying61 (wcells (p, bs q)).toArray rfl (slice_wr p _) ?_
    refine hK.out _ _ (VK.out _) (fun hHeld => ?_)
    clear hK K'
    simp only [Act.put]
    refine wpAnyH_ready (rs := [7]) (by kernel_rfl) (by simp) ?_
    refine AllReadyH.cons rfl (fun K' hK => ?_) AllReadyH.nil
    rw [if_pos (by rfl)]
    refine wp_append_lies _ (.tmp 44) (.tmp 46) 61 rfl 0 68 i0 _ 33 40 Tryd.underlying61 HI.out HZ0.out HZ1.out HZ2.out HZS.out (by omega) lv m M rfl HOW.out ⟨w9.heap.size, 0, none⟩ 1 1 (wcells (p, bs q)) rfl (by rw [wcells_length]) HSR.out (wcells_one _) (by omega) (by unfold maxLen; omega) (by omega) (Nat.zero_le _) _ rfl ?_
    intro g9 c9 wa hown9 hg9 hor9 _
    have hlie : ∀ i, (Value.slice (some ⟨g9, 0, none⟩) (m + 1) c9).ownBlock = some i → lv.ownBlock = some i ∨ (w9.alloc (.cells (wcells (p, bs q)).toArray 68)).heap.size ≤ i := fun i hi => by
      injection hi with hi
      subst hi
      rcases hor9 with h' | h'
      · exact .inl h'
      · exact .inr (by rw [h']; exact Nat.le_refl _)
    obtain ⟨hpost, hVa, hcz, hfz⟩ := HPOST.out _ wa hlie hown9 hg9
    have HPO := Lib.hid hpost
    refine hK.out _ _ hVa (fun hHeld => ?_)
    clear hK K' hown9 hg9 hor9 hlie hpost hVa
    simp only [Act.put]
    refine wpAnyH_take (i := 8) (v := .pointer (some ⟨D, 0, none⟩)) rfl (by kernel_rfl) (by kernel_rfl) (by kernel_rfl) (fun _ _ _ h => h) (Or.inl ⟨by rfl, ?_⟩) hHeld ?_
    · intro W _
      go_simp
    simp only [Act.put]
    refine wpAnyH_take (i := 9) (v := .pointer (some ⟨D, 2, none⟩)) rfl (by kernel_rfl) (by kernel_rfl) (by kernel_rfl) (fun _ _ _ h => h) (Or.inl ⟨by rfl, ?_⟩) hHeld ?_
    · intro W _
      go_simp
    simp only [Act.put]
    refine wpAnyH_ready (rs := [10]) (by kernel_rfl) (by simp) ?_
    refine AllReadyH.cons rfl (fun K' hK => ?_) AllReadyH.nil
    go_simp
    refine hK.out _ _ HPO.out.1 (fun hHeld => ?_)
    clear hK K'
    refine wpAnyH_done (by kernel_rfl) ?_ _
    clear hHeld
    go_wp2_with (fail)
    refine bodyPost_ret (results_tmp rfl _ _ _) rfl ?_
    exact HPO.out.2
  · rw [if_pos (by rfl)]
    refine wp_sliceOneK 61 68 (.tmp 45) rfl (some 46) rfl Tryd.underlying61 (wcells (p, bs q)).toArray rfl (slice_wr p _) ?_
    refine hK.out _ _ (VK.out _) (fun hHeld => ?_)
    clear hK K'
    simp only [Act.put]
    refine wpAnyH_ready (rs := [4]) (by kernel_rfl) (by simp) ?_
    refine AllReadyH.cons rfl (fun K' hK => ?_) AllReadyH.nil
    go_simp
    refine hK.out _ _ (VK.out _) (fun hHeld => ?_)
    clear hK K'
    refine wpAnyH_ready (rs := [7]) (by kernel_rfl) (by simp) ?_
    refine AllReadyH.cons rfl (fun K' hK => ?_) AllReadyH.nil
    rw [if_pos (by rfl)]
    refine wp_append_lies _ (.tmp 44) (.tmp 46) 61 rfl 0 68 i0 _ 33 40 Tryd.underlying61 HI.out HZ0.out HZ1.out HZ2.out HZS.out (by omega) lv m M rfl HOW.out ⟨w9.heap.size, 0, none⟩ 1 1 (wcells (p, bs q)) rfl (by rw [wcells_length]) HSR.out (wcells_one _) (by omega) (by unfold maxLen; omega) (by omega) (Nat.zero_le _) _ rfl ?_
    intro g9 c9 wa hown9 hg9 hor9 _
    have hlie : ∀ i, (Value.slice (some ⟨g9, 0, none⟩) (m + 1) c9).ownBlock = some i → lv.ownBlock = some i ∨ (w9.alloc (.cells (wcells (p, bs q)).toArray 68)).heap.size ≤ i := fun i hi => by
      injection hi with hi
      subst hi
      rcases hor9 with h' | h'
      · exact .inl h'
      · exact .inr (by rw [h']; exact Nat.le_refl _)
    obtain ⟨hpost, hVa, hcz, hfz⟩ := HPOST.out _ wa hlie hown9 hg9
    have HPO := Lib.hid hpost
    refine hK.out _ _ hVa (fun hHeld => ?_)
    clear hK K' hown9 hg9 hor9 hlie hpost hVa
    simp only [Act.put]
    refine wpAnyH_take (i := 8) (v := .pointer (some ⟨D, 0, none⟩)) rfl (by kernel_rfl) (by kernel_rfl) (by kernel_rfl) (fun _ _ _ h => h) (Or.inl ⟨by rfl, ?_⟩) hHeld ?_
    · intro W _
      go_simp
    simp only [Act.put]
    refine wpAnyH_take (i := 9) (v := .pointer (some ⟨D, 2, none⟩)) rfl (by kernel_rfl) (by kernel_rfl) (by kernel_rfl) (fun _ _ _ h => h) (Or.inl ⟨by rfl, ?_⟩) hHeld ?_
    · intro W _
      go_simp
    simp only [Act.put]
    refine wpAnyH_ready (rs := [10]) (by kernel_rfl) (by simp) ?_
    refine AllReadyH.cons rfl (fun K' hK => ?_) AllReadyH.nil
    go_simp
    refine hK.out _ _ HPO.out.1 (fun hHeld => ?_)
    clear hK K'
    refine wpAnyH_done (by kernel_rfl) ?_ _
    clear hHeld
    go_wp2_with (fail)
    refine bodyPost_ret (results_tmp rfl _ _ _) rfl ?_
    exact HPO.out.2
end
end Go.Proofs.YtfpkgcofkgpgnaaDoor
namespace Go.Proofs.YtfpkgcofkgpgnaaDoor
open Go.ChangeShapes Go.WideShapes Go.ChangeAt Go.RowKit Dk

/-- A disk of blocks that weren't there at the beginning; what was there is as it was. -/
structure At (w0 w : World) (D : Nat) (x : St) : Prop where
  disk : DiskAt (fun i => w0.heap.size ≤ i) w D x
  below : Below w0.heap.size w0 w
namespace At
variable {w0 w w' : World} {D : Nat} {x y : St}
theorem step (h : At w0 w D x) (hb : Below w.heap.size w w') : At w0 w' D x := ⟨h.disk.below hb, h.below.trans (hb.mono h.below.size)⟩
theorem says (h : At w0 w D x) {v : Value} {e : Ending} (hs : DiskSays (fun i => w0.heap.size ≤ i) w D v y e w') : e = .returned v ∧ At w0 w' D y :=
  ⟨hs.1, hs.2.1, h.below.trans (hs.2.2.below h.below.size (fun _ hi => Nat.not_le.2 hi))⟩
theorem new (h : At w0 w D x) : ∀ i, w.heap.size ≤ i → w0.heap.size ≤ i := fun _ hi => Nat.le_trans h.below.size hi
/-- A write, without a fuse. -/
theorem write (h : At w0 w D x) (ha : x.away = false) (hf : x.fuse = none) (hl : x.loose.length ≤ 1073741824) (hd : x.done < 4611686018427387904) (p : Nat) (hp : p < x.n) (q : ByteArray) (hq : q.size = 32) :
    Calls Tryd.prog 64 #[.pointer (some ⟨D, 0, none⟩), .int .i64 (p : Int), .string q] w fun e w' => e = .returned (.int .i64 0) ∧ At w0 w' D (x.burnt.put p (bs q)) :=
  (disk_write_ok _ w D x h.disk ha hl p hp q hq h.new (disk_burn_none _ w D x h.disk hf hd)).mono fun _ _ hs => h.says hs
/-- A sync, without a fuse. -/
theorem sync (h : At w0 w D x) (ha : x.away = false) (hf : x.fuse = none) (hl : x.loose.length ≤ 1073741824) (hd : x.done < 4611686018427387904) :
    Calls Tryd.prog 9 #[.pointer (some ⟨D, 0, none⟩)] w fun e w' => e = .returned (.int .i64 0) ∧ At w0 w' D x.burnt.synced :=
  (disk_sync_ok _ w D x h.disk ha hl (disk_burn_none _ w D x h.disk hf hd)).mono fun _ _ hs => h.says hs
end At
theorem at_new (w0 w : World) (hb : Below w0.heap.size w0 w) (m : Int) (n : Nat) (hn : (n : Int) = min (max m 0) 4096) :
    Calls Tryd.prog 6 #[.int .i64 m] w fun e w' => ∃ D, e = .returned (.pointer (some ⟨D, 0, none⟩)) ∧ At w0 w' D (freshSt n fun _ => 0) := by
  refine (disk_new (fun i => w0.heap.size ≤ i) w m n hn (fun i hi => Nat.le_trans hb.size hi)).mono ?_
  rintro e w' ⟨D, rfl, h1, h2, h3⟩
  exact ⟨D, rfl, h2, hb.trans (h3.mono hb.size)⟩
theorem below_undrew {w W : World} (h : Below w.drew.heap.size w.drew W) : Below w.heap.size w W := ⟨h.os, h.tape, h.output, h.size, h.block⟩
end Go.Proofs.YtfpkgcofkgpgnaaDoor
namespace Go.Proofs.YtfpkgcofkgpgnaaDoor
open Go.ChangeShapes Go.WideShapes Go.ChangeAt Go.RowKit Dk

namespace Dk
/-- All bytes of n sectors as a text. -/
def imgS (n : Nat) (f : Nat → UInt8) : ByteArray := ⟨((List.range (n * 32)).map f).toArray⟩
theorem imgS_congr {n : Nat} {f g : Nat → UInt8} (h : ∀ k, k < n * 32 → f k = g k) : imgS n f = imgS n g := by
  unfold imgS
  rw [List.map_congr_left fun k hk => h k (List.mem_range.1 hk)]
theorem imgS_size (n : Nat) (f : Nat → UInt8) : (imgS n f).size = n * 32 := by
  show ((List.range (n * 32)).map f).toArray.size = n * 32
  simp
end Dk
theorem infoU : (Tryd.prog.info? 5).map (fun i => (i.zero, i.size, i.bytes)) = some (some (.int .u8 0), 1, 1) := by kernel_rfl
theorem bcellsK_next (f : Nat → UInt8) (k : Nat) : bcellsK f (k * 32) ++ secL (sect f k) = bcellsK f ((k + 1) * 32) := by
  apply List.ext_getElem?
  intro j
  by_cases h1 : j < k * 32
  · rw [List.getElem?_append_left (by rw [bcellsK_length]; exact h1), bcellsK_get _ _ _ h1, bcellsK_get _ _ _ (by omega)]
  · rw [List.getElem?_append_right (by rw [bcellsK_length]; omega), bcellsK_length]
    by_cases h2 : j < (k + 1) * 32
    · rw [secL_get _ _ (by omega), bcellsK_get _ _ _ h2]
      unfold sect
      rw [show k * 32 + (j - k * 32) = j by omega]
    · rw [List.getElem?_eq_none (by rw [secL_length]; omega), List.getElem?_eq_none (by rw [bcellsK_length]; omega)]
theorem run_img (w : World) (base g n c : Nat) (f : Nat → UInt8) (h : w.ownsRow base 5 1 (.slice (some ⟨g, 0, none⟩) (n * 32) c) (n * 32) (bcellsK f (n * 32))) :
    (convert 77 9 (.slice (some ⟨g, 0, none⟩) (n * 32) c)).run Tryd.prog w = .ok (.string (imgS n f)) w := by
  refine run_textK w _ (n * 32) c ((List.range (n * 32)).map f) (by simp) fun j u hj => ?_
  refine h.cells (g := g) rfl j u ?_
  rw [← hj]
  unfold bcellsK
  rw [List.map_map]
  rfl
end Go.Proofs.YtfpkgcofkgpgnaaDoor
namespace Go.Proofs.YtfpkgcofkgpgnaaDoor
open Go Go.RowKit
namespace Dk

/-- What the first m bytes leave in eight places. -/
def sArr (X : Nat → UInt8) : Nat → Nat → UInt8
  | 0, _ => 0
  | m + 1, j => if j = (X m).toNat % 8 then X m else sArr X m j
theorem getD_app_lt {L : List Wr} {y : Wr} {k : Nat} (h : k < L.length) : (L ++ [y]).getD k noWr = L.getD k noWr := by
  rw [List.getD_eq_getElem?_getD, List.getD_eq_getElem?_getD, List.getElem?_append_left h]
theorem getD_app_at (L : List Wr) (y : Wr) : (L ++ [y]).getD L.length noWr = y := by
  rw [List.getD_eq_getElem?_getD, List.getElem?_append_right (Nat.le_refl _), Nat.sub_self]
  rfl
theorem fs_app (safe : Nat → UInt8) (L : List Wr) (y : Wr) (kp : Nat → Bool) : ∀ k, k ≤ L.length → fs safe (L ++ [y]) kp k = fs safe L kp k
  | 0, _ => rfl
  | k + 1, h => by
    unfold fs
    rw [fs_app safe L y kp k (by omega), getD_app_lt (by omega)]
theorem fs_push (safe : Nat → UInt8) (L : List Wr) (y : Wr) : fs safe (L ++ [y]) (fun _ => true) (L.length + 1) = putS (fs safe L (fun _ => true) L.length) y.1 y.2 := by
  show (if true = true then _ else _) = _
  rw [if_pos rfl, getD_app_at, fs_app _ _ _ _ _ (Nat.le_refl _)]
/-- All loose writes laid on what is safe are what was written last. -/
def St.Full (x : St) : Prop := fs x.safe x.loose (fun _ => true) x.loose.length = x.now
theorem full_put {x : St} (h : x.Full) (p : Nat) (g : Nat → UInt8) : (x.put p g).Full := by
  show fs x.safe (x.loose ++ [(p, g)]) (fun _ => true) (x.loose ++ [(p, g)]).length = putS x.now p g
  rw [List.length_append]
  show fs x.safe (x.loose ++ [(p, g)]) (fun _ => true) (x.loose.length + 1) = putS x.now p g
  rw [fs_push, show fs x.safe x.loose (fun _ => true) x.loose.length = x.now from h]
theorem full_synced {x : St} (h : x.Full) : x.synced.Full ∧ x.synced.safe = x.now := ⟨h, h⟩
theorem fs_sect (safe : Nat → UInt8) (L : List Wr) (kp : Nat → Bool) (p : Nat) : ∀ k, (∀ j, j < 32 → sect (fs safe L kp k) p j = sect safe p j) ∨ ∃ q, q < k ∧ (L.getD q noWr).1 = p ∧ ∀ j, j < 32 → sect (fs safe L kp k) p j = (L.getD q noWr).2 j
  | 0 => .inl fun _ _ => rfl
  | k + 1 => by
    unfold fs
    cases kp k with
    | false =>
      rw [if_neg Bool.false_ne_true]
      rcases fs_sect safe L kp p k with h | ⟨q, h1, h2⟩
      · exact .inl h
      · exact .inr ⟨q, by omega, h2⟩
    | true =>
      rw [if_pos rfl]
      by_cases he : (L.getD k noWr).1 = p
      · refine .inr ⟨k, by omega, he, fun j hj => ?_⟩
        rw [← he]
        exact sect_put_same _ _ _ _ hj
      · rcases fs_sect safe L kp p k with h | ⟨q, h1, h2, h3⟩
        · exact .inl fun j hj => (sect_put_other _ _ _ _ _ hj he).trans (h j hj)
        · exact .inr ⟨q, by omega, h2, fun j hj => (sect_put_other _ _ _ _ _ hj he).trans (h3 j hj)⟩
theorem fs_none (safe : Nat → UInt8) (L : List Wr) (kp : Nat → Bool) (p k : Nat) (h : ∀ q, q < k → (L.getD q noWr).1 ≠ p) : ∀ j, j < 32 → sect (fs safe L kp k) p j = sect safe p j := by
  rcases fs_sect safe L kp p k with h1 | ⟨q, h1, h2, _⟩
  · exact h1
  · exact absurd h2 (h q h1)
theorem fn_sect (S now : Nat → UInt8) (L : List Wr) (p : Nat) : ∀ k, (∀ j, j < 32 → sect (fn S now L k) p j = sect S p j) ∨ ((∀ q, q < k → (L.getD q noWr).1 ≠ p) ∧ ∀ j, j < 32 → sect (fn S now L k) p j = sect now p j)
  | 0 => .inr ⟨fun q h => (by omega), fun _ _ => rfl⟩
  | k + 1 => by
    unfold fn
    by_cases he : (L.getD k noWr).1 = p
    · rw [he]
      exact .inl fun j hj => sect_put_same _ _ _ _ hj
    · rcases fn_sect S now L p k with h | ⟨h1, h2⟩
      · exact .inl fun j hj => (sect_put_other _ _ _ _ _ hj he).trans (h j hj)
      · refine .inr ⟨fun q hq => ?_, fun j hj => (sect_put_other _ _ _ _ _ hj he).trans (h2 j hj)⟩
        by_cases hqk : q = k
        · rw [hqk]; exact he
        · exact h1 q (by omega)
/-- Behind a loss of power a sector is as it was safe, or one of the loose writes. -/
theorem fall_sect {x : St} (hf : x.Full) (kl : List Bool) (p : Nat) :
    (∀ j, j < 32 → sect (x.fall kl).now p j = sect x.safe p j) ∨ ∃ q, q < x.loose.length ∧ (x.loose.getD q noWr).1 = p ∧ ∀ j, j < 32 → sect (x.fall kl).now p j = (x.loose.getD q noWr).2 j := by
  have hS := fs_sect x.safe x.loose (kp kl) p x.loose.length
  show (∀ j, j < 32 → sect (fn (fs x.safe x.loose (kp kl) x.loose.length) x.now x.loose x.loose.length) p j = sect x.safe p j) ∨ ∃ q, q < x.loose.length ∧ (x.loose.getD q noWr).1 = p ∧ ∀ j, j < 32 → sect (fn (fs x.safe x.loose (kp kl) x.loose.length) x.now x.loose x.loose.length) p j = (x.loose.getD q noWr).2 j
  rcases fn_sect (fs x.safe x.loose (kp kl) x.loose.length) x.now x.loose p x.loose.length with h | ⟨h1, h2⟩
  · rcases hS with h3 | ⟨q, h3, h4, h5⟩
    · exact .inl fun j hj => (h j hj).trans (h3 j hj)
    · exact .inr ⟨q, h3, h4, fun j hj => (h j hj).trans (h5 j hj)⟩
  · refine .inl fun j hj => (h2 j hj).trans ?_
    rw [← hf]
    exact fs_none x.safe x.loose _ p _ h1 j hj

/-- The disk of the law behind i writes, of which the first n are synced once i is beyond n. -/
structure Syn (X : Nat → UInt8) (n i : Nat) (synced : Bool) (x : St) : Prop where
  n8 : x.n = 8
  on : x.away = false
  fu : x.fuse = none
  len : x.loose.length ≤ i
  done : x.done ≤ i + if synced then 1 else 0
  full : x.Full
  now : ∀ p j, p < 8 → j < 32 → sect x.now p j = sArr X i p
  safe : synced = true → ∀ p j, p < 8 → j < 32 → sect x.safe p j = sArr X n p
  part : synced = true → n ≤ i ∧ x.loose.length = i - n ∧ ∀ q, q < i - n → (x.loose.getD q noWr).1 = (X (n + q)).toNat % 8 ∧ ∀ j, j < 32 → (x.loose.getD q noWr).2 j = X (n + q)
theorem syn_new (X : Nat → UInt8) (n : Nat) (x : St) (hx : x = { n := 8, safe := fun _ => 0, now := fun _ => 0, loose := [], fuse := none, away := false, done := 0 }) : Syn X n 0 false x := by
  subst hx
  exact ⟨rfl, rfl, rfl, Nat.le_refl _, Nat.zero_le _, rfl, fun _ _ _ _ => rfl, fun h => (by cases h), fun h => (by cases h)⟩
theorem syn_sync {X : Nat → UInt8} {n : Nat} {x : St} (h : Syn X n n false x) : Syn X n n true x.burnt.synced := by
  have h1 : fs x.safe x.loose (fun _ => true) x.loose.length = x.now := h.full
  refine ⟨h.n8, h.on, ?_, Nat.zero_le _, ?_, h1, h.now, fun _ p j hp hj => ?_, fun _ => ⟨Nat.le_refl _, by rw [Nat.sub_self]; rfl, fun q hq => by omega⟩⟩
  · show x.fuse.map _ = none
    rw [h.fu]
    rfl
  · have := h.done
    rw [if_neg Bool.false_ne_true] at this
    show x.done + 1 ≤ n + if true = true then 1 else 0
    rw [if_pos rfl]
    omega
  · show sect (fs x.safe x.loose (fun _ => true) x.loose.length) p j = _
    rw [h1]
    exact h.now p j hp hj
theorem syn_write {X : Nat → UInt8} {n i : Nat} {b : Bool} {x : St} (h : Syn X n i b x) (g : Nat → UInt8) (hg : ∀ j, j < 32 → g j = X i) : Syn X n (i + 1) b (x.burnt.put ((X i).toNat % 8) g) := by
  have h1 : fs x.safe x.loose (fun _ => true) x.loose.length = x.now := h.full
  refine ⟨h.n8, h.on, ?_, ?_, ?_, full_put (x := x.burnt) h1 _ _, fun p j hp hj => ?_, h.safe, fun hb => ?_⟩
  · show x.fuse.map _ = none
    rw [h.fu]
    rfl
  · show (x.loose ++ [((X i).toNat % 8, g)]).length ≤ i + 1
    rw [List.length_append]
    have := h.len
    simpa using this
  · have := h.done
    show x.done + 1 ≤ i + 1 + if b = true then 1 else 0
    omega
  · show sect (putS x.now ((X i).toNat % 8) g) p j = if p = (X i).toNat % 8 then X i else sArr X i p
    by_cases he : p = (X i).toNat % 8
    · rw [if_pos he, he, sect_put_same _ _ _ _ hj, hg j hj]
    · rw [if_neg he, sect_put_other _ _ _ _ _ hj (Ne.symm he)]
      exact h.now p j hp hj
  · obtain ⟨h2, h3, h4⟩ := h.part hb
    show n ≤ i + 1 ∧ (x.loose ++ [((X i).toNat % 8, g)]).length = i + 1 - n ∧ ∀ q, q < i + 1 - n → ((x.loose ++ [((X i).toNat % 8, g)]).getD q noWr).1 = (X (n + q)).toNat % 8 ∧ ∀ j, j < 32 → ((x.loose ++ [((X i).toNat % 8, g)]).getD q noWr).2 j = X (n + q)
    refine ⟨by omega, by rw [List.length_append]; show x.loose.length + 1 = _; omega, fun q hq => ?_⟩
    by_cases hql : q < i - n
    · rw [getD_app_lt (by omega)]
      exact h4 q hql
    · have he : q = x.loose.length := by omega
      rw [he, getD_app_at, h3, show n + (i - n) = i by omega]
      exact ⟨rfl, hg⟩
/-- What is read behind the loss. -/
theorem syn_read {X : Nat → UInt8} {n l : Nat} {x : St} (h : Syn X n l true x) (kl : List Bool) (p : Nat) (hp : p < 8) :
    ∃ c : UInt8, (∀ j, j < 32 → sect (x.fall kl).come.now p j = c) ∧ (c = sArr X n p ∨ ∃ i, n ≤ i ∧ i < l ∧ (X i).toNat % 8 = p ∧ c = X i) := by
  obtain ⟨h2, h3, h4⟩ := h.part rfl
  rcases fall_sect h.full kl p with h5 | ⟨q, h5, h6, h7⟩
  · exact ⟨sArr X n p, fun j hj => (h5 j hj).trans (h.safe rfl p j hp hj), .inl rfl⟩
  · obtain ⟨h8, h9⟩ := h4 q (by omega)
    refine ⟨X (n + q), fun j hj => (h7 j hj).trans (h9 j hj), .inr ⟨n + q, by omega, by omega, by rw [← h8]; exact h6, rfl⟩⟩
end Dk
end Go.Proofs.YtfpkgcofkgpgnaaDoor
