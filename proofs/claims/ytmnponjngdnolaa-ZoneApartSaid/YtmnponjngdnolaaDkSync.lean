/-
  Package disk: Sync. Conditions: the disk stands in blocks of its own; fewer than 2^62 writes were done, fewer than 2^30 aren't safe.
-/
import Derived.Test.YtmnponjngdnolaaDkBurn
namespace Go.Proofs.Ytmnponjngdnolaa
open Go.ChangeShapes Go.WideShapes Go.ChangeAt Go.RowKit Dk

/-- The disk behind a sync. -/
theorem falls_sync {K : Nat → Prop} {w wr : World} {D s cs t ct : Nat} {lv : Value} {fv : Value} {x : St} {f : Nat → UInt8} (h : Lies K w D s cs t ct lv fv x) (hf : Falls w wr D s cs t ct lv fv x f x.now) :
    DiskSays K w D (.int .i64 0) { x with safe := f, loose := [] } (.returned (.int .i64 0)) (wr.setCell ⟨D, 2, none⟩ (.slice none 0 0)) := by
  have ho : ∀ i, i ≠ D → (wr.setCell ⟨D, 2, none⟩ (.slice none 0 0)).heap[i]? = wr.heap[i]? := fun i hi => heap_setCell_other wr ⟨D, 2, none⟩ i _ hi
  have hfz : FuseAt K (wr.setCell ⟨D, 2, none⟩ (.slice none 0 0)) fv x.fuse := by
    obtain ⟨c1, hc1, _⟩ := h.sr
    obtain ⟨c2, hc2, _⟩ := h.tr
    have hk : ∀ (i : Nat) (c : Array Value) (u : TypeId), u ≠ 52 → u ≠ 56 → w.heap[i]? = some (.cells c u (0, 0)) → (wr.setCell ⟨D, 2, none⟩ (.slice none 0 0)).heap[i]? = w.heap[i]? := fun i c u h1 h2 hc =>
      (ho i (ne_type hc h.hd h2)).trans (hf.block i (Array.getElem?_eq_some_iff.1 hc).1 (ne_type hc hc1 h1) (ne_type hc hc2 h1))
    have hfu := h.fu
    generalize x.fuse = fu at hfu ⊢
    match fu, hfu with
    | none, h0 => exact h0
    | some (l, kl), ⟨fb, kv, h1, h2, h3, h4, h5⟩ => exact ⟨fb, kv, h1, (hk fb _ _ (by decide) (by decide) h2).trans h2, h3.keepT (fun i cur hi => hk i cur _ (by decide) (by decide) hi), h4, h5⟩
  exact ⟨rfl, ⟨s, cs, t, ct, .slice none 0 0, fv, heap_setCell_same wr D 2 _ _ _ hf.hd, hf.sr.of_block (ho s hf.ds.symm), hf.tr.of_block (ho t hf.dt.symm), hf.ne, h.cs, h.ct, World.ownsRow_nil _ _ _ _, hfz, fun y hy => (by cases hy), h.nb, h.kD, h.ks, h.kt, fun g hg => (by cases hg)⟩,
    ⟨hf.os, hf.tape, hf.output, Nat.le_trans hf.size (by simp [World.setCell]), fun i hi hk => (ho i (fun e => hk (by rw [e]; exact h.kD))).trans (hf.block i hi (fun e => hk (by rw [e]; exact h.ks)) (fun e => hk (by rw [e]; exact h.kt)))⟩⟩
theorem synced_eq (x : St) (L : List Wr) (m : Nat) (hL : L = x.loose) (hm : m = L.length) : x.synced = { x with safe := fs x.safe L (fun _ => true) m, loose := [] } := by subst hm hL; rfl
theorem DiskSays.after {K : Nat → Prop} {w w1 : World} {D : Nat} {v : Value} {x : St} (hk : Kept K w w1) : ∀ {e : Ending} {w2 : World}, DiskSays K w1 D v x e w2 → DiskSays K w D v x e w2 := fun ⟨a, b, c⟩ => ⟨a, b, hk.trans c⟩
section
variable (K : Nat → Prop) (w : World) (D : Nat) (x : St)
theorem disk_sync_away (h : DiskAt K w D x) (ha : x.away = true) : Calls Try.prog 21 #[.pointer (some ⟨D, 0, none⟩)] w fun e w' => e = .returned (.int .i64 4) ∧ w = w' := by
  obtain ⟨s, cs, t, ct, lv, fv, h⟩ := h
  have c4 : w.cell? ⟨D, 4, none⟩ = some (.bool x.away) := h.cell 4
  rw [ha] at c4
  clear h
  go_enter Try.func21, Try.ntmps21
  go_wp2_with (fail)
  refine bodyPost_ret (results_tmp rfl _ _ _) rfl ?_
  exact ⟨rfl, rfl⟩
theorem disk_sync_end (h : DiskAt K w D x) (ha : x.away = false) (kl : List Bool) (hf : x.fuse = some (0, kl)) (hl : x.loose.length ≤ 1073741824) (hkl : kl.length ≤ 1099511627776) :
    Calls Try.prog 21 #[.pointer (some ⟨D, 0, none⟩)] w (DiskSays K w D (.int .i64 4) (x.fall kl)) := by
  have HB := Lib.hid (disk_burn_end K w D x h kl hf hl hkl)
  obtain ⟨s, cs, t, ct, lv, fv, h⟩ := h
  have c4 : w.cell? ⟨D, 4, none⟩ = some (.bool x.away) := h.cell 4
  rw [ha] at c4
  clear h
  go_enter Try.func21, Try.ntmps21
  go_wp2_with (fail)
  refine HB.out.mono ?_
  rintro e w1 ⟨rfl, h1, h2⟩
  have H1 := Lib.hid h1
  have H2 := Lib.hid h2
  clear h1 h2 HB
  go_wp2
  refine bodyPost_ret (results_tmp rfl _ _ _) rfl ?_
  exact ⟨rfl, H1.out, H2.out⟩
set_option maxRecDepth 100000 in
set_option maxHeartbeats 3200000 in
/-- A sync, behind what the fuse burnt to. -/
theorem disk_sync_ok (h : DiskAt K w D x) (ha : x.away = false) (hl : x.loose.length ≤ 1073741824) (hb : Calls Try.prog 30 #[.pointer (some ⟨D, 0, none⟩)] w (DiskSays K w D (.int .i64 0) x.burnt)) :
    Calls Try.prog 21 #[.pointer (some ⟨D, 0, none⟩)] w (DiskSays K w D (.int .i64 0) x.burnt.synced) := by
  have HBU := Lib.hid hb
  obtain ⟨s, cs, t, ct, lv, fv, h⟩ := h
  have c4 : w.cell? ⟨D, 4, none⟩ = some (.bool x.away) := h.cell 4
  rw [ha] at c4
  clear h hb
  have hl2 : x.burnt.loose.length ≤ 1073741824 := hl
  generalize x.burnt = y at HBU hl2 ⊢
  clear hl ha s cs t ct lv fv
  go_enter Try.func21, Try.ntmps21
  go_wp2_with (fail)
  refine HBU.out.mono ?_
  rintro e w1 ⟨rfl, ⟨s, cs, t, ct, lv, fv, h⟩, hk⟩
  have H := Lib.hid h
  have HKP := Lib.hid hk
  have c2 : w1.cell? ⟨D, 2, none⟩ = some lv := h.cell 2
  clear h hk HBU c4
  rcases loose_form H.out.lo with ⟨rfl, hn⟩ | ⟨g, c, rfl⟩
  · have hL0 : y.loose = [] := List.length_eq_zero_iff.1 hn
    have HE := Lib.hid (synced_eq y [] 0 hL0.symm rfl)
    have f2 : w1.frozen? ⟨D, 2, none⟩ = false := H.out.fz 2
    have HFS := Lib.hid (DiskSays.after HKP.out (falls_sync H.out (Falls.start H.out)))
    go_wp2_with (fail)
    go_loopw [22] (fun i wr => i = .int .i64 0 ∧ w1 = wr) (fun _ _ => 0)
    case atStart => exact ⟨rfl, rfl⟩
    case round =>
      obtain ⟨rfl, rfl⟩ := hrel
      go_wp2_with (fail)
      refine bodyPost_ret (results_tmp rfl _ _ _) rfl ?_
      rw [HE.out]
      exact HFS.out
  obtain ⟨L, hL⟩ : ∃ L, L = y.loose := ⟨_, rfl⟩
  have HOW := Lib.hid (show w1.ownsRow 0 58 33 (.slice (some ⟨g, 0, none⟩) L.length c) L.length (lcells L) by rw [hL]; exact H.out.lo)
  have hgl : g < w1.heap.size := (H.out.lo.lt g rfl).2
  have hgs : g ≠ s := H.out.neLs g rfl
  have hgt : g ≠ t := H.out.neLt g rfl
  have HLN := Lib.hid (show ∀ u ∈ L, u.1 < y.n by rw [hL]; exact H.out.pl)
  have HF := Lib.hid (Falls.start H.out)
  rw [← hL] at c2 hl2 HF
  have HL := Lib.hid hL
  clear hL
  obtain ⟨m, hm⟩ : ∃ m, m = L.length := ⟨_, rfl⟩
  rw [← hm] at c2 hl2 HF
  have HM := Lib.hid hm
  clear hm
  go_wp2_with (fail)
  go_loopw [22] (fun i wr => ∃ k : Nat, i = .int .i64 (k : Int) ∧ k ≤ m ∧ Falls w1 wr D s cs t ct (.slice (some ⟨g, 0, none⟩) m c) fv y (fs y.safe L (fun _ => true) k) y.now) (fun i _ => match i with | .int _ k => m - k.toNat | _ => 0)
  case atStart => exact ⟨0, rfl, Nat.zero_le _, HF.out⟩
  case round =>
    clear HF c2
    obtain ⟨k, rfl, hkm, hf⟩ := hrel
    have HF := Lib.hid hf
    clear hf
    by_cases hlt : k < m
    · have hRG : wr.rangeAt g (k * 33) (wcells (L.getD k noWr)) := own_range (own_keep HOW.out (fun i hi => by cases hi; exact HF.out.block g hgl hgs hgt)) k (by rw [← HM.out]; exact hlt)
      have HRG := Lib.hid hRG
      have hpl : (L.getD k noWr).1 < y.n := HLN.out _ (by rw [List.getD_eq_getElem?_getD, List.getElem?_eq_getElem (by rw [← HM.out]; exact hlt)]; exact List.getElem_mem _)
      have HNX := Lib.hid (show fs y.safe L (fun _ => true) (k + 1) = putS (fs y.safe L (fun _ => true) k) (L.getD k noWr).1 (L.getD k noWr).2 from if_pos rfl)
      clear hRG
      generalize L.getD k noWr = z at HRG hpl HNX
      have x0 : (k : Int) < (m : Int) := by omega
      have x1 : decide ((k : Int) < (m : Int)) = true := decide_eq_true x0
      have x2 : (0 : Int) ≤ (k : Int) := by omega
      have HWI := Lib.hid (show (Try.prog.info? 58).map (·.size) = some (wcells z).length by rw [wcells_length]; exact sizeW)
      have HWA := Lib.hid (show (Try.prog.info? 58).map (·.size) = some (wrA z).size by rw [wrA_size]; exact sizeW)
      have HWO := Lib.hid (wrA_one z)
      have HFV := Lib.hid (fun q => falls_var HF.out q z)
      have HSI := Lib.hid (show (Try.prog.info? 52).map (·.size) = some (secL z.2).length by rw [secL_length]; exact sizeS)
      have HSA := Lib.hid (show (Try.prog.info? 52).map (·.size) = some (secL z.2).toArray.size by rw [List.size_toArray, secL_length]; exact sizeS)
      have HSO := Lib.hid (show (secL z.2).toArray.all (·.oneCell') = true by rw [secA_list]; exact secA_one z.2)
      have hD2 : D < wr.heap.size := (Array.getElem?_eq_some_iff.1 HF.out.hd).1
      have hs2 : s < wr.heap.size := HF.out.sr.lt
      go_wp2_with (first
        | (with_reducible refine wpList_load_mid rfl 58 _ rfl g (k * 33) rfl (wcells z) _ HRG.out Try.underlying58 rfl HWI.out ?_)
        | (refine wpList_store_row rfl 58 (.tmp 5) (.tmp 25) rfl wr.heap.size (wrA z) rfl rfl 58 _ (heap_alloc_new _ _) HWA.out (by rw [wrA_size]; rfl) HWO.out ?_
           refine gen_list (fun W => Falls w1 W D s cs t ct (.slice (some ⟨g, 0, none⟩) m c) fv y (fs y.safe L (fun _ => true) k) y.now ∧ WrAt W wr.heap.size z) (HFV.out _) ?_
           rintro w5 ⟨h5, v5⟩
           have d5 : w5.cell? ⟨D, 0, none⟩ = some (.slice (some ⟨s, 0, none⟩) y.n cs) := h5.cell 0
           have p5 := v5.place
           have H5 := Lib.hid h5
           have V5 := Lib.hid v5
           clear h5 v5))
      have q0 : 0 ≤ (z.1 : Int) := by omega
      have q1 : (z.1 : Int) < (y.n : Int) := by omega
      have H5d := Lib.hid H5.out.drew
      have V5d := Lib.hid (show WrAt w5.drew wr.heap.size z from V5.out)
      go_still_tail 9, (by kernel_rfl)
      refine wpStill_load_midK (by rfl) 52 (.tmp 32) rfl wr.heap.size 1 rfl (secL z.2) _ V5d.out.bytes Try.underlying52 rfl HSI.out ?_
      repeat still_step
      refine wpStill_nil ?_
      change wpList _ _ _ _ _ w5.drew
      clear d5 p5 H5 V5
      generalize w5.drew = w6 at H5d V5d ⊢
      have HTH := Lib.hid (show w6.there s (z.1 * 32) (secL z.2).toArray.size by rw [List.size_toArray, secL_length]; exact H5d.out.sr.there hpl)
      have HPF := Lib.hid (H5d.out.putF hpl z.2)
      refine wpList_store_mid rfl 52 (.tmp 34) (.tmp 33) rfl s (z.1 * 32) (secL z.2).toArray rfl rfl HTH.out HSA.out HSO.out ?_
      refine gen_list (fun W => Falls w1 W D s cs t ct (.slice (some ⟨g, 0, none⟩) m c) fv y (putS (fs y.safe L (fun _ => true) k) z.1 z.2) y.now) HPF.out ?_
      rintro w7 h7
      have H7 := Lib.hid h7
      clear h7 HPF HTH H5d V5d
      go_wp2_with (fail)
      exact ⟨⟨k + 1, rfl, by omega, by rw [HNX.out]; exact H7.out⟩, by show m - ((k : Int) + 1).toNat < m - (k : Int).toNat; omega⟩
    · have hke : k = m := by omega
      subst hke
      have x0 : ¬ (k : Int) < (k : Int) := by omega
      have x1 : decide ((k : Int) < (k : Int)) = false := decide_eq_false x0
      have d2 : wr.cell? ⟨D, 2, none⟩ = some (.slice (some ⟨g, 0, none⟩) k c) := HF.out.cell 2
      have f2 : wr.frozen? ⟨D, 2, none⟩ = false := frozen_of_row wr D 2 _ _ HF.out.hd
      have hfx : DiskSays K w D (.int .i64 0) { y with safe := fs y.safe L (fun _ => true) k, loose := [] } (.returned (.int .i64 0)) (wr.setCell ⟨D, 2, none⟩ (.slice none 0 0)) :=
        DiskSays.after HKP.out (falls_sync H.out (by have := HF.out; rw [HM.out, HL.out] at this; rw [HM.out]; rw [HL.out]; exact this))
      have HFS := Lib.hid hfx
      have HE := Lib.hid (synced_eq y L k HL.out HM.out)
      clear hlt x0 hfx
      go_wp2_with (fail)
      refine bodyPost_ret (results_tmp rfl _ _ _) rfl ?_
      rw [HE.out]
      exact HFS.out
end
end Go.Proofs.Ytmnponjngdnolaa
