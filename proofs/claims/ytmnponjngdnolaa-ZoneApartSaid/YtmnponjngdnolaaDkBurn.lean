/-
  Package disk: a fuse burns, or the power goes. Conditions: the disk stands in blocks of its own; fewer than 2^62 writes were done.
-/
import Derived.Test.YtmnponjngdnolaaDkFall
namespace Go.Proofs.Ytmnponjngdnolaa
open Go.ChangeShapes Go.WideShapes Go.ChangeAt Go.RowKit Dk

/-- The disk's own block and its fuse's written anew, all else as it was. -/
theorem Lies.refuse {K : Nat → Prop} {w w' : World} {D s cs t ct : Nat} {lv fv fv' : Value} {x y : St} (h : Lies K w D s cs t ct lv fv x) (hh : w'.heap[D]? = some (.cells #[.slice (some ⟨s, 0, none⟩) x.n cs, .slice (some ⟨t, 0, none⟩) x.n ct, lv, fv', .bool y.away, .int .i64 (y.done : Int)] 56 (0, 0)))
    (hf : FuseAt K w' fv' y.fuse) (ho : ∀ (i : Nat) (c : Array Value) (u : TypeId), i ≠ D → u ≠ 74 → w.heap[i]? = some (.cells c u (0, 0)) → w'.heap[i]? = w.heap[i]?) (h1 : y.n = x.n) (h2 : y.safe = x.safe) (h3 : y.now = x.now) (h4 : y.loose = x.loose) : Lies K w' D s cs t ct lv fv' y := by
  obtain ⟨n, sa, no, lo, fu, aw, dn⟩ := y
  subst h1 h2 h3 h4
  refine ⟨hh, ?_, ?_, h.ne, h.cs, h.ct, own_keep h.lo (fun g hg => ?_), hf, h.pl, h.nb, h.kD, h.ks, h.kt, h.kl⟩
  · obtain ⟨c, hc, _⟩ := h.sr
    exact h.sr.of_block (ho s c _ h.neDs.symm (by decide) hc)
  · obtain ⟨c, hc, _⟩ := h.tr
    exact h.tr.of_block (ho t c _ h.neDt.symm (by decide) hc)
  · obtain ⟨c, hc⟩ := own_type h.lo g hg
    exact ho g c _ (h.neLD g hg) (by decide) hc
/-- A fuse's bools stay, whatever is written into the disk's rows. -/
theorem fuse_bools {K : Nat → Prop} {w : World} {D s cs t ct : Nat} {lv fv : Value} {x : St} (h : Lies K w D s cs t ct lv fv x) {kv : Value} {kl : List Bool} (hk : OwnBools K w kv kl) :
    ∀ w' : World, (∀ i, i < w.heap.size → i ≠ s → i ≠ t → w'.heap[i]? = w.heap[i]?) → BoolsAt w' kv kl := fun w' he => by
  obtain ⟨c, hc, _⟩ := h.sr
  obtain ⟨d, hd, _⟩ := h.tr
  exact (hk.keepT (fun i cur hi => he i (Array.getElem?_eq_some_iff.1 hi).1 (ne_type hi hc (by decide)) (ne_type hi hd (by decide)))).at_
section
variable (K : Nat → Prop) (w : World) (D : Nat) (x : St)
set_option maxHeartbeats 800000 in
theorem disk_burn_none (h : DiskAt K w D x) (hf : x.fuse = none) (hd : x.done < 4611686018427387904) :
    Calls Try.prog 30 #[.pointer (some ⟨D, 0, none⟩)] w (DiskSays K w D (.int .i64 0) x.burnt) := by
  obtain ⟨s, cs, t, ct, lv, fv, h⟩ := h
  have hfu := h.fu
  rw [hf] at hfu
  obtain rfl : fv = .pointer none := hfu
  have H := Lib.hid h
  have c3 : w.cell? ⟨D, 3, none⟩ = some (.pointer none) := h.cell 3
  have c5 : w.cell? ⟨D, 5, none⟩ = some (.int .i64 (x.done : Int)) := h.cell 5
  have f5 := h.fz 5
  have e1 : IntKind.i64.wrap ((x.done : Int) + 1) = (x.done : Int) + 1 := IntWalk.i64_in _ (by omega)
  have HH := Lib.hid (show Lies K (w.setCell ⟨D, 5, none⟩ (.int .i64 ((x.done : Int) + 1))) D s cs t ct lv (.pointer none) x.burnt from
    h.refuse (y := x.burnt) (heap_setCell_same w D 5 _ _ _ h.hd) (by show FuseAt K _ _ (x.fuse.map _); rw [hf]; rfl) (fun i c u hi _ _ => heap_setCell_other w ⟨D, 5, none⟩ i _ hi) rfl rfl rfl rfl)
  have HK := Lib.hid ((Kept.refl K w).setCell (a := ⟨D, 5, none⟩) (.inl h.kD) (.int .i64 ((x.done : Int) + 1)))
  clear h hf hd
  generalize (x.done : Int) = dn at c5 e1 HH HK
  go_enter Try.func30, Try.ntmps30
  go_wp2_with (fail)
  refine bodyPost_ret (results_tmp rfl _ _ _) rfl ?_
  exact ⟨rfl, ⟨s, cs, t, ct, lv, _, HH.out⟩, HK.out⟩
set_option maxHeartbeats 800000 in
theorem disk_burn_some (h : DiskAt K w D x) (l : Nat) (kl : List Bool) (hf : x.fuse = some (l + 1, kl)) (hd : x.done < 4611686018427387904) :
    Calls Try.prog 30 #[.pointer (some ⟨D, 0, none⟩)] w (DiskSays K w D (.int .i64 0) x.burnt) := by
  obtain ⟨s, cs, t, ct, lv, fv, h⟩ := h
  have hfu := h.fu
  rw [hf] at hfu
  obtain ⟨fb, kv, rfl, hfb, hkv, hlt, hkf⟩ := hfu
  have H := Lib.hid h
  have c3 : w.cell? ⟨D, 3, none⟩ = some (.pointer (some ⟨fb, 0, none⟩)) := h.cell 3
  have c5 : w.cell? ⟨D, 5, none⟩ = some (.int .i64 (x.done : Int)) := h.cell 5
  have f5 := h.fz 5
  have g0 : w.cell? ⟨fb, 0, none⟩ = some (.int .i64 ((l + 1 : Nat) : Int)) := cell_of_row w fb 0 _ _ _ hfb
  have z0 : w.frozen? ⟨fb, 0, none⟩ = false := frozen_of_row w fb 0 _ _ hfb
  have e1 : IntKind.i64.wrap ((x.done : Int) + 1) = (x.done : Int) + 1 := IntWalk.i64_in _ (by omega)
  have e2 : IntKind.i64.wrap (((l + 1 : Nat) : Int) - 1) = (l : Int) := (IntWalk.i64_in _ (by omega)).trans (by omega)
  have e3 : ¬ ((l + 1 : Nat) : Int) = 0 := by omega
  have e4 : (((l + 1 : Nat) : Int) == 0) = false := beq_eq_false_iff_ne.2 e3
  have hne : D ≠ fb := ne_type h.hd hfb (by decide)
  have n1 : (⟨fb, 0, none⟩ : Addr) ≠ ⟨D, 5, none⟩ := fun e => by injection e with e; exact hne e.symm
  have HH := Lib.hid (show Lies K ((w.setCell ⟨fb, 0, none⟩ (.int .i64 (l : Int))).setCell ⟨D, 5, none⟩ (.int .i64 ((x.done : Int) + 1))) D s cs t ct lv (.pointer (some ⟨fb, 0, none⟩)) x.burnt by
    have hD1 : (w.setCell ⟨fb, 0, none⟩ (.int .i64 (l : Int))).heap[D]? = w.heap[D]? := heap_setCell_other w ⟨fb, 0, none⟩ D _ hne
    have ho : ∀ i, i ≠ D → i ≠ fb → ((w.setCell ⟨fb, 0, none⟩ (.int .i64 (l : Int))).setCell ⟨D, 5, none⟩ (.int .i64 ((x.done : Int) + 1))).heap[i]? = w.heap[i]? := fun i hi hj => by
      rw [heap_setCell_other _ ⟨D, 5, none⟩ i _ hi, heap_setCell_other w ⟨fb, 0, none⟩ i _ hj]
    refine h.refuse (y := x.burnt) (heap_setCell_same _ D 5 _ _ _ (hD1.trans h.hd)) ?_ (fun i c u hi hu hc => ho i hi (ne_type hc hfb hu)) rfl rfl rfl rfl
    show FuseAt K _ _ (x.fuse.map _)
    rw [hf]
    refine ⟨fb, kv, rfl, ?_, hkv.keepT (fun i cur hi => ho i (ne_type hi h.hd (by decide)) (ne_type hi hfb (by decide))), by omega, hkf⟩
    rw [heap_setCell_other _ ⟨D, 5, none⟩ fb _ hne.symm]
    exact heap_setCell_same w fb 0 _ _ _ hfb)
  have HK := Lib.hid (((Kept.refl K w).setCell (a := ⟨fb, 0, none⟩) (.inl hkf) (.int .i64 (l : Int))).setCell (a := ⟨D, 5, none⟩) (.inl h.kD) (.int .i64 ((x.done : Int) + 1)))
  clear h hf hd hkv hfb hlt
  generalize (x.done : Int) = dn at c5 e1 HH HK
  generalize ((l + 1 : Nat) : Int) = l1 at g0 e2 e3 e4
  go_enter Try.func30, Try.ntmps30
  go_wp2_with (fail)
  refine bodyPost_ret (results_tmp rfl _ _ _) rfl ?_
  exact ⟨rfl, ⟨s, cs, t, ct, lv, _, HH.out⟩, HK.out⟩
set_option maxHeartbeats 800000 in
theorem disk_burn_end (h : DiskAt K w D x) (kl : List Bool) (hf : x.fuse = some (0, kl)) (hl : x.loose.length ≤ 1073741824) (hkl : kl.length ≤ 1099511627776) :
    Calls Try.prog 30 #[.pointer (some ⟨D, 0, none⟩)] w (DiskSays K w D (.int .i64 4) (x.fall kl)) := by
  obtain ⟨s, cs, t, ct, lv, fv, h⟩ := h
  have hfu := h.fu
  rw [hf] at hfu
  obtain ⟨fb, kv, rfl, hfb, hkv, hlt, hkf⟩ := hfu
  have HFA := Lib.hid (disk_fall K w D s cs t ct lv _ x h hl kv kl hkl hkv.at_ (fuse_bools h hkv))
  have c3 : w.cell? ⟨D, 3, none⟩ = some (.pointer (some ⟨fb, 0, none⟩)) := h.cell 3
  have g0 : w.cell? ⟨fb, 0, none⟩ = some (.int .i64 0) := cell_of_row w fb 0 _ _ _ hfb
  have g1 : w.cell? ⟨fb, 1, none⟩ = some kv := cell_of_row w fb 1 _ _ _ hfb
  have o1 : ∃ a n c, kv = .slice a n c := by
    rcases hkv with ⟨_, rfl⟩ | ⟨kb, c, cur, rfl, _⟩
    · exact ⟨_, _, _, rfl⟩
    · exact ⟨_, _, _, rfl⟩
  obtain ⟨a, n, c, rfl⟩ := o1
  clear h hf hkv hfb hlt
  go_enter Try.func30, Try.ntmps30
  go_wp2_with (fail)
  refine HFA.out.mono ?_
  rintro e w1 ⟨rfl, h1, h2⟩
  have H1 := Lib.hid h1
  have H2 := Lib.hid h2
  clear h1 h2 HFA
  go_wp2
  refine bodyPost_ret (results_tmp rfl _ _ _) rfl ?_
  exact ⟨rfl, H1.out, H2.out⟩
end
end Go.Proofs.Ytmnponjngdnolaa
