/-
  Package disk: Cut. Conditions: the disk stands in blocks of its own, its power is there, few loose writes, few bools.
  Package disk: Come. Conditions: the disk stands in blocks of its own.
-/
import Derived.Test.YtfpkgcofkgpgnaaDoorMg4
import Derived.Test.YtfpkgcofkgpgnaaDoorMg3
set_option maxRecDepth 100000
namespace Go.Proofs.YtfpkgcofkgpgnaaDoor
open Go.ChangeShapes Go.WideShapes Go.ChangeAt Go.RowKit Dk

section
variable (K : Nat → Prop) (w : World) (D : Nat) (x : St)
theorem disk_cut (h : DiskAt K w D x) (ha : x.away = false) (hl : x.loose.length ≤ 1073741824) (kv : Value) (kl : List Bool) (hkl : kl.length ≤ 1099511627776) (hk : BoolsAt w kv kl)
    (hkk : ∀ w' : World, (∀ i, i < w.heap.size → (¬ K i ∨ ∃ (c : Array Value) (u : TypeId) (fr : Nat × Nat), w.heap[i]? = some (Obj.cells c u fr) ∧ u ≠ 66) → w'.heap[i]? = w.heap[i]?) → BoolsAt w' kv kl) :
    Calls Tryd.prog 11 #[.pointer (some ⟨D, 0, none⟩), kv] w (DiskSays K w D (.tuple #[]) (x.fall kl)) := by
  have hI := disk_isOn K w D x h
  rw [ha] at hI
  have HI := Lib.hid hI
  obtain ⟨s, cs, t, ct, lv, fv, h⟩ := h
  have HFA := Lib.hid (disk_fall K w D s cs t ct lv _ x h hl kv kl hkl hk (fun w' he => hkk w' (fun i hi hor => by
    obtain ⟨c1, hc1, _⟩ := h.sr
    obtain ⟨c2, hc2, _⟩ := h.tr
    rcases hor with hn | ⟨c, u, fr, hc, hu⟩
    · exact he i hi (fun e => hn (by rw [e]; exact h.ks)) (fun e => hn (by rw [e]; exact h.kt))
    · exact he i hi (ne_type hc hc1 hu) (ne_type hc hc2 hu))))
  clear h hk hkk hI
  go_enter Tryd.func11, Tryd.ntmps11
  go_wp2_with (fail)
  refine HI.out.mono ?_
  rintro e w1 ⟨rfl, rfl⟩
  clear HI
  go_wp2_with (fail)
  refine HFA.out.mono ?_
  rintro e w1 ⟨rfl, h1, h2⟩
  have H1 := Lib.hid h1
  have H2 := Lib.hid h2
  clear h1 h2 HFA
  go_wp2
  go_end0
  exact ⟨rfl, H1.out, H2.out⟩
end
/-- Cut, by bools that lie in a new row of bools. -/
theorem At.cutNew {w0 w : World} {D : Nat} {x : St} (h : At w0 w D x) (ha : x.away = false) (hl : x.loose.length ≤ 1073741824) (kl : List Bool) (hkl : kl.length ≤ 1099511627776) :
    Calls Tryd.prog 11 #[.pointer (some ⟨D, 0, none⟩), .slice (some ⟨w.heap.size, 0, none⟩) kl.length kl.length] (w.alloc (.cells (kl.map Value.bool).toArray 4)) fun e w' => e = .returned (.tuple #[]) ∧ At w0 w' D (x.fall kl) := by
  have h2 := h.step ((Below.refl w.heap.size w).alloc (Nat.le_refl _) (.cells (kl.map Value.bool).toArray 4))
  have hat : ∀ W : World, W.heap[w.heap.size]? = some (.cells (kl.map Value.bool).toArray 4 (0, 0)) → BoolsAt W (.slice (some ⟨w.heap.size, 0, none⟩) kl.length kl.length) kl := fun W hW => .inr ⟨_, 0, _, rfl, Nat.le_refl _, fun j z hj => by
    rw [Nat.zero_add, cell_of_row _ _ _ _ _ _ hW, List.getElem?_toArray, List.getElem?_map, hj]
    rfl⟩
  refine (disk_cut _ _ D x h2.disk ha hl _ kl hkl (hat _ (heap_alloc_new w _)) (fun w' he => hat w' ?_)).mono fun _ _ hs => h2.says hs
  have hn := heap_alloc_new w (.cells (kl.map Value.bool).toArray 4)
  rw [he w.heap.size (by simp) (.inr ⟨_, _, _, hn, by decide⟩)]
  exact hn
end Go.Proofs.YtfpkgcofkgpgnaaDoor
namespace Go.Proofs.YtfpkgcofkgpgnaaDoor
open Go.ChangeShapes Go.WideShapes Go.ChangeAt Go.RowKit Dk

section
variable (K : Nat → Prop) (w : World) (D : Nat) (x : St)
theorem disk_come (h : DiskAt K w D x) : Calls Tryd.prog 12 #[.pointer (some ⟨D, 0, none⟩)] w (DiskSays K w D (.tuple #[]) x.come) := by
  obtain ⟨s, cs, t, ct, lv, fv, h⟩ := h
  have c4 := h.cell 4
  have f4 := h.fz 4
  simp only [List.getElem?_toArray, List.getElem?_cons_succ, List.getElem?_cons_zero] at c4
  have H := Lib.hid h
  clear h
  go_enter Tryd.func12, Tryd.ntmps12
  go_wp2
  go_end0
  have hk : Kept K w (w.setCell ⟨D, 4, none⟩ (.bool false)) := (Kept.refl K w).setCell (.inl H.out.kD) _
  have ho : ∀ i, i ≠ D → (w.setCell ⟨D, 4, none⟩ (.bool false)).heap[i]? = w.heap[i]? := fun i hi => heap_setCell_other w ⟨D, 4, none⟩ i _ hi
  exact ⟨rfl, ⟨s, cs, t, ct, lv, fv, H.out.reheadD (y := x.come) (heap_setCell_same w D 4 _ _ _ H.out.hd) ho rfl rfl rfl rfl rfl⟩, hk⟩
end
end Go.Proofs.YtfpkgcofkgpgnaaDoor
