/-
  Package disk: Cut. Conditions: the disk stands in blocks of its own, its power is there, few loose writes, few bools.
  Package disk: Come. Conditions: the disk stands in blocks of its own.
  Package disk: Fuse. Conditions: the disk stands in blocks of its own.
-/
import Derived.Test.YtnmgkkjnjllpbaaGreatDoorMg3
set_option maxRecDepth 100000
namespace Go.Proofs.YtnmgkkjnjllpbaaGreatDoor
open Go.ChangeShapes Go.WideShapes Go.ChangeAt Go.RowKit Dk

section
variable (K : Nat → Prop) (w : World) (D : Nat) (x : St)
theorem disk_cut (h : DiskAt K w D x) (ha : x.away = false) (hl : x.loose.length ≤ 1073741824) (kv : Value) (kl : List Bool) (hkl : kl.length ≤ 1099511627776) (hk : BoolsAt w kv kl)
    (hkk : ∀ w' : World, (∀ i, i < w.heap.size → (¬ K i ∨ ∃ (c : Array Value) (u : TypeId) (fr : Nat × Nat), w.heap[i]? = some (Obj.cells c u fr) ∧ u ≠ 73) → w'.heap[i]? = w.heap[i]?) → BoolsAt w' kv kl) :
    Calls Tryz.prog 30 #[.pointer (some ⟨D, 0, none⟩), kv] w (DiskSays K w D (.tuple #[]) (x.fall kl)) := by
  have hI := disk_isOn K w D x h
  rw [ha] at hI
  have HI := Lib.hid hI
  obtain ⟨s, cs, t, ct, lv, fv, h⟩ := h
  have HFA := Lib.hid (disk_fall K w D s cs t ct lv _ x h hl kv kl hkl hk (fun w' he => hkk w' (fun i hi hor => by
    obtain ⟨c1, hc1, _⟩ := h.sr
    obtain ⟨c2, hc2, _⟩ := h.tr
    rcases hor with hn | ⟨c, u, fr, hc, hu⟩
    · exact he i hi (fun e => hn (by rw [e]; exact h.ks)) (fun e => hn (by rw [e]; exact h.kt))
    · exact he i hi (ne_type hc hc1 hu) (ne_type hc hc2 hu))))
  clear h hk hkk hI
  go_enter Tryz.func30, Tryz.ntmps30
  go_wp2_with (fail)
  refine HI.out.mono ?_
  rintro e w1 ⟨rfl, rfl⟩
  clear HI
  go_wp2_with (fail)
  refine HFA.out.mono ?_
  rintro e w1 ⟨rfl, h1, h2⟩
  have H1 := Lib.hid h1
  have H2 := Lib.hid h2
  clear h1 h2 HFA
  go_wp2
  go_end0
  exact ⟨rfl, H1.out, H2.out⟩
end
/-- Cut, by bools that lie in a new row of bools. -/
theorem At.cutNew {w0 w : World} {D : Nat} {x : St} (h : At w0 w D x) (ha : x.away = false) (hl : x.loose.length ≤ 1073741824) (kl : List Bool) (hkl : kl.length ≤ 1099511627776) :
    Calls Tryz.prog 30 #[.pointer (some ⟨D, 0, none⟩), .slice (some ⟨w.heap.size, 0, none⟩) kl.length kl.length] (w.alloc (.cells (kl.map Value.bool).toArray 4)) fun e w' => e = .returned (.tuple #[]) ∧ At w0 w' D (x.fall kl) := by
  have h2 := h.step ((Below.refl w.heap.size w).alloc (Nat.le_refl _) (.cells (kl.map Value.bool).toArray 4))
  have hat : ∀ W : World, W.heap[w.heap.size]? = some (.cells (kl.map Value.bool).toArray 4 (0, 0)) → BoolsAt W (.slice (some ⟨w.heap.size, 0, none⟩) kl.length kl.length) kl := fun W hW => .inr ⟨_, 0, _, rfl, Nat.le_refl _, fun j z hj => by
    rw [Nat.zero_add, cell_of_row _ _ _ _ _ _ hW, List.getElem?_toArray, List.getElem?_map, hj]
    rfl⟩
  refine (disk_cut _ _ D x h2.disk ha hl _ kl hkl (hat _ (heap_alloc_new w _)) (fun w' he => hat w' ?_)).mono fun _ _ hs => h2.says hs
  have hn := heap_alloc_new w (.cells (kl.map Value.bool).toArray 4)
  rw [he w.heap.size (by simp) (.inr ⟨_, _, _, hn, by decide⟩)]
  exact hn
end Go.Proofs.YtnmgkkjnjllpbaaGreatDoor
namespace Go.Proofs.YtnmgkkjnjllpbaaGreatDoor
open Go.ChangeShapes Go.WideShapes Go.ChangeAt Go.RowKit Dk

section
variable (K : Nat → Prop) (w : World) (D : Nat) (x : St)
theorem disk_come (h : DiskAt K w D x) : Calls Tryz.prog 31 #[.pointer (some ⟨D, 0, none⟩)] w (DiskSays K w D (.tuple #[]) x.come) := by
  obtain ⟨s, cs, t, ct, lv, fv, h⟩ := h
  have c4 := h.cell 4
  have f4 := h.fz 4
  simp only [List.getElem?_toArray, List.getElem?_cons_succ, List.getElem?_cons_zero] at c4
  have H := Lib.hid h
  clear h
  go_enter Tryz.func31, Tryz.ntmps31
  go_wp2
  go_end0
  have hk : Kept K w (w.setCell ⟨D, 4, none⟩ (.bool false)) := (Kept.refl K w).setCell (.inl H.out.kD) _
  have ho : ∀ i, i ≠ D → (w.setCell ⟨D, 4, none⟩ (.bool false)).heap[i]? = w.heap[i]? := fun i hi => heap_setCell_other w ⟨D, 4, none⟩ i _ hi
  exact ⟨rfl, ⟨s, cs, t, ct, lv, fv, H.out.reheadD (y := x.come) (heap_setCell_same w D 4 _ _ _ H.out.hd) ho rfl rfl rfl rfl rfl⟩, hk⟩
end
end Go.Proofs.YtnmgkkjnjllpbaaGreatDoor
namespace Go.Proofs.YtnmgkkjnjllpbaaGreatDoor
open Go.ChangeShapes Go.WideShapes Go.ChangeAt Go.RowKit Dk

theorem infoBo : (Tryz.prog.info? 4).map (fun i => (i.zero, i.size, i.bytes)) = some (some (.bool false), 1, 1) := by kernel_rfl
/-- Cells of bools. -/
def kcells (kl : List Bool) : List Value := kl.map Value.bool
theorem kcells_length (kl : List Bool) : (kcells kl).length = kl.length * 1 := by simp [kcells]
theorem kcells_one (kl : List Bool) : ∀ u ∈ kcells kl, u.oneCell' = true := by
  intro u hu
  obtain ⟨b, _, rfl⟩ := List.mem_map.1 hu
  rfl
theorem bools_own {w : World} {base : Nat} {v : Value} {kl : List Bool} (K : Nat → Prop) (hK : ∀ i, base ≤ i → K i) (h : w.ownsRow base 4 1 v kl.length (kcells kl)) (hv : v ≠ .slice none 0 0) : OwnBools K w v kl := by
  rcases h.2 with ⟨hn, _⟩ | ⟨g, cap, cur, hv, hb, hg, hnc, _, _, ht⟩
  · exact absurd hn hv
  · refine .inr ⟨g, cap, cur, hv, hnc, hg, fun j x hj => ?_, hK g hb⟩
    have hl := (List.getElem?_eq_some_iff.1 hj).1
    have h1 : (kcells kl)[j]? = some (.bool x) := by unfold kcells; rw [List.getElem?_map, hj]; rfl
    rw [← ht, List.getElem?_take_of_lt (by omega), Array.getElem?_toList] at h1
    exact h1
set_option maxRecDepth 100000 in
set_option maxHeartbeats 800000 in
theorem clone_bools (K : Nat → Prop) (w : World) (kv : Value) (kl : List Bool) (h : BoolsAt w kv kl) (hn : kl.length ≤ 1099511627776) (hK : ∀ i, w.heap.size ≤ i → K i) :
    Calls Tryz.prog 57 #[kv] w fun e w' => ∃ v, e = .returned v ∧ OwnBools K w' v kl ∧ Below w.heap.size w w' := by
  obtain ⟨i0, hi, hz0, hz1, hz2⟩ := info_parts infoBo
  have HI := Lib.hid hi
  have HZ0 := Lib.hid hz0
  have HZ1 := Lib.hid hz1
  have HZ2 := Lib.hid hz2
  have HZS := Lib.hid (show (Value.bool false).cells.size = 1 from rfl)
  have HN := Lib.hid hn
  have HK := Lib.hid hK
  have HLN := Lib.hid (kcells_length kl)
  have HO1 := Lib.hid (kcells_one kl)
  have HOWN := Lib.hid (show (w.alloc (.cells #[] 4)).ownsRow w.heap.size 4 1 (.slice (some ⟨w.heap.size, 0, none⟩) 0 0) 0 [] from World.ownsRow_made w #[] 0 (Nat.le_refl _) (Nat.zero_le _) rfl)
  clear hi hz0 hz1 hz2 hn hK
  have hform : kv = .slice none 0 0 ∧ kl = [] ∨ (∃ c, kv = .slice none 0 c ∧ kl = []) ∨ ∃ a c, kv = .slice (some a) kl.length c ∧ ∀ j u, (kcells kl)[j]? = some u → (w.alloc (.cells #[] 4)).cell? (a.add j) = some u := by
    rcases h with ⟨rfl, a, c, rfl⟩ | ⟨b, o, c, rfl, hc, hx⟩
    · cases a with
      | none => exact .inr (.inl ⟨c, rfl, rfl⟩)
      | some a => exact .inr (.inr ⟨a, c, rfl, fun j u hj => by simp [kcells] at hj⟩)
    · refine .inr (.inr ⟨⟨b, o, none⟩, c, rfl, fun j u hj => ?_⟩)
      unfold kcells at hj
      rw [List.getElem?_map] at hj
      obtain ⟨x, hx1, rfl⟩ := Option.map_eq_some_iff.1 hj
      have := hx j x hx1
      rw [Addr.add_lit, World.cell?_alloc_lt _ _ _ (block_lt_of_cell this)]
      exact this
  clear h
  have hform2 : (∃ c, kv = .slice none 0 c ∧ kl = []) ∨ ∃ a c, kv = .slice (some a) kl.length c ∧ ∀ j u, (kcells kl)[j]? = some u → (w.alloc (.cells #[] 4)).cell? (a.add j) = some u := by
    rcases hform with ⟨rfl, rfl⟩ | h | h
    · exact .inl ⟨0, rfl, rfl⟩
    · exact .inl h
    · exact .inr h
  clear hform
  rcases hform2 with ⟨c, rfl, rfl⟩ | ⟨a, c, rfl, hsrc⟩
  · have heq : ∀ W : World, (binOp .eql 67 (.slice none 0 c) (.slice none 0 0)).run Tryz.prog W = .ok (.bool true) W := fun W => run_eql_slice_nil W _ _ none 0 c Tryz.underlying67
    go_enter Tryz.func57, Tryz.ntmps57
    go_wp2_with (fail)
    refine bodyPost_ret (results_tmp rfl _ _ _) rfl ?_
    exact ⟨_, rfl, .inl ⟨rfl, rfl⟩, Below.refl _ _⟩
  · have heq : ∀ W : World, (binOp .eql 67 (.slice (some a) kl.length c) (.slice none 0 0)).run Tryz.prog W = .ok (.bool false) W := fun W => run_eql_slice_nil W _ _ _ _ c Tryz.underlying67
    have HSRC := Lib.hid hsrc
    have HOB := Lib.hid (fun (W : World) (v : Value) (h1 : W.ownsRow w.heap.size 4 1 v kl.length (kcells kl)) (h2 : v ≠ .slice none 0 0) => bools_own K HK.out h1 h2)
    clear hsrc
    generalize kl.length = n at HLN HN HOB heq ⊢
    go_enter Tryz.func57, Tryz.ntmps57
    go_wp2_with (first
      | (with_reducible refine wpList_buildNone rfl 67 4 rfl i0 Tryz.underlying67 HI.out ?_)
      | (at_builtin; refine wpList_append_own _ rfl (.tmp 5) (.tmp 6) 67 rfl w.heap.size 4 i0 _ 1 1 Tryz.underlying67 HI.out HZ0.out HZ1.out HZ2.out HZS.out (by omega) (.slice (some ⟨w.heap.size, 0, none⟩) 0 0) 0 [] rfl HOWN.out a n c (kcells kl) rfl HLN.out HSRC.out HO1.out (by have := HN.out; unfold maxLen; omega) (by have := HN.out; omega) (by simp) ?_; intro v9 w9 hown9 hg9 hnil; obtain ⟨g9, c9, rfl, hg9b⟩ := own_formK hown9 (fun h' => by have := (hnil.1 h').1; simp at this)))
    rw [Nat.zero_add, List.nil_append] at hown9
    have hb := ((Below.refl w.heap.size w).alloc (Nat.le_refl _) (.cells #[] 4)).grown hg9 (by simp) (fun k hk => by
      have : k = w.heap.size := by simpa [Value.ownBlock] using hk.symm
      omega)
    refine bodyPost_ret (results_tmp rfl _ _ _) rfl ?_
    exact ⟨_, rfl, HOB.out _ _ hown9 (by simp), hb⟩
section
variable (K : Nat → Prop) (w : World) (D : Nat) (x : St)
theorem disk_fuse (h : DiskAt K w D x) (ha : x.away = false) (n : Nat) (hn : n < 9223372036854775808) (kv : Value) (kl : List Bool) (hkl : kl.length ≤ 1099511627776) (hK : ∀ i, w.heap.size ≤ i → K i)
    (hkk : ∀ v, BoolsAt (w.setCell ⟨D, 3, none⟩ v) kv kl) :
    Calls Tryz.prog 28 #[.pointer (some ⟨D, 0, none⟩), .int .i64 (n : Int), kv] w (DiskSays K w D (.tuple #[]) { x with fuse := some (n, kl) }) := by
  have hI := disk_isOn K w D x h
  rw [ha] at hI
  have HI := Lib.hid hI
  obtain ⟨s, cs, t, ct, lv, fv, h⟩ := h
  have H := Lib.hid h
  have HK := Lib.hid hK
  have HN := Lib.hid hn
  have c3 : w.cell? ⟨D, 3, none⟩ = some fv := h.cell 3
  have f3 := h.fz 3
  have hsz : (w.setCell ⟨D, 3, none⟩ (.pointer none)).heap.size = w.heap.size := by simp [World.setCell]
  have HCL := Lib.hid (clone_bools K (w.setCell ⟨D, 3, none⟩ (.pointer none)) kv kl (hkk _) hkl (fun i hi => hK i (by rw [hsz] at hi; exact hi)))
  have n0 : 0 ≤ (n : Int) := by omega
  have n1 : decide (0 ≤ (n : Int)) = true := decide_eq_true n0
  clear h hI hK hkk hn ha
  go_enter Tryz.func28, Tryz.ntmps28
  go_wp2_with (fail)
  refine HI.out.mono ?_
  rintro e w1 ⟨rfl, rfl⟩
  clear HI
  go_wp2_with (fail)
  refine HCL.out.mono ?_
  rintro e w1 ⟨v, rfl, hv, hb⟩
  have hD1 : w1.heap[D]? = _ := (hb.block D (by rw [hsz]; exact H.out.lt)).trans (heap_setCell_same w D 3 _ _ (.pointer none) H.out.hd)
  have d3 : w1.cell? ⟨D, 3, none⟩ = some (.pointer none) := cell_of_row w1 D 3 _ _ _ hD1
  have g3 : w1.frozen? ⟨D, 3, none⟩ = false := frozen_of_row w1 D 3 _ _ hD1
  have HD1 := Lib.hid hD1
  have HV := Lib.hid hv
  have HB := Lib.hid hb
  have hDl : D < w1.heap.size := (Array.getElem?_eq_some_iff.1 hD1).1
  have hsh : ∃ a m c, v = .slice a m c := by
    rcases hv with ⟨_, rfl⟩ | ⟨kb, c, cur, rfl, _⟩
    · exact ⟨_, _, _, rfl⟩
    · exact ⟨_, _, _, rfl⟩
  clear hv hb hD1 c3 f3
  obtain ⟨a, m, c, rfl⟩ := hsh
  have hw1 : w.heap.size ≤ w1.heap.size := by rw [← hsz]; exact HB.out.size
  have HFIN := Lib.hid (show DiskSays K w D (.tuple #[]) { x with fuse := some (n, kl) } (.returned (.tuple #[])) ((w1.setCell ⟨D, 3, none⟩ (.pointer (some ⟨w1.heap.size, 0, none⟩))).alloc (.cells #[.int .i64 (n : Int), .slice a m c] 107)) by
    have hz2 : (w1.setCell ⟨D, 3, none⟩ (.pointer (some ⟨w1.heap.size, 0, none⟩))).heap.size = w1.heap.size := by simp [World.setCell]
    have ho : ∀ i, i ≠ D → i < w1.heap.size → ((w1.setCell ⟨D, 3, none⟩ (.pointer (some ⟨w1.heap.size, 0, none⟩))).alloc (.cells #[.int .i64 (n : Int), .slice a m c] 107)).heap[i]? = w1.heap[i]? := fun i hi hl => by
      rw [heap_alloc_old _ _ (by rw [hz2]; exact hl), heap_setCell_other w1 ⟨D, 3, none⟩ i _ hi]
    have ho2 : ∀ i, i ≠ D → i < w.heap.size → w1.heap[i]? = w.heap[i]? := fun i hi hl => by
      rw [HB.out.block i (by rw [hsz]; exact hl), heap_setCell_other w ⟨D, 3, none⟩ i _ hi]
    refine ⟨rfl, ⟨s, cs, t, ct, lv, .pointer (some ⟨w1.heap.size, 0, none⟩), H.out.refuse (y := { x with fuse := some (n, kl) }) ?_ ?_ ?_ rfl rfl rfl rfl⟩, ?_⟩
    · rw [heap_alloc_old _ _ (by rw [hz2]; exact hDl)]
      exact heap_setCell_same w1 D 3 _ _ _ HD1.out
    · refine ⟨w1.heap.size, .slice a m c, rfl, ?_, HV.out.keepT (fun i cur hi => ho i (ne_type hi HD1.out (by decide)) (Array.getElem?_eq_some_iff.1 hi).1), HN.out, HK.out _ hw1⟩
      have := heap_alloc_new (w1.setCell ⟨D, 3, none⟩ (.pointer (some ⟨w1.heap.size, 0, none⟩))) (.cells #[.int .i64 (n : Int), .slice a m c] 107)
      rw [hz2] at this
      exact this
    · intro i c' u hi hu hc
      have hl := (Array.getElem?_eq_some_iff.1 hc).1
      rw [ho i hi (by omega), ho2 i hi hl]
    · exact ((((Kept.refl K w).setCell (a := ⟨D, 3, none⟩) (.inl H.out.kD) (.pointer none)).then_below HB.out).setCell (a := ⟨D, 3, none⟩) (.inl H.out.kD) _).alloc _)
  go_wp2_with (fail)
  go_end0
  exact HFIN.out
end
/-- Fuse, with bools that lie in a new row of bools. -/
theorem At.fuseNew {w0 w : World} {D : Nat} {x : St} (h : At w0 w D x) (ha : x.away = false) (n : Nat) (hn : n < 9223372036854775808) (kl : List Bool) (hkl : kl.length ≤ 1099511627776) :
    Calls Tryz.prog 28 #[.pointer (some ⟨D, 0, none⟩), .int .i64 (n : Int), .slice (some ⟨w.heap.size, 0, none⟩) kl.length kl.length] (w.alloc (.cells (kl.map Value.bool).toArray 4)) fun e w' => e = .returned (.tuple #[]) ∧ At w0 w' D { x with fuse := some (n, kl) } := by
  have h2 := h.step ((Below.refl w.heap.size w).alloc (Nat.le_refl _) (.cells (kl.map Value.bool).toArray 4))
  have hDl : D < w.heap.size := by obtain ⟨s, cs, t, ct, lv, fv, hh⟩ := h.disk; exact hh.lt
  refine (disk_fuse _ _ D x h2.disk ha n hn _ kl hkl h2.new (fun v => .inr ⟨_, 0, _, rfl, Nat.le_refl _, fun j z hj => ?_⟩)).mono fun _ _ hs => h2.says hs
  rw [Nat.zero_add, World.cell?_setCell_other _ _ _ _ (fun e => by injection e with e; omega), cell_of_row _ _ _ _ _ _ (heap_alloc_new w _), List.getElem?_toArray, List.getElem?_map, hj]
  rfl
end Go.Proofs.YtnmgkkjnjllpbaaGreatDoor
