/-
  Package disk: Write without power, and at the fuse's end; Fuse. Conditions: the disk stands in blocks of its own.
-/
import Derived.Test.YthmpmpofhpkmjabDkWrite
namespace Go.Proofs.Ythmpmpofhpkmjab
open Go.ChangeShapes Go.WideShapes Go.ChangeAt Go.RowKit Dk

section
variable (K : Nat → Prop) (w : World) (D : Nat) (x : St)
theorem disk_write_away (h : DiskAt K w D x) (ha : x.away = true) (p : Nat) (hp : p < x.n) (q : ByteArray) (hq : q.size = 32) :
    Calls Try.prog 9 #[.pointer (some ⟨D, 0, none⟩), .int .i64 (p : Int), .string q] w fun e w' => e = .returned (.int .i64 4) ∧ w = w' := by
  have hr := disk_reach K w D x h (p : Int)
  rw [reach_in (by omega) (by omega), ha, if_pos rfl] at hr
  have HR := Lib.hid hr
  have hq2 : (q.size : Int) = 32 := by omega
  have hq3 : ((q.size : Int) == 32) = true := by rw [hq2]; rfl
  clear hr h hq
  go_enter Try.func9, Try.ntmps9
  go_wp2_with (fail)
  refine HR.out.mono ?_
  rintro e w1 ⟨rfl, rfl⟩
  clear HR
  go_wp2_with (fail)
  refine bodyPost_ret (results_tmp rfl _ _ _) rfl ?_
  exact ⟨rfl, rfl⟩
theorem disk_write_end (h : DiskAt K w D x) (ha : x.away = false) (p : Nat) (hp : p < x.n) (q : ByteArray) (hq : q.size = 32) (kl : List Bool) (hf : x.fuse = some (0, kl)) (hl : x.loose.length ≤ 1073741824) (hkl : kl.length ≤ 1099511627776) :
    Calls Try.prog 9 #[.pointer (some ⟨D, 0, none⟩), .int .i64 (p : Int), .string q] w (DiskSays K w D (.int .i64 4) (x.fall kl)) := by
  have HB := Lib.hid (disk_burn_end K w D x h kl hf hl hkl)
  have hr := disk_reach K w D x h (p : Int)
  rw [reach_in (by omega) (by omega), ha, if_neg Bool.false_ne_true] at hr
  have HR := Lib.hid hr
  have hq2 : (q.size : Int) = 32 := by omega
  have hq3 : ((q.size : Int) == 32) = true := by rw [hq2]; rfl
  clear hr h hq
  go_enter Try.func9, Try.ntmps9
  go_wp2_with (fail)
  refine HR.out.mono ?_
  rintro e w1 ⟨rfl, rfl⟩
  clear HR
  go_wp2_with (fail)
  refine HB.out.mono ?_
  rintro e w1 ⟨rfl, h1, h2⟩
  have H1 := Lib.hid h1
  have H2 := Lib.hid h2
  clear h1 h2 HB
  go_wp2_with (fail)
  refine bodyPost_ret (results_tmp rfl _ _ _) rfl ?_
  exact ⟨rfl, H1.out, H2.out⟩
theorem disk_fuse (h : DiskAt K w D x) (ha : x.away = false) (n : Nat) (hn : n < 9223372036854775808) (kv : Value) (kl : List Bool) (hkl : kl.length ≤ 1099511627776) (hK : ∀ i, w.heap.size ≤ i → K i)
    (hkk : ∀ v, BoolsAt (w.setCell ⟨D, 3, none⟩ v) kv kl) :
    Calls Try.prog 7 #[.pointer (some ⟨D, 0, none⟩), .int .i64 (n : Int), kv] w (DiskSays K w D (.tuple #[]) { x with fuse := some (n, kl) }) := by
  have hI := disk_isOn K w D x h
  rw [ha] at hI
  have HI := Lib.hid hI
  obtain ⟨s, cs, t, ct, lv, fv, h⟩ := h
  have H := Lib.hid h
  have HK := Lib.hid hK
  have HN := Lib.hid hn
  have c3 : w.cell? ⟨D, 3, none⟩ = some fv := h.cell 3
  have f3 := h.fz 3
  have hsz : (w.setCell ⟨D, 3, none⟩ (.pointer none)).heap.size = w.heap.size := by simp [World.setCell]
  have HCL := Lib.hid (clone_bools K (w.setCell ⟨D, 3, none⟩ (.pointer none)) kv kl (hkk _) hkl (fun i hi => hK i (by rw [hsz] at hi; exact hi)))
  have n0 : 0 ≤ (n : Int) := by omega
  have n1 : decide (0 ≤ (n : Int)) = true := decide_eq_true n0
  clear h hI hK hkk hn ha
  go_enter Try.func7, Try.ntmps7
  go_wp2_with (fail)
  refine HI.out.mono ?_
  rintro e w1 ⟨rfl, rfl⟩
  clear HI
  go_wp2_with (fail)
  refine HCL.out.mono ?_
  rintro e w1 ⟨v, rfl, hv, hb⟩
  have hD1 : w1.heap[D]? = _ := (hb.block D (by rw [hsz]; exact H.out.lt)).trans (heap_setCell_same w D 3 _ _ (.pointer none) H.out.hd)
  have d3 : w1.cell? ⟨D, 3, none⟩ = some (.pointer none) := cell_of_row w1 D 3 _ _ _ hD1
  have g3 : w1.frozen? ⟨D, 3, none⟩ = false := frozen_of_row w1 D 3 _ _ hD1
  have HD1 := Lib.hid hD1
  have HV := Lib.hid hv
  have HB := Lib.hid hb
  have hDl : D < w1.heap.size := (Array.getElem?_eq_some_iff.1 hD1).1
  have hsh : ∃ a m c, v = .slice a m c := by
    rcases hv with ⟨_, rfl⟩ | ⟨kb, c, cur, rfl, _⟩
    · exact ⟨_, _, _, rfl⟩
    · exact ⟨_, _, _, rfl⟩
  clear hv hb hD1 c3 f3
  obtain ⟨a, m, c, rfl⟩ := hsh
  have hw1 : w.heap.size ≤ w1.heap.size := by rw [← hsz]; exact HB.out.size
  have HFIN := Lib.hid (show DiskSays K w D (.tuple #[]) { x with fuse := some (n, kl) } (.returned (.tuple #[])) ((w1.setCell ⟨D, 3, none⟩ (.pointer (some ⟨w1.heap.size, 0, none⟩))).alloc (.cells #[.int .i64 (n : Int), .slice a m c] 48)) by
    have hz2 : (w1.setCell ⟨D, 3, none⟩ (.pointer (some ⟨w1.heap.size, 0, none⟩))).heap.size = w1.heap.size := by simp [World.setCell]
    have ho : ∀ i, i ≠ D → i < w1.heap.size → ((w1.setCell ⟨D, 3, none⟩ (.pointer (some ⟨w1.heap.size, 0, none⟩))).alloc (.cells #[.int .i64 (n : Int), .slice a m c] 48)).heap[i]? = w1.heap[i]? := fun i hi hl => by
      rw [heap_alloc_old _ _ (by rw [hz2]; exact hl), heap_setCell_other w1 ⟨D, 3, none⟩ i _ hi]
    have ho2 : ∀ i, i ≠ D → i < w.heap.size → w1.heap[i]? = w.heap[i]? := fun i hi hl => by
      rw [HB.out.block i (by rw [hsz]; exact hl), heap_setCell_other w ⟨D, 3, none⟩ i _ hi]
    refine ⟨rfl, ⟨s, cs, t, ct, lv, .pointer (some ⟨w1.heap.size, 0, none⟩), H.out.refuse (y := { x with fuse := some (n, kl) }) ?_ ?_ ?_ rfl rfl rfl rfl⟩, ?_⟩
    · rw [heap_alloc_old _ _ (by rw [hz2]; exact hDl)]
      exact heap_setCell_same w1 D 3 _ _ _ HD1.out
    · refine ⟨w1.heap.size, .slice a m c, rfl, ?_, HV.out.keepT (fun i cur hi => ho i (ne_type hi HD1.out (by decide)) (Array.getElem?_eq_some_iff.1 hi).1), HN.out, HK.out _ hw1⟩
      have := heap_alloc_new (w1.setCell ⟨D, 3, none⟩ (.pointer (some ⟨w1.heap.size, 0, none⟩))) (.cells #[.int .i64 (n : Int), .slice a m c] 48)
      rw [hz2] at this
      exact this
    · intro i c' u hi hu hc
      have hl := (Array.getElem?_eq_some_iff.1 hc).1
      rw [ho i hi (by omega), ho2 i hi hl]
    · exact ((((Kept.refl K w).setCell (a := ⟨D, 3, none⟩) (.inl H.out.kD) (.pointer none)).then_below HB.out).setCell (a := ⟨D, 3, none⟩) (.inl H.out.kD) _).alloc _)
  go_wp2_with (fail)
  go_end0
  exact HFIN.out
end
end Go.Proofs.Ythmpmpofhpkmjab
