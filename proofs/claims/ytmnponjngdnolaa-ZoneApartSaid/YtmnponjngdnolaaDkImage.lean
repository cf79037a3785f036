/-
  Package disk: Image. Conditions: the disk stands in blocks of its own.
-/
import Derived.Test.YtmnponjngdnolaaDkRead
import Derived.Test.YtmnponjngdnolaaDkFall
namespace Go.Proofs.Ytmnponjngdnolaa
open Go.ChangeShapes Go.WideShapes Go.ChangeAt Go.RowKit Dk

namespace Dk
/-- All bytes of n sectors as a text. -/
def imgS (n : Nat) (f : Nat → UInt8) : ByteArray := ⟨((List.range (n * 32)).map f).toArray⟩
theorem imgS_congr {n : Nat} {f g : Nat → UInt8} (h : ∀ k, k < n * 32 → f k = g k) : imgS n f = imgS n g := by
  unfold imgS
  rw [List.map_congr_left fun k hk => h k (List.mem_range.1 hk)]
theorem imgS_size (n : Nat) (f : Nat → UInt8) : (imgS n f).size = n * 32 := by
  show ((List.range (n * 32)).map f).toArray.size = n * 32
  simp
end Dk
theorem infoU : (Try.prog.info? 5).map (fun i => (i.zero, i.size, i.bytes)) = some (some (.int .u8 0), 1, 1) := by kernel_rfl
theorem bcellsK_next (f : Nat → UInt8) (k : Nat) : bcellsK f (k * 32) ++ secL (sect f k) = bcellsK f ((k + 1) * 32) := by
  apply List.ext_getElem?
  intro j
  by_cases h1 : j < k * 32
  · rw [List.getElem?_append_left (by rw [bcellsK_length]; exact h1), bcellsK_get _ _ _ h1, bcellsK_get _ _ _ (by omega)]
  · rw [List.getElem?_append_right (by rw [bcellsK_length]; omega), bcellsK_length]
    by_cases h2 : j < (k + 1) * 32
    · rw [secL_get _ _ (by omega), bcellsK_get _ _ _ h2]
      unfold sect
      rw [show k * 32 + (j - k * 32) = j by omega]
    · rw [List.getElem?_eq_none (by rw [secL_length]; omega), List.getElem?_eq_none (by rw [bcellsK_length]; omega)]
theorem run_img (w : World) (base g n c : Nat) (f : Nat → UInt8) (h : w.ownsRow base 5 1 (.slice (some ⟨g, 0, none⟩) (n * 32) c) (n * 32) (bcellsK f (n * 32))) :
    (convert 22 9 (.slice (some ⟨g, 0, none⟩) (n * 32) c)).run Try.prog w = .ok (.string (imgS n f)) w := by
  refine run_textK w _ (n * 32) c ((List.range (n * 32)).map f) (by simp) fun j u hj => ?_
  refine h.cells (g := g) rfl j u ?_
  rw [← hj]
  unfold bcellsK
  rw [List.map_map]
  rfl
set_option maxRecDepth 100000 in
set_option maxHeartbeats 1600000 in
theorem disk_image (K : Nat → Prop) (w : World) (D : Nat) (x : St) (h : DiskAt K w D x) :
    Calls Try.prog 22 #[.pointer (some ⟨D, 0, none⟩)] w fun e w' => e = .returned (.string (imgS x.n x.safe)) ∧ Below w.heap.size w w' := by
  obtain ⟨s, cs, t, ct, lv, fv, h⟩ := h
  have HS := Lib.hid h.sr
  have hd := h.hd
  have hDl := h.lt
  have hsl := h.sr.lt
  have c0 : w.cell? ⟨D, 0, none⟩ = some (.slice (some ⟨s, 0, none⟩) x.n cs) := h.cell 0
  have HC0 := Lib.hid (show ∀ W : World, Below w.heap.size w W → W.cell? ⟨D, 0, none⟩ = some (.slice (some ⟨s, 0, none⟩) x.n cs) from fun W hW => (World.cell?_of_block (w := w) (a := ⟨D, 0, none⟩) (hW.block D hDl)).trans c0)
  have hn := h.nb
  clear h hd
  generalize x.n = n at HS c0 HC0 hn ⊢
  generalize x.safe = f at HS ⊢
  have e1 : IntKind.i64.wrap ((n : Int) * 32) = ((n * 32 : Nat) : Int) := (IntWalk.i64_in _ (by omega)).trans (by omega)
  obtain ⟨i0, hi, hz0, hz1, hz2⟩ := info_parts infoU
  have HI := Lib.hid hi
  have HZ0 := Lib.hid hz0
  have HZ1 := Lib.hid hz1
  have HZ2 := Lib.hid hz2
  have HZS := Lib.hid (show (Value.int .u8 0).cells.size = 1 from rfl)
  clear hi hz0 hz1 hz2
  go_enter Try.func22, Try.ntmps22
  go_wp2_with (at_make; refine wpList_make_own _ rfl _ _ 22 rfl w.heap.size 5 i0 _ 1 Try.underlying22 HI.out HZ0.out HZ1.out .i64 .i64 _ (n * 32) rfl rfl (by first | exact e1 | rfl | omega) (by rw [HZ2.out]; omega) (by unfold maxLen; omega) (Nat.le_refl _) ?_; intro w1 hown hg1; have hb1 : Below w.heap.size w w1 := (Below.refl _ _).grown hg1 (Nat.le_refl _) (fun k hk => by cases hk); have d0 := HC0.out w1 hb1; have HB1 := Lib.hid hb1; have HW1 := Lib.hid hown; clear hg1 hb1 hown)
  go_loopw [3, 20] (fun row i wr => ∃ k g c : Nat, i = .int .i64 (k : Int) ∧ k ≤ n ∧ row = .slice (some ⟨g, 0, none⟩) (k * 32) c ∧ wr.ownsRow w.heap.size 5 1 row (k * 32) (bcellsK f (k * 32)) ∧ Below w.heap.size w wr) (fun _ i _ => match i with | .int _ k => n - k.toNat | _ => 0)
  case atStart => exact ⟨0, w.heap.size, n * 32, rfl, Nat.zero_le _, rfl, HW1.out, HB1.out⟩
  case round =>
    clear HW1 HB1 d0 c0
    obtain ⟨k, g, c, rfl, hkn, rfl, hown, hb⟩ := hrel
    have HOW := Lib.hid hown
    have HB := Lib.hid hb
    clear hown hb
    by_cases hlt : k < n
    · have x0 : (k : Int) < (n : Int) := by omega
      have x1 : decide ((k : Int) < (n : Int)) = true := decide_eq_true x0
      have x2 : 0 ≤ (k : Int) := by omega
      have HSI := Lib.hid (show (Try.prog.info? 52).map (·.size) = some (secL (sect f k)).length by rw [secL_length]; exact sizeS)
      have HSA := Lib.hid (show (Try.prog.info? 52).map (·.size) = some (secL (sect f k)).toArray.size by rw [List.size_toArray, secL_length]; exact sizeS)
      have HSO := Lib.hid (show (secL (sect f k)).toArray.all (·.oneCell') = true by rw [secA_list]; exact secA_one _)
      have HZ3 := Lib.hid (show (secL (sect f k)).toArray.size = 32 by rw [List.size_toArray, secL_length])
      have HRG := Lib.hid ((HS.out.of_block (HB.out.block s hsl)).range hlt)
      have HNX := Lib.hid (bcellsK_next f k)
      have HV := Lib.hid (show ∀ z : Array Value, Below wr.heap.size wr ((wr.alloc (.cells z 52)).setRow wr.heap.size (secL (sect f k)).toArray) ∧ ((wr.alloc (.cells z 52)).setRow wr.heap.size (secL (sect f k)).toArray).heap[wr.heap.size]? = some (.cells (secL (sect f k)).toArray 52 (0, 0)) from
        fun z => ⟨below_setRow' ((Below.refl _ _).alloc (Nat.le_refl _) _) (Nat.le_refl _) _, setRow_heap _ _ _ _ _ _ (heap_alloc_new wr _)⟩)
      go_wp2_with (first
        | (with_reducible refine wpList_load_mid rfl 52 _ rfl s (k * 32) rfl (secL (sect f k)) _ HRG.out Try.underlying52 rfl HSI.out ?_)
        | (refine wpList_store_row rfl 52 (.tmp 5) (.tmp 23) rfl wr.heap.size (secL (sect f k)).toArray rfl rfl 52 _ (heap_alloc_new _ _) HSA.out (by rw [HZ3.out]; rfl) HSO.out ?_
           refine gen_list (fun W => Below wr.heap.size wr W ∧ W.heap[wr.heap.size]? = some (.cells (secL (sect f k)).toArray 52 (0, 0))) (HV.out _) ?_
           rintro w5 ⟨h5, v5⟩
           have HOW5 := Lib.hid (own_keep HOW.out (fun i hi => h5.block i (HOW.out.lt i hi).2))
           have HB5 := Lib.hid (HB.out.trans (h5.mono HB.out.size))
           have HSR := Lib.hid (show ∀ j u, (secL (sect f k))[j]? = some u → w5.cell? ((⟨wr.heap.size, 0, none⟩ : Addr).add j) = some u from fun j u hj => by
             rw [Addr.add_lit, Nat.zero_add, cell_of_row _ _ _ _ _ _ v5, List.getElem?_toArray]; exact hj)
           clear h5 v5)
        | (at_builtin; refine wpList_append_own _ rfl (.tmp 24) (.tmp 25) 22 rfl w.heap.size 5 i0 _ 1 1 Try.underlying22 HI.out HZ0.out HZ1.out HZ2.out HZS.out (by omega) (.slice (some ⟨g, 0, none⟩) (k * 32) c) (k * 32) (bcellsK f (k * 32)) rfl HOW5.out ⟨wr.heap.size, 0, none⟩ 32 32 (secL (sect f k)) rfl (by rw [secL_length]) HSR.out (by intro u hu; exact Array.all_eq_true_iff_forall_mem.1 (secA_one (sect f k)) u (by simpa [secL] using hu)) (by unfold maxLen; omega) (by omega) HB5.out.size ?_
           intro v9 w9 hown9 hg9 hnil
           obtain ⟨g9, c9, rfl, hg9b⟩ := own_formK hown9 (fun h' => by have := (hnil.1 h').2; omega)
           rw [HNX.out] at hown9
           have HO9 := Lib.hid hown9
           have HB9 := Lib.hid (HB5.out.grown hg9 HB5.out.size (fun i hi => (HOW5.out.lt i hi).1))
           clear hown9 hg9 hnil))
      have hk1 : k * 32 + 32 = (k + 1) * 32 := by omega
      rw [hk1]
      have HO10 := HO9.out
      rw [hk1] at HO10
      exact ⟨⟨k + 1, g9, c9, rfl, by omega, rfl, HO10, HB9.out⟩, by show n - ((k : Int) + 1).toNat < n - (k : Int).toNat; omega⟩
    · have hke : k = n := by omega
      subst hke
      have x0 : ¬ (k : Int) < (k : Int) := by omega
      have x1 : decide ((k : Int) < (k : Int)) = false := decide_eq_false x0
      have hcv := run_img wr w.heap.size g k c f HOW.out
      clear hlt x0
      go_wp2_with (fail)
      refine bodyPost_ret (results_tmp rfl _ _ _) rfl ?_
      exact ⟨rfl, HB.out⟩
end Go.Proofs.Ytmnponjngdnolaa
