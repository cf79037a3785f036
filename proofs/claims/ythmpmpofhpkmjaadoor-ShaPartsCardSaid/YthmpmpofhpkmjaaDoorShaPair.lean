/-
  The program's sums (package sha): the pair of two sums. Condition: both tables lie as the program's text lays them.
-/
import Derived.Test.YthmpmpofhpkmjaaDoorRefPair
import Derived.Test.YthmpmpofhpkmjaaDoorShaOfs
namespace Go.Proofs.YthmpmpofhpkmjaaDoor
open Go.ChangeShapes Go.WideShapes Go.ChangeAt Go.RowKit Sh

set_option maxHeartbeats 800000 in
theorem pair_any (f g : Nat → UInt8) (w : World) (hT : Tabs w) :
    Calls Tryd.prog 12 #[.agg (digF f), .agg (digF g)] w fun e w' => e = .returned (.agg (digF (sumF (pairL f g)))) ∧ Below w.heap.size w w' := by
  have HT := Lib.hid hT
  clear hT
  go_enter Tryd.func12, Tryd.ntmps12
  go_wp2_with (fail)
  refine gen_world (fun wr => Below w.heap.size w wr ∧ wr.rowIs w.heap.size 25 32 (fun j => .int .u8 ((f j).toNat : Int)) ∧ wr.rowIs (w.heap.size + 1) 25 32 (fun j => .int .u8 ((g j).toNat : Int)) ∧ wr.rowIs (w.heap.size + 1 + 1) 25 32 (fun _ => .int .u8 0)) ?_ ?_
  · exact ⟨(((Below.refl _ _).alloc (Nat.le_refl _) _).alloc (by simp) _).alloc (by simp; omega) _, ((row_alloc _ rfl rfl).alloc _).alloc _, (row_alloc _ (by simp) rfl).alloc _, row_alloc _ (by simp) (by kernel_rfl)⟩
  rintro wr ⟨hb, hf, hg, hz⟩
  have hs := hz.lt
  have x0 : ∀ c, (convert 55 9 (.slice (some ⟨w.heap.size, 0, none⟩) 32 c)).run Tryd.prog wr.drew = .ok (.string ⟨(dig32 f).toArray⟩) wr.drew := fun c =>
    run_bytes_string wr.drew ⟨w.heap.size, 0, none⟩ 32 c f (fun j hj => by rw [Addr.add_lit, Nat.zero_add]; exact hf.cell hj)
  have x1 : ∀ c, (convert 55 9 (.slice (some ⟨w.heap.size + 1, 0, none⟩) 32 c)).run Tryd.prog wr.drew = .ok (.string ⟨(dig32 g).toArray⟩) wr.drew := fun c =>
    run_bytes_string wr.drew ⟨w.heap.size + 1, 0, none⟩ 32 c g (fun j hj => by rw [Addr.add_lit, Nat.zero_add]; exact hg.cell hj)
  have HJ := Lib.hid (show flat [⟨#[1]⟩, ⟨(dig32 f).toArray⟩, ⟨(dig32 g).toArray⟩] = pairL f g by simp [flat, pairL])
  have HN := Lib.hid (show (pairL f g).length = 65 by simp [pairL, dig32])
  generalize (⟨(dig32 f).toArray⟩ : ByteArray) = X0 at HJ x0
  generalize (⟨(dig32 g).toArray⟩ : ByteArray) = X1 at HJ x1
  go_still_tail 4, (by kernel_rfl)
  change wpList _ _ _ _ _ wr.drew
  have hb1 := below_drewN hb 1
  have hz1 : wr.drew.rowIs (w.heap.size + 1 + 1) 25 32 (fun _ => .int .u8 0) := hz
  have hs1 : w.heap.size + 1 + 1 < wr.drew.heap.size := hs
  change Below w.heap.size w wr.drew at hb1
  clear hb hf hg hz hs x0 x1
  generalize wr.drew = w2 at hb1 hz1 hs1 ⊢
  go_wp2_with (fail)
  have hb2 := hb1.alloc (show w.heap.size ≤ w2.heap.size by omega) (.cells #[.string ⟨#[1]⟩, .string X0, .string X1] 9)
  refine (of_strs [⟨#[1]⟩, X0, X1] (pairL f g) HJ.out _ 3 3 _ rfl (by omega) (fun k hk => ?_) (HT.out.below hb2) (by have := HN.out; omega)).mono ?_
  · match k, hk with
    | 0, _ => rw [cell_of_row _ _ _ _ _ _ (heap_alloc_new w2 _)]; rfl
    | 1, _ => rw [cell_of_row _ _ _ _ _ _ (heap_alloc_new w2 _)]; rfl
    | 2, _ => rw [cell_of_row _ _ _ _ _ _ (heap_alloc_new w2 _)]; rfl
  rintro e w5 ⟨rfl, hb5⟩
  have hz5 := (hz1.alloc _).of_block (hb5.block _ (by simp; omega))
  have hb6 := hb2.trans (hb5.mono (by simp; omega))
  generalize hF : sumF (pairL f g) = F
  have HF := Lib.hid hF
  clear hF
  have HBL := Lib.hid (below_setRow' hb6 (show w.heap.size ≤ w.heap.size + 1 + 1 by omega) (digF F))
  have H1 := Lib.hid (row_block hz5)
  have H3 := Lib.hid (row_block (row_setRow (g := fun j => .int .u8 ((F j).toNat : Int)) hz5))
  have HIF := Lib.hid (hiDigF F)
  have HOF := Lib.hid (hoDig F)
  have HZo := Lib.hid (show (vals 32 fun _ => Value.int .u8 0).size = (digF F).size by unfold digF; rw [vals_size, vals_size])
  clear hb1 hz1 hs1 hb5 hz5 hb6 hb2
  go_wp2_with (with_reducible refine wpList_store_row rfl 25 _ _ rfl _ (digF F) rfl rfl 25 _ H1.out HIF.out HZo.out HOF.out ?_)
  refine bodyPost_ret (results_cell_row rfl _ _ _ 25 _ _ _ rfl H3.out Tryd.underlying25 rfl (HIF.out)) rfl ?_
  exact ⟨by rw [HF.out]; rfl, HBL.out⟩
end Go.Proofs.YthmpmpofhpkmjaaDoor
