/-
  Package brain: what Digest and Weights answer. Conditions: a model stands in its block; of Digest, both of sha's tables lie as the program's text lays them.
-/
import Derived.Test.YtgenpfhcbopokaaDoorMg21
import Derived.Test.YtgenpfhcbopokaaDoorMg24
import Derived.Deep.MidRow
set_option maxRecDepth 100000
namespace Go.Proofs.YtgenpfhcbopokaaDoor
open Go.ChangeShapes Go.WideShapes Go.ChangeAt Go.RowKit Cf Br Sh

section
variable (w : World) (b : Nat) (x : Cfg) (s : ByteArray) (h : w.heap[b]? = some (brO x s))
include h
theorem brain_weights : Calls Tryd.prog 10 #[.pointer (some ⟨b, 0, none⟩)] w fun e w' => e = .returned (.string s) ∧ w = w' := by
  obtain ⟨e0, e1, e2, e3, e4, e5, e6⟩ := seven h
  clear h
  go_enter Tryd.func10, Tryd.ntmps10
  go_wp2
  go_ret
  exact ⟨rfl, rfl⟩
set_option maxRecDepth 100000 in
set_option maxHeartbeats 1600000 in
theorem brain_digest (hs : s.size ≤ 1000000) (hF : FOn w) (hK : KOn w) : Calls Tryd.prog 9 #[.pointer (some ⟨b, 0, none⟩)] w fun e w' => e = .returned (.agg (digF (sumF (bytesB x s).data.toList))) ∧ Below w.heap.size w w' := by
  have HBY := Lib.hid (fun (W : World) (hW : Below w.heap.size w W) => brain_bytes W b x s (Br.stays h hW) hs)
  have HQ := Lib.hid (show (bytesB x s).data.toList.length < 72057594037927936 by have h1 := bytesB_size x s; show (bytesB x s).size < _; omega)
  have HF := Lib.hid hF
  have HK := Lib.hid hK
  generalize bytesB x s = q at *
  clear h hs hF hK
  go_enter Tryd.func9, Tryd.ntmps9
  go_wp2_with (fail)
  refine (HBY.out _ ((Below.refl _ _).alloc (Nat.le_refl _) _)).mono ?_
  rintro e w1 ⟨rfl, b1⟩
  have HR1 := Lib.hid (show w1.rowIs w.heap.size 33 32 (fun _ => .int .u8 0) from (row_alloc _ rfl (by kernel_rfl)).of_block (b1.block _ (by simp)))
  have HB1 := Lib.hid (show Below w.heap.size w w1 from ((Below.refl _ _).alloc (Nat.le_refl _) _).trans (b1.mono (by simp)))
  clear b1
  go_wp2_with (fail)
  have b2 := (Below.refl w1.heap.size w1).alloc (Nat.le_refl _) (.cells #[.string q] 9)
  have b3 := HB1.out.trans (b2.mono HB1.out.size)
  refine (of_here [q] q.data.toList (by simp [flat]) _ (some ⟨w1.heap.size, 0, none⟩) 1 1 rfl (by omega) (fun _ => ⟨_, 0, rfl, fun k hk => ?_⟩) (HF.out.below b3) (HK.out.below HK.out.lt b3) HQ.out).mono ?_
  · match k, hk with
    | 0, _ => rw [cell_of_row _ _ _ _ _ _ (heap_alloc_new w1 _)]; rfl
  rintro e w4 ⟨rfl, b4⟩
  have b5 := b2.trans (b4.mono b2.size)
  have hres : w4.rowIs w.heap.size 33 32 (fun _ => .int .u8 0) := HR1.out.of_block (b5.block _ HR1.out.lt)
  have hB := HB1.out.trans (b5.mono HB1.out.size)
  have hfin := below_setRow' hB (Nat.le_refl _) (digF (sumF q.data.toList))
  have H2 := Lib.hid (row_block hres)
  have H3 := Lib.hid (row_block (row_setRow (g := fun j => Value.int .u8 ((sumF q.data.toList j).toNat : Int)) hres))
  clear hres b2 b3 b4 b5 hB
  go_wp2_with (with_reducible refine wpList_store_row rfl 33 _ _ rfl _ _ rfl rfl 33 _ H2.out (hiDigF _) (hzDig _) (hoDig _) ?_)
  refine bodyPost_ret (results_cell_row rfl _ _ _ 33 _ _ _ rfl H3.out Tryd.underlying33 rfl (hiDig _)) rfl ?_
  exact ⟨rfl, hfin⟩
end
end Go.Proofs.YtgenpfhcbopokaaDoor
