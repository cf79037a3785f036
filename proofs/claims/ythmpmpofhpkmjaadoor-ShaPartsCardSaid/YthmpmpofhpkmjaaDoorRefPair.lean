/-
  The document's own pair of two sums. No condition.
-/
import Derived.Test.YthmpmpofhpkmjaaDoorRefOf
import Derived.Test.YthmpmpofhpkmjaaDoorShaTreeS
namespace Go.Proofs.YthmpmpofhpkmjaaDoor
open Go.ChangeShapes Go.WideShapes Go.ChangeAt Go.RowKit Sh

/-- A sum's 32 bytes. -/
def dig32 (f : Nat → UInt8) : List UInt8 := (List.range 32).map f
/-- What the pair of two sums is the sum of. -/
def pairL (f g : Nat → UInt8) : List UInt8 := 1 :: (dig32 f ++ dig32 g)

set_option maxHeartbeats 800000 in
theorem refPair_any (f g : Nat → UInt8) (w : World) :
    Calls Tryd.prog 13 #[.agg (digF f), .agg (digF g)] w fun e w' => e = .returned (.agg (digF (sumF (pairL f g)))) ∧ Below w.heap.size w w' := by
  go_enter Tryd.func13, Tryd.ntmps13
  go_wp2_with (fail)
  refine gen_world (fun wr => Below w.heap.size w wr ∧ wr.rowIs w.heap.size 24 32 (fun j => .int .u8 ((f j).toNat : Int)) ∧ wr.rowIs (w.heap.size + 1) 24 32 (fun j => .int .u8 ((g j).toNat : Int)) ∧ wr.rowIs (w.heap.size + 2) 24 32 (fun _ => .int .u8 0)) ?_ ?_
  · exact ⟨(((Below.refl _ _).alloc (Nat.le_refl _) _).alloc (by simp) _).alloc (by simp; omega) _, ((row_alloc _ rfl rfl).alloc _).alloc _, (row_alloc _ (by simp) rfl).alloc _, row_alloc _ (by simp) (by kernel_rfl)⟩
  rintro wr ⟨hb, hf, hg, hz⟩
  have hs := hz.lt
  have x0 : ∀ c, (convert 55 9 (.slice (some ⟨w.heap.size, 0, none⟩) 32 c)).run Tryd.prog wr.drew = .ok (.string ⟨(dig32 f).toArray⟩) wr.drew := fun c =>
    run_bytes_string wr.drew ⟨w.heap.size, 0, none⟩ 32 c f (fun j hj => by rw [Addr.add_lit, Nat.zero_add]; exact hf.cell hj)
  have x1 : ∀ c, (convert 55 9 (.slice (some ⟨w.heap.size + 1, 0, none⟩) 32 c)).run Tryd.prog wr.drew = .ok (.string ⟨(dig32 g).toArray⟩) wr.drew := fun c =>
    run_bytes_string wr.drew ⟨w.heap.size + 1, 0, none⟩ 32 c g (fun j hj => by rw [Addr.add_lit, Nat.zero_add]; exact hg.cell hj)
  have HJ := Lib.hid (show ((⟨#[1]⟩ : ByteArray) ++ ⟨(dig32 f).toArray⟩ ++ ⟨(dig32 g).toArray⟩).data.toList = pairL f g by simp [ByteArray.data_append, pairL])
  have hX0 : (⟨(dig32 f).toArray⟩ : ByteArray).size = 32 := by simp [ByteArray.size, dig32]
  have hX1 : (⟨(dig32 g).toArray⟩ : ByteArray).size = 32 := by simp [ByteArray.size, dig32]
  generalize (⟨(dig32 f).toArray⟩ : ByteArray) = X0 at HJ hX0 x0
  generalize (⟨(dig32 g).toArray⟩ : ByteArray) = X1 at HJ hX1 x1
  have h1 : (⟨#[1]⟩ : ByteArray).size = 1 := rfl
  have q0 : ¬ 9223372036854775807 < 1 + X0.size := by omega
  have q1 : ¬ 9223372036854775807 < 1 + X0.size + X1.size := by omega
  have HX := Lib.hid (show ((⟨#[1]⟩ : ByteArray) ++ X0 ++ X1).size < 100000 by rw [ByteArray.size_append, ByteArray.size_append]; omega)
  clear hX0 hX1 h1
  go_still_tail 6, (by kernel_rfl)
  change wpList _ _ _ _ _ wr.drew
  have hb1 := below_drewN hb 1
  have hz1 : wr.drew.rowIs (w.heap.size + 1 + 1) 24 32 (fun _ => .int .u8 0) := hz
  have hs1 : w.heap.size + 1 + 1 < wr.drew.heap.size := hs
  change Below w.heap.size w wr.drew at hb1
  clear hb hf hg hz hs x0 x1 q0 q1
  generalize wr.drew = w2 at hb1 hz1 hs1 ⊢
  go_wp2_with (fail)
  refine (refOf_any _ w2 HX.out).mono ?_
  rintro e w5 ⟨rfl, hb5⟩
  rw [HJ.out, show digV (pairL f g) = digF (sumF (pairL f g)) from rfl]
  have hz5 := hz1.of_block (hb5.block _ hs1)
  have hb6 := hb1.trans (hb5.mono (by omega))
  generalize hF : sumF (pairL f g) = F
  have HF := Lib.hid hF
  clear hF
  have HBL := Lib.hid (below_setRow' hb6 (show w.heap.size ≤ w.heap.size + 1 + 1 by omega) (digF F))
  have H1 := Lib.hid (row_block hz5)
  have H3 := Lib.hid (row_block (row_setRow (g := fun j => .int .u8 ((F j).toNat : Int)) hz5))
  have HIF := Lib.hid (show (Tryd.prog.info? 24).map (·.size) = some (digF F).size from hi32 _)
  have HOF := Lib.hid (hoDig F)
  have HZo := Lib.hid (show (vals 32 fun _ => Value.int .u8 0).size = (digF F).size by unfold digF; rw [vals_size, vals_size])
  clear hb1 hz1 hs1 hb5 hz5 hb6
  go_wp2_with (with_reducible refine wpList_store_row rfl 24 _ _ rfl _ (digF F) rfl rfl 24 _ H1.out HIF.out HZo.out HOF.out ?_)
  refine bodyPost_ret (results_cell_row rfl _ _ _ 24 _ _ _ rfl H3.out Tryd.underlying24 rfl (hi32 _)) rfl ?_
  exact ⟨by rw [HF.out]; rfl, HBL.out⟩
end Go.Proofs.YthmpmpofhpkmjaaDoor
