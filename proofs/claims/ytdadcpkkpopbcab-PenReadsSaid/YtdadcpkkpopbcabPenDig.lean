/-
  Package pen's reader: a sum. Conditions: the eye stands in a block of its own.
-/
import Derived.Test.YtdadcpkkpopbcabPenRef
import Derived.Test.YtdadcpkkpopbcabPenDigV
import Derived.Test.YtdadcpkkpopbcabShaCopy
import Derived.Deep.RegionWith
namespace Go.Proofs.Ytdadcpkkpopbcab
open Go.ChangeShapes Go.WideShapes Go.ChangeAt Go.RowKit Pn

/-- The cells that are copied. -/
def dgCells (r : ByteArray) : List Value := ((tkOut r 32).data.toList.take (min (tkOut r 32).size 32)).map fun x => Value.int .u8 (x.toNat : Int)
theorem dgCells_len (r : ByteArray) : (dgCells r).length = min (tkOut r 32).size 32 := by
  unfold dgCells
  rw [List.length_map, List.length_take]
  have : (tkOut r 32).data.toList.length = (tkOut r 32).size := rfl
  omega
theorem dg_spliced (r : ByteArray) : vals 32 (spliced 0 (dgCells r) fun _ => .int .u8 0) = dgV (dgOut r) := by
  refine vals_congr fun j hj => ?_
  unfold spliced
  rw [dgCells_len]
  by_cases h : 32 ≤ r.size
  · have hs := size_pos h (by omega)
    rw [hs, if_pos ⟨by omega, by omega⟩, Nat.sub_zero]
    unfold dgCells dgOut
    rw [if_pos h, hs, Nat.min_self]
    have hl : (tkOut r 32).data.toList.length = 32 := hs
    rw [List.take_of_length_le (by omega), List.getD_eq_getElem?_getD, List.getElem?_map, List.getElem?_eq_getElem (by omega)]
    have : byAt (tkOut r 32) j = byAt r j := by rw [tk_out_yes h, byAt_take _ _ _ hj]
    rw [← this]
    unfold byAt
    rw [List.getD_eq_getElem?_getD, List.getElem?_eq_getElem (by omega)]
    rfl
  · rw [tk_out_no (by omega)]
    rw [if_neg (by show ¬ (0 ≤ j ∧ j < 0 + min 0 32); omega)]
    unfold dgOut
    rw [if_neg h]
    rfl

set_option maxRecDepth 100000 in
set_option maxHeartbeats 1600000 in
theorem eye_digest (w : World) (b : Nat) (r : ByteArray) (bad : Bool) (h : EyeAt w b r bad) :
    Calls Try.prog 13 #[.pointer (some ⟨b, 0, none⟩)] w (EyeSays w b (.agg (dgV (dgOut r))) (tkRest r 32) (tkBad r bad 32)) := by
  have hbl := h.lt
  have H := Lib.hid h
  clear h
  go_enter Try.func13, Try.ntmps13
  go_wp2_with (fail)
  refine gen_world (fun wr => Only w wr b ∧ EyeAt wr b r bad ∧ wr.rowIs w.heap.size 30 32 (fun _ => .int .u8 0) ∧ wr.rowIs (w.heap.size + 1) 30 32 (fun _ => .int .u8 0)) ?_ ?_
  · exact ⟨((Only.refl w b).alloc _).alloc _, (H.out.of_block (heap_alloc_old w _ hbl)).of_block (heap_alloc_old _ _ (by simp; omega)), (row_alloc _ rfl (by kernel_rfl)).alloc _, row_alloc _ (by simp) (by kernel_rfl)⟩
  rintro wr ⟨ho, he, h0, h1⟩
  have HO := Lib.hid ho
  have HE := Lib.hid he
  have H0 := Lib.hid h0
  have H1 := Lib.hid h1
  clear ho he h0 h1 H
  have hcp : ∀ W : World, Only wr W b → (Builtin.copy_ #[57, 9] 3 #[.slice (some ⟨w.heap.size + 1, 0, none⟩) 32 32, .string (tkOut r 32)]).run Try.prog W = .ok (goInt ((min (tkOut r 32).size 32 : Nat) : Int)) (W.setRow (w.heap.size + 1) (dgV (dgOut r))) := fun W hW => by
    have := run_copy_str (P := Try.prog) W 57 9 3 5 (w.heap.size + 1) 0 32 32 (tkOut r 32) (dgCells r) 30 32 (fun _ => .int .u8 0) Try.underlying57 (fun _ => by kernel_rfl)
      (hW.row H1.out (by omega)) rfl (by rw [dgCells_len]; omega) _ rfl
    rw [dg_spliced] at this
    exact this
  have HCP := Lib.hid hcp
  clear hcp
  go_region_with ((go_at_call 23; refine (eye_take _ b r bad (HE.out.drewN 1) 32 (by omega)).mono ?_; rintro e w' ⟨rfl, g1, g2⟩; have hcw := HCP.out w' ((Only.refl wr b).drewN 1 |>.trans g2)))
  clear hcw
  have ho3 : Only w w' b := (HO.out.drewN 1).trans g2
  have r1 := row_block (g2.row (show (wr.drewN 1).rowIs (w.heap.size + 1) 30 32 (fun _ => .int .u8 0) from H1.out) (by omega))
  have r0 := g2.row (show (wr.drewN 1).rowIs w.heap.size 30 32 (fun _ => .int .u8 0) from H0.out) (by omega)
  have HX1 := Lib.hid (show (w'.setRow (w.heap.size + 1) (dgV (dgOut r))).heap[w.heap.size + 1]? = some (.cells (dgV (dgOut r)) 30 (0, 0)) from setRow_heap _ _ _ _ _ _ r1)
  have HX0 := Lib.hid (show (w'.setRow (w.heap.size + 1) (dgV (dgOut r))).heap[w.heap.size]? = some (.cells (dgV fun _ => 0) 30 (0, 0)) from row_block (row_setRow_other r0 (by omega)))
  have HI := Lib.hid (dgI (dgOut r))
  have HOo := Lib.hid (dgO (dgOut r))
  have HZ := Lib.hid (dgZ (fun _ => 0) (dgOut r))
  have HE3 := Lib.hid (show EyeAt ((w'.setRow (w.heap.size + 1) (dgV (dgOut r))).setRow w.heap.size (dgV (dgOut r))) b (tkRest r 32) (tkBad r bad 32) from
    (g1.of_block (setRow_other _ _ _ _ (by omega))).of_block (setRow_other _ _ _ _ (by omega)))
  have HO3 := Lib.hid ((ho3.setRow (.inr (by omega)) (dgV (dgOut r)) (g := w.heap.size + 1)).setRow (.inr (Nat.le_refl _)) (dgV (dgOut r)) (g := w.heap.size))
  clear g1 g2 ho3 r1 r0
  go_wp2_with (first
    | (with_reducible refine wpList_load_row rfl 30 _ rfl _ rfl 30 _ (0, 0) _ HX1.out Try.underlying30 rfl HI.out ?_)
    | (with_reducible refine wpList_store_row rfl 30 _ _ rfl _ _ rfl rfl 30 _ HX0.out HI.out HZ.out HOo.out ?_))
  refine bodyPost_ret (results_cell_row rfl _ _ _ 30 _ _ _ rfl (setRow_heap _ _ _ _ _ _ HX0.out) Try.underlying30 rfl HI.out) rfl ?_
  exact ⟨rfl, HE3.out, HO3.out⟩
theorem dg_nil : dgV (dgOut ⟨#[]⟩) = dgV fun _ => 0 := rfl
theorem tk_nil (n : Nat) : tkOut ⟨#[]⟩ n = ⟨#[]⟩ := empty_of_size (Nat.le_zero.1 (tk_out_size _ _))
set_option maxRecDepth 100000 in
set_option maxHeartbeats 1600000 in
theorem nil_digest (w : World) : Calls Try.prog 13 #[.pointer none] w fun e w' => e = .returned (.agg (dgV fun _ => 0)) ∧ Below w.heap.size w w' := by
  go_enter Try.func13, Try.ntmps13
  go_wp2_with (fail)
  refine gen_world (fun wr => Below w.heap.size w wr ∧ wr.rowIs w.heap.size 30 32 (fun _ => .int .u8 0) ∧ wr.rowIs (w.heap.size + 1) 30 32 (fun _ => .int .u8 0)) ?_ ?_
  · exact ⟨((Below.refl _ _).alloc (Nat.le_refl _) _).alloc (by simp) _, (row_alloc _ rfl (by kernel_rfl)).alloc _, row_alloc _ (by simp) (by kernel_rfl)⟩
  rintro wr ⟨ho, h0, h1⟩
  have HO := Lib.hid ho
  have H0 := Lib.hid h0
  have H1 := Lib.hid h1
  clear ho h0 h1
  have hcp : ∀ W : World, W.rowIs (w.heap.size + 1) 30 32 (fun _ => .int .u8 0) → (Builtin.copy_ #[57, 9] 3 #[.slice (some ⟨w.heap.size + 1, 0, none⟩) 32 32, .string ⟨#[]⟩]).run Try.prog W = .ok (goInt 0) (W.setRow (w.heap.size + 1) (dgV fun _ => 0)) := fun W hW => by
    have := run_copy_str (P := Try.prog) W 57 9 3 5 (w.heap.size + 1) 0 32 32 (tkOut ⟨#[]⟩ 32) (dgCells ⟨#[]⟩) 30 32 (fun _ => .int .u8 0) Try.underlying57 (fun _ => by kernel_rfl)
      hW rfl (by rw [dgCells_len, tk_nil]; show 0 + min 0 32 ≤ 32; omega) _ rfl
    rw [dg_spliced, tk_nil, dg_nil] at this
    exact this
  have HCP := Lib.hid hcp
  clear hcp
  go_region_with ((go_at_call 23; refine (nil_take _ 32).mono ?_; rintro e w' ⟨rfl, rfl⟩; have hcw := HCP.out wr.drew H1.out))
  have r1 := row_block (show wr.drew.rowIs (w.heap.size + 1) 30 32 (fun _ => .int .u8 0) from H1.out)
  have r0 : wr.drew.rowIs w.heap.size 30 32 (fun _ => .int .u8 0) := H0.out
  have hb : Below w.heap.size w wr.drew := below_drewN HO.out 1
  generalize wr.drew = w' at r1 r0 hb ⊢
  have HX1 := Lib.hid (show (w'.setRow (w.heap.size + 1) (dgV fun _ => 0)).heap[w.heap.size + 1]? = some (.cells (dgV fun _ => 0) 30 (0, 0)) from setRow_heap _ _ _ _ _ _ r1)
  have HX0 := Lib.hid (show (w'.setRow (w.heap.size + 1) (dgV fun _ => 0)).heap[w.heap.size]? = some (.cells (dgV fun _ => 0) 30 (0, 0)) from row_block (row_setRow_other r0 (by omega)))
  have HI := Lib.hid (dgI fun _ => 0)
  have HOo := Lib.hid (dgO fun _ => 0)
  have HZ := Lib.hid (dgZ (fun _ => 0) fun _ => 0)
  have HO3 := Lib.hid (below_setRow' (below_setRow' hb (show w.heap.size ≤ w.heap.size + 1 by omega) (dgV fun _ => 0)) (Nat.le_refl _) (dgV fun _ => 0))
  clear r1 r0 hb HO H0 H1 HCP
  go_wp2_with (first
    | (with_reducible refine wpList_load_row rfl 30 _ rfl _ rfl 30 _ (0, 0) _ HX1.out Try.underlying30 rfl HI.out ?_)
    | (with_reducible refine wpList_store_row rfl 30 _ _ rfl _ _ rfl rfl 30 _ HX0.out HI.out HZ.out HOo.out ?_))
  refine bodyPost_ret (results_cell_row rfl _ _ _ 30 _ _ _ rfl (setRow_heap _ _ _ _ _ _ HX0.out) Try.underlying30 rfl HI.out) rfl ?_
  exact ⟨rfl, HO3.out⟩
end Go.Proofs.Ytdadcpkkpopbcab
