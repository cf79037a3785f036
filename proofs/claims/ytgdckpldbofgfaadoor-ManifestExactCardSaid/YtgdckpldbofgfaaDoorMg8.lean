/-
  Both tables of package sha lie where the program looks. No conditions.
  The program's sums (package sha): a sum as digits. No conditions.
  The document's own examples of layer 2, reckoned: the sums of "abc" and of nothing. No program here. No conditions.
  The document's own examples of layer 2, which each statement of it asks first. Conditions: both tables lie as the program's text lays them.
  The program's sums (package sha): the sum of texts that lie in a row of their own. Conditions: both tables lie as the program's text lays them.
  The program's sums (package sha): the pair of two sums. Condition: both tables lie as the program's text lays them.
-/
import Derived.Test.YtgdckpldbofgfaaDoorMg7
import Derived.Deep.RegionHeld3
set_option maxRecDepth 100000
namespace Go.Proofs.YtgdckpldbofgfaaDoor
open Go.ChangeShapes Go.WideShapes Go.ChangeAt Go.RowKit Sh

/-- Both tables lie where the program looks. -/
structure Tabs (w : World) : Prop where
  f : FOn w
  k : KOn w
theorem Tabs.below {w w' : World} (h : Tabs w) (b : Below w.heap.size w w') : Tabs w' := ⟨h.f.below b, h.k.below h.k.lt b⟩
end Go.Proofs.YtgdckpldbofgfaaDoor
namespace Go.Proofs.YtgdckpldbofgfaaDoor
open Go.ChangeShapes Go.WideShapes Go.ChangeAt Go.RowKit Sh

end Go.Proofs.YtgdckpldbofgfaaDoor
namespace Go.Proofs.YtgdckpldbofgfaaDoor
namespace Sh
theorem t1 : wAt (word (byteAt (padded [97, 98, 99]))) 63 = 0x12b1edeb := by decide +kernel
theorem abc_text : textOf (sumByte (sumSt [97, 98, 99])) 32 = [98, 97, 55, 56, 49, 54, 98, 102, 56, 102, 48, 49, 99, 102, 101, 97, 52, 49, 52, 49, 52, 48, 100, 101, 53, 100, 97, 101, 50, 50, 50, 51, 98, 48, 48, 51, 54, 49, 97, 51, 57, 54, 49, 55, 55, 97, 57, 99, 98, 52, 49, 48, 102, 102, 54, 49, 102, 50, 48, 48, 49, 53, 97, 100] := by decide +kernel
theorem nil_text : textOf (sumByte (sumSt [])) 32 = [101, 51, 98, 48, 99, 52, 52, 50, 57, 56, 102, 99, 49, 99, 49, 52, 57, 97, 102, 98, 102, 52, 99, 56, 57, 57, 54, 102, 98, 57, 50, 52, 50, 55, 97, 101, 52, 49, 101, 52, 54, 52, 57, 98, 57, 51, 52, 99, 97, 52, 57, 53, 57, 57, 49, 98, 55, 56, 53, 50, 98, 56, 53, 53] := by decide +kernel
end Sh
end Go.Proofs.YtgdckpldbofgfaaDoor
namespace Go.Proofs.YtgdckpldbofgfaaDoor
open Go.ChangeShapes Go.WideShapes Go.ChangeAt Go.RowKit Sh

end Go.Proofs.YtgdckpldbofgfaaDoor
namespace Go.Proofs.YtgdckpldbofgfaaDoor
open Go.ChangeShapes Go.WideShapes Go.ChangeAt Go.RowKit Sh

theorem of_strs (ss : List ByteArray) (l : List UInt8) (hl : flat ss = l) (g n cap : Nat) (w : World) (hn : n = ss.length) (hnb : n ≤ 1000) (hc : ∀ k, k < n → w.cell? ⟨g, k, none⟩ = some (.string (ss.getD k ByteArray.empty))) (hT : Tabs w) (hM : l.length < 72057594037927936) :
    Calls Tryd.prog 28 #[.slice (some ⟨g, 0, none⟩) n cap] w fun e w' => e = .returned (.agg (digF (sumF l))) ∧ Below w.heap.size w w' :=
  of_here ss l hl w _ n cap hn (by omega) (fun _ => ⟨g, 0, rfl, fun k hk => by rw [Nat.zero_add]; exact hc k hk⟩) hT.f hT.k hM
theorem extract_list (s : ByteArray) (i j : Nat) : (s.extract i j).data.toList = (s.data.toList.take j).drop i := by
  rw [ByteArray.data_extract, Array.toList_extract, List.extract_eq_take_drop, List.drop_take]
theorem parts_two (s : ByteArray) (i : Nat) : flat [s.extract 0 i, s.extract i s.size] = s.data.toList := by
  have h : s.data.toList.length = s.size := rfl
  simp only [flat, List.flatMap_cons, List.flatMap_nil, List.append_nil, extract_list, List.drop_zero]
  rw [← h, List.take_length, List.take_append_drop]
theorem parts_four (s : ByteArray) (i k : Nat) (hik : i ≤ k) : flat [s.extract 0 i, s.extract i k, ⟨#[]⟩, s.extract k s.size] = s.data.toList := by
  have h : s.data.toList.length = s.size := rfl
  simp only [flat, List.flatMap_cons, List.flatMap_nil, List.append_nil, extract_list, List.drop_zero]
  rw [← h, List.take_length, List.nil_append, ← List.append_assoc]
  have e : s.data.toList.take i ++ (s.data.toList.take k).drop i = s.data.toList.take k := by
    conv => rhs; rw [← List.take_append_drop i (s.data.toList.take k)]
    rw [List.take_take, Nat.min_eq_left hik]
  rw [e, List.take_append_drop]
theorem flat_one (s : ByteArray) : flat [s] = s.data.toList := by simp [flat]
end Go.Proofs.YtgdckpldbofgfaaDoor
namespace Go.Proofs.YtgdckpldbofgfaaDoor
open Go.ChangeShapes Go.WideShapes Go.ChangeAt Go.RowKit Sh

set_option maxRecDepth 100000 in
set_option maxHeartbeats 800000 in
theorem pair_any (f g : Nat → UInt8) (w : World) (hT : Tabs w) :
    Calls Tryd.prog 67 #[.agg (digF f), .agg (digF g)] w fun e w' => e = .returned (.agg (digF (sumF (pairL f g)))) ∧ Below w.heap.size w w' := by
  have HT := Lib.hid hT
  clear hT
  go_enter Tryd.func67, Tryd.ntmps67
  go_wp2_with (fail)
  refine gen_world (fun wr => Below w.heap.size w wr ∧ wr.rowIs w.heap.size 24 32 (fun j => .int .u8 ((f j).toNat : Int)) ∧ wr.rowIs (w.heap.size + 1) 24 32 (fun j => .int .u8 ((g j).toNat : Int)) ∧ wr.rowIs (w.heap.size + 1 + 1) 24 32 (fun _ => .int .u8 0)) ?_ ?_
  · exact ⟨(((Below.refl _ _).alloc (Nat.le_refl _) _).alloc (by simp) _).alloc (by simp; omega) _, ((row_alloc _ rfl rfl).alloc _).alloc _, (row_alloc _ (by simp) rfl).alloc _, row_alloc _ (by simp) (by kernel_rfl)⟩
  rintro wr ⟨hb, hf, hg, hz⟩
  have hs := hz.lt
  have x0 : ∀ c, (convert 78 9 (.slice (some ⟨w.heap.size, 0, none⟩) 32 c)).run Tryd.prog wr.drew = .ok (.string ⟨(dig32 f).toArray⟩) wr.drew := fun c =>
    run_bytes_string wr.drew ⟨w.heap.size, 0, none⟩ 32 c f (fun j hj => by rw [Addr.add_lit, Nat.zero_add]; exact hf.cell hj)
  have x1 : ∀ c, (convert 78 9 (.slice (some ⟨w.heap.size + 1, 0, none⟩) 32 c)).run Tryd.prog wr.drew = .ok (.string ⟨(dig32 g).toArray⟩) wr.drew := fun c =>
    run_bytes_string wr.drew ⟨w.heap.size + 1, 0, none⟩ 32 c g (fun j hj => by rw [Addr.add_lit, Nat.zero_add]; exact hg.cell hj)
  have HJ := Lib.hid (show flat [⟨#[1]⟩, ⟨(dig32 f).toArray⟩, ⟨(dig32 g).toArray⟩] = pairL f g by simp [flat, pairL])
  have HN := Lib.hid (show (pairL f g).length = 65 by simp [pairL, dig32])
  generalize (⟨(dig32 f).toArray⟩ : ByteArray) = X0 at HJ x0
  generalize (⟨(dig32 g).toArray⟩ : ByteArray) = X1 at HJ x1
  go_still_tail 4, (by kernel_rfl)
  change wpList _ _ _ _ _ wr.drew
  have hb1 := below_drewN hb 1
  have hz1 : wr.drew.rowIs (w.heap.size + 1 + 1) 24 32 (fun _ => .int .u8 0) := hz
  have hs1 : w.heap.size + 1 + 1 < wr.drew.heap.size := hs
  change Below w.heap.size w wr.drew at hb1
  clear hb hf hg hz hs x0 x1
  generalize wr.drew = w2 at hb1 hz1 hs1 ⊢
  go_wp2_with (fail)
  have hb2 := hb1.alloc (show w.heap.size ≤ w2.heap.size by omega) (.cells #[.string ⟨#[1]⟩, .string X0, .string X1] 9)
  refine (of_strs [⟨#[1]⟩, X0, X1] (pairL f g) HJ.out _ 3 3 _ rfl (by omega) (fun k hk => ?_) (HT.out.below hb2) (by have := HN.out; omega)).mono ?_
  · match k, hk with
    | 0, _ => rw [cell_of_row _ _ _ _ _ _ (heap_alloc_new w2 _)]; rfl
    | 1, _ => rw [cell_of_row _ _ _ _ _ _ (heap_alloc_new w2 _)]; rfl
    | 2, _ => rw [cell_of_row _ _ _ _ _ _ (heap_alloc_new w2 _)]; rfl
  rintro e w5 ⟨rfl, hb5⟩
  have hz5 := (hz1.alloc _).of_block (hb5.block _ (by simp; omega))
  have hb6 := hb2.trans (hb5.mono (by simp; omega))
  generalize hF : sumF (pairL f g) = F
  have HF := Lib.hid hF
  clear hF
  have HBL := Lib.hid (below_setRow' hb6 (show w.heap.size ≤ w.heap.size + 1 + 1 by omega) (digF F))
  have H1 := Lib.hid (row_block hz5)
  have H3 := Lib.hid (row_block (row_setRow (g := fun j => .int .u8 ((F j).toNat : Int)) hz5))
  have HIF := Lib.hid (hiDigF F)
  have HOF := Lib.hid (hoDig F)
  have HZo := Lib.hid (show (vals 32 fun _ => Value.int .u8 0).size = (digF F).size by unfold digF; rw [vals_size, vals_size])
  clear hb1 hz1 hs1 hb5 hz5 hb6 hb2
  go_wp2_with (with_reducible refine wpList_store_row rfl 24 _ _ rfl _ (digF F) rfl rfl 24 _ H1.out HIF.out HZo.out HOF.out ?_)
  refine bodyPost_ret (results_cell_row rfl _ _ _ 24 _ _ _ rfl H3.out Tryd.underlying24 rfl (HIF.out)) rfl ?_
  exact ⟨by rw [HF.out]; rfl, HBL.out⟩
end Go.Proofs.YtgdckpldbofgfaaDoor
