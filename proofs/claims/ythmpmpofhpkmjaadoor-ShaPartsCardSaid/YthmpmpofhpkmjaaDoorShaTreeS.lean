/-
  The program's sums (package sha): the tree of no sum, and of one. Conditions: both tables lie as the program's text lays them; the sum stands where it looks.
-/
import Derived.Test.YthmpmpofhpkmjaaDoorShaEq
import Derived.Deep.MidRow
namespace Go.Proofs.YthmpmpofhpkmjaaDoor
open Go.ChangeShapes Go.WideShapes Go.ChangeAt Go.RowKit Sh

theorem of_here (ss : List ByteArray) (l : List UInt8) (hl : flat ss = l) (w : World) (A : Option Addr) (n cap : Nat) (hn : n = ss.length) (hnb : n ≤ 1152921504606846976)
    (hA : 0 < n → ∃ pb po, A = some ⟨pb, po, none⟩ ∧ ∀ k, k < n → w.cell? ⟨pb, po + k, none⟩ = some (.string (ss.getD k ByteArray.empty)))
    (hF : FOn w) (hK : KOn w) (hM : l.length < 72057594037927936) :
    Calls Tryd.prog 9 #[.slice A n cap] w fun e w' => e = .returned (.agg (digF (sumF l))) ∧ Below w.heap.size w w' := by
  subst hl
  exact of_any ss w A n cap hn hnb hA hF hK hM
theorem hiDig : ∀ f, (Tryd.prog.info? 25).map (·.size) = some (vals 32 f).size := fun f => info_vals f (by kernel_rfl)
theorem hoDig (f : Nat → UInt8) : (digF f).all (·.oneCell') = true := vals_one fun _ => rfl
theorem hzDig (f : Nat → UInt8) : (vals 32 fun _ => Value.int .u8 0).size = (digF f).size := by unfold digF; rw [vals_size, vals_size]
theorem hiDigF (f : Nat → UInt8) : (Tryd.prog.info? 25).map (·.size) = some (digF f).size := hiDig _

set_option maxRecDepth 100000 in
set_option maxHeartbeats 800000 in
theorem tree_nil (w : World) (hF : FOn w) (hK : KOn w) :
    Calls Tryd.prog 14 #[.slice none 0 0] w fun e w' => e = .returned (.agg (digF (sumF []))) ∧ Below w.heap.size w w' := by
  have HF := Lib.hid hF
  have HK := Lib.hid hK
  clear hF hK
  go_enter Tryd.func14, Tryd.ntmps14
  go_wp2_with (fail)
  refine (of_here [] [] rfl _ none 0 0 rfl (by omega) (fun h => by omega) (HF.out.below ((Below.refl _ _).alloc (Nat.le_refl _) _)) (HK.out.below HK.out.lt ((Below.refl _ _).alloc (Nat.le_refl _) _)) (by simp)).mono ?_
  rintro e w1 ⟨rfl, hb1⟩
  have hres : w1.rowIs w.heap.size 25 32 (fun _ => .int .u8 0) := (row_alloc _ rfl (by kernel_rfl)).of_block (hb1.block _ (by simp))
  have hB1 : Below w.heap.size w w1 := ((Below.refl _ _).alloc (Nat.le_refl _) _).trans (hb1.mono (by simp))
  have hfin := below_setRow' hB1 (Nat.le_refl _) (digF (sumF []))
  have H2 := Lib.hid (row_block hres)
  have H3 := Lib.hid (row_block (row_setRow (g := fun j => Value.int .u8 ((sumF [] j).toNat : Int)) hres))
  clear hres hb1 hB1
  go_wp2_with (with_reducible refine wpList_store_row rfl 25 _ _ rfl _ _ rfl rfl 25 _ H2.out (hiDigF _) (hzDig _) (hoDig _) ?_)
  refine bodyPost_ret (results_cell_row rfl _ _ _ 25 _ _ _ rfl H3.out Tryd.underlying25 rfl (hiDig _)) rfl ?_
  exact ⟨rfl, hfin⟩

/-- A sum lies in the cells from this place on. -/
abbrev DigAt (w : World) (b o : Nat) (f : Nat → UInt8) : Prop := w.rangeAt b o (digF f).toList
set_option maxRecDepth 100000 in
set_option maxHeartbeats 800000 in
theorem tree_one (f : Nat → UInt8) (pb po cap : Nat) (w : World) (hd : ∀ w', Below w.heap.size w w' → DigAt w' pb po f) :
    Calls Tryd.prog 14 #[.slice (some ⟨pb, po, none⟩) 1 cap] w fun e w' => e = .returned (.agg (digF f)) ∧ Below w.heap.size w w' := by
  have HD := Lib.hid hd
  clear hd
  go_enter Tryd.func14, Tryd.ntmps14
  go_wp2_with (fail)
  refine wp_loop_rounds 1 ?_
  rw [rounds_succ]
  have hbl : ∀ o, Below w.heap.size w (w.alloc o) := fun o => (Below.refl _ _).alloc (Nat.le_refl _) _
  have hlen : (Tryd.prog.info? 25).map (·.size) = some (digF f).toList.length := by rw [Array.length_toList]; exact hiDigF f
  have hres : ∀ o, (w.alloc o).heap[w.heap.size]? = some o := fun o => heap_alloc_new w o
  have HB := Lib.hid hbl
  have HL := Lib.hid hlen
  have HR := Lib.hid hres
  clear hbl hlen hres
  go_wp2_with (first
    | (with_reducible refine wpList_load_mid rfl 25 _ rfl pb po rfl (digF f).toList (.array 32 5) (HD.out _ (HB.out _)) Tryd.underlying25 rfl HL.out ?_)
    | (with_reducible refine wpList_store_row rfl 25 _ _ rfl _ (digF f) rfl rfl 25 _ (HR.out _) (hiDigF f) ?_ (hoDig f) ?_))
  · unfold digF; rw [vals_size]; rfl
  refine bodyPost_ret (results_cell_row rfl _ _ _ 25 _ _ _ rfl (setRow_heap _ _ _ _ _ _ (HR.out _)) Tryd.underlying25 rfl (hiDigF f)) rfl ?_
  exact ⟨rfl, below_setRow' (HB.out _) (Nat.le_refl _) _⟩
end Go.Proofs.YthmpmpofhpkmjaaDoor
