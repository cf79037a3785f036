/-
  The document's own examples of layer 2, which each statement of it asks first. Conditions: both tables lie as the program's text lays them.
-/
import Derived.Test.YthmpmpofhpkmjaaDoorShaTreeS
import Derived.Test.YthmpmpofhpkmjaaDoorShaAbc
namespace Go.Proofs.YthmpmpofhpkmjaaDoor
open Go.ChangeShapes Go.WideShapes Go.ChangeAt Go.RowKit Sh

/-- Both tables lie where the program looks. -/
structure Tabs (w : World) : Prop where
  f : FOn w
  k : KOn w
theorem Tabs.below {w w' : World} (h : Tabs w) (b : Below w.heap.size w w') : Tabs w' := ⟨h.f.below b, h.k.below h.k.lt b⟩

set_option maxRecDepth 100000 in
set_option maxHeartbeats 1600000 in
theorem awake_any (w : World) (hT : Tabs w) : Calls Tryd.prog 8 #[] w fun e w' => e = .returned (.bool true) ∧ Below w.heap.size w w' := by
  have HT := Lib.hid hT
  clear hT
  go_enter Tryd.func8, Tryd.ntmps8
  go_wp2_with (fail)
  have b1 : Below w.heap.size w (w.alloc (.cells #[.string ⟨#[97]⟩, .string ⟨#[98, 99]⟩] 9)) := (Below.refl _ _).alloc (Nat.le_refl _) _
  refine (of_here [⟨#[97]⟩, ⟨#[98, 99]⟩] [97, 98, 99] rfl _ _ 2 2 rfl (by omega) (fun _ => ⟨w.heap.size, 0, rfl, fun k hk => ?_⟩) (HT.out.below b1).f (HT.out.below b1).k (by simp)).mono ?_
  · match k, hk with
    | 0, _ => rw [cell_of_row _ _ _ _ _ _ (heap_alloc_new w _)]; rfl
    | 1, _ => rw [cell_of_row _ _ _ _ _ _ (heap_alloc_new w _)]; rfl
  rintro e w1 ⟨rfl, hb1⟩
  have B1 : Below w.heap.size w w1 := b1.trans (hb1.mono (by simp))
  have s1 := B1.size
  clear b1 hb1
  go_wp2_with (fail)
  refine (as_val (v' := .string ⟨(textOf (sumByte (sumSt [97, 98, 99])) 32).toArray⟩) (text_any _ _) rfl).mono ?_
  rw [abc_text]
  rintro e w2 ⟨rfl, hb2⟩
  have B2 : Below w.heap.size w w2 := B1.trans (hb2.mono s1)
  have s2 := B2.size
  clear hb2 B1
  go_wp2_with (fail)
  refine (tree_nil w2 (HT.out.below B2).f (HT.out.below B2).k).mono ?_
  rintro e w3 ⟨rfl, hb3⟩
  have B3 : Below w.heap.size w w3 := B2.trans (hb3.mono s2)
  have s3 := B3.size
  clear hb3 B2
  go_wp2_with (fail)
  refine (of_here [] [] rfl w3 none 0 0 rfl (by omega) (fun h => by omega) (HT.out.below B3).f (HT.out.below B3).k (by simp)).mono ?_
  rintro e w4 ⟨rfl, hb4⟩
  have B4 : Below w.heap.size w w4 := B3.trans (hb4.mono s3)
  have s4 := B4.size
  clear hb4 B3
  have heq : ∀ wx, (binOp .eql 25 (.agg (digF (sumF []))) (.agg (digF (sumF [])))).run Tryd.prog wx = .ok (.bool true) wx := fun wx => by rw [run_eql_dig, same_refl]
  go_wp2_with (fail)
  have b5 : Below w.heap.size w (w4.alloc (.cells #[.string ⟨#[]⟩] 9)) := B4.alloc s4 _
  refine (of_here [⟨#[]⟩] [] rfl _ _ 1 1 rfl (by omega) (fun _ => ⟨w4.heap.size, 0, rfl, fun k hk => ?_⟩) (HT.out.below b5).f (HT.out.below b5).k (by simp)).mono ?_
  · match k, hk with
    | 0, _ => rw [cell_of_row _ _ _ _ _ _ (heap_alloc_new w4 _)]; rfl
  rintro e w5 ⟨rfl, hb5⟩
  have B5 : Below w.heap.size w w5 := b5.trans (hb5.mono (by simp; omega))
  have s5 := B5.size
  clear b5 hb5 heq
  go_wp2_with (fail)
  refine (as_val (v' := .string ⟨(textOf (sumByte (sumSt [])) 32).toArray⟩) (text_any _ _) rfl).mono ?_
  rw [nil_text]
  rintro e w6 ⟨rfl, hb6⟩
  have B6 : Below w.heap.size w w6 := B5.trans (hb6.mono s5)
  clear hb6 B5
  go_wp2
  go_ret
  exact ⟨rfl, B6⟩
end Go.Proofs.YthmpmpofhpkmjaaDoor
