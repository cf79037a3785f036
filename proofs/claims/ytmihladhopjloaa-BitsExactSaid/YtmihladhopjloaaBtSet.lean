/-
  A set of a law's: it stands in a block that wasn't there at the beginning; what was there is as it was. What each method leaves. Conditions: at most 1024 numbers.
-/
import Derived.Test.YtmihladhopjloaaBt7
namespace Go.Proofs.Ytmihladhopjloaa
open Go.ChangeShapes Go.WideShapes Go.ChangeAt Go.RowKit Bt

namespace Bt
/-- A set stands in a block that wasn't there at the beginning. -/
structure Stands (w0 w : World) (b n : Nat) (u : Nat → Bool) : Prop where
  blk : w.heap[b]? = some (sobj n u)
  new : w0.heap.size ≤ b
  below : Below w0.heap.size w0 w
namespace Stands
variable {w0 w w' : World} {b n : Nat} {u v : Nat → Bool}
theorem lt (h : Stands w0 w b n u) : b < w.heap.size := sobj_lt h.blk
theorem size (h : Stands w0 w b n u) : w0.heap.size ≤ w.heap.size := h.below.size
theorem step (h : Stands w0 w b n u) (hb : Below w.heap.size w w') : Stands w0 w' b n u := ⟨sobj_below h.blk hb, h.new, h.below.trans (hb.mono h.below.size)⟩
theorem drewN (h : Stands w0 w b n u) (k : Nat) : Stands w0 (w.drewN k) b n u := h.step (below_drewN (Below.refl _ _) k)
theorem drew (h : Stands w0 w b n u) : Stands w0 w.drew b n u := h.drewN 1
theorem alloc (h : Stands w0 w b n u) (o : Obj) : Stands w0 (w.alloc o) b n u := h.step ((Below.refl _ _).alloc (Nat.le_refl _) o)
theorem only (h : Stands w0 w b n u) (hs : w'.heap[b]? = some (sobj n v)) (ho : Only w w' b) : Stands w0 w' b n v := ⟨hs, h.new, h.below.trans (ho.below h.new h.below.size)⟩
/-- Beside another block that turns. -/
theorem beside (h : Stands w0 w b n u) {c : Nat} (ho : Only w w' c) (hc : w0.heap.size ≤ c) (hne : b ≠ c) : Stands w0 w' b n u := ⟨(ho.block b h.lt hne).trans h.blk, h.new, h.below.trans (ho.below hc h.below.size)⟩
end Stands
theorem ints1 (w : World) (x : Int) : IntsInB (w.alloc (.cells #[.int .i64 x] 3)) (some ⟨w.heap.size, 0, none⟩) 1 fun _ => x := fun _ => ⟨_, _, rfl, fun k hk => by
  obtain rfl : k = 0 := by omega
  exact cell_of_row _ _ 0 _ _ _ (heap_alloc_new w _)⟩
def two (x y : Int) (k : Nat) : Int := if k = 0 then x else y
theorem ints2 (w : World) (x y : Int) : IntsInB (w.alloc (.cells #[.int .i64 x, .int .i64 y] 3)) (some ⟨w.heap.size, 0, none⟩) 2 (two x y) := fun _ => ⟨_, _, rfl, fun k hk => by
  rcases (show k = 0 ∨ k = 1 by omega) with rfl | rfl
  · exact cell_of_row _ _ 0 _ _ _ (heap_alloc_new w _)
  · exact cell_of_row _ _ 1 _ _ _ (heap_alloc_new w _)⟩
theorem intsNone (w : World) (A : Option Addr) (xs : Nat → Int) : IntsInB w A 0 xs := fun h => absurd h (by omega)
theorem allIn_one {n : Nat} {x : Int} (h : fitsB n x = true) : allIn n (fun _ => x) 1 = true := by
  unfold allIn
  simp [List.range, List.range.loop, h]
theorem allAt_one (n : Nat) (u : Nat → Bool) (x : Int) : allAt n u (fun _ => x) 1 = isIn n u x := by
  unfold allAt
  simp [List.range, List.range.loop]
theorem isIn_nat {n k : Nat} (u : Nat → Bool) (h : k < n) : isIn n u (k : Int) = u k := by
  unfold isIn
  rw [fitsB_of h]
  rfl
theorem puts_one (v : Bool) (u : Nat → Bool) (k : Nat) : puts v u (fun _ => (k : Int)) 1 = upd u k v := rfl
section
variable {w0 w : World} {b n : Nat} {u : Nat → Bool}
theorem newSet (hb : Below w0.heap.size w0 w) (h1 : 1 ≤ n) (h2 : n ≤ 1024) : Calls Try.prog 8 #[.int .i64 (n : Int)] w fun e w' => ∃ b, e = .returned (.pointer (some ⟨b, 0, none⟩)) ∧ w.heap.size ≤ b ∧ Stands w0 w' b n (fun _ => false) ∧ Below w.heap.size w w' :=
  (bits_new w n h1 h2).mono fun _ _ ⟨b, he, hbb, hs, hB⟩ => ⟨b, he, hbb, ⟨hs, Nat.le_trans hb.size hbb, hb.trans (hB.mono hb.size)⟩, hB⟩
namespace Stands
/-- A list of one number, made for a call: added. -/
theorem add1 (h : Stands w0 w b n u) (hn : n ≤ 1024) {k : Nat} (hk : k < n) : Calls Try.prog 10 #[.pointer (some ⟨b, 0, none⟩), .slice (some ⟨w.heap.size, 0, none⟩) 1 1] (w.alloc (.cells #[.int .i64 (k : Int)] 3)) fun e w' => e = .returned (.int .i64 0) ∧ Stands w0 w' b n (upd u k true) ∧ Only w w' b := by
  have h1 := h.alloc (.cells #[.int .i64 (k : Int)] 3)
  refine (bits_Add _ b n u h1.blk hn _ 1 1 (fun _ => (k : Int)) (by omega) (ints1 w k) (allIn_one (fitsB_of hk)) (fun _ a ha => ?_)).mono ?_
  · injection ha with ha
    rw [← ha]
    have := h.lt
    show w.heap.size ≠ b
    omega
  · rintro e w' ⟨rfl, hs, ho⟩
    exact ⟨rfl, h1.only hs ho, ((Only.refl w b).alloc _).trans ho⟩
theorem drop1 (h : Stands w0 w b n u) (hn : n ≤ 1024) {k : Nat} (hk : k < n) : Calls Try.prog 9 #[.pointer (some ⟨b, 0, none⟩), .slice (some ⟨w.heap.size, 0, none⟩) 1 1] (w.alloc (.cells #[.int .i64 (k : Int)] 3)) fun e w' => e = .returned (.int .i64 0) ∧ Stands w0 w' b n (upd u k false) ∧ Only w w' b := by
  have h1 := h.alloc (.cells #[.int .i64 (k : Int)] 3)
  refine (bits_Drop _ b n u h1.blk hn _ 1 1 (fun _ => (k : Int)) (by omega) (ints1 w k) (allIn_one (fitsB_of hk)) (fun _ a ha => ?_)).mono ?_
  · injection ha with ha
    rw [← ha]
    have := h.lt
    show w.heap.size ≠ b
    omega
  · rintro e w' ⟨rfl, hs, ho⟩
    exact ⟨rfl, h1.only hs ho, ((Only.refl w b).alloc _).trans ho⟩
theorem has1 (h : Stands w0 w b n u) (hn : n ≤ 1024) {k : Nat} (hk : k < n) : Calls Try.prog 12 #[.pointer (some ⟨b, 0, none⟩), .slice (some ⟨w.heap.size, 0, none⟩) 1 1] (w.alloc (.cells #[.int .i64 (k : Int)] 3)) fun e w' => e = .returned (.bool (u k)) ∧ Stands w0 w' b n u ∧ Below w.heap.size w w' := by
  have h1 := h.alloc (.cells #[.int .i64 (k : Int)] 3)
  refine (bits_Has _ b n u h1.blk _ 1 1 (fun _ => (k : Int)) (by omega) (ints1 w k) hn).mono ?_
  rintro e w' ⟨rfl, m, rfl⟩
  rw [allAt_one, isIn_nat u hk]
  exact ⟨rfl, h1.drewN m, below_drewN ((Below.refl _ _).alloc (Nat.le_refl _) _) m⟩
theorem count (h : Stands w0 w b n u) (hn : n ≤ 1024) : Calls Try.prog 14 #[.pointer (some ⟨b, 0, none⟩)] w fun e w' => e = .returned (.int .i64 ((rowL u n).length : Int)) ∧ Stands w0 w' b n u ∧ Below w.heap.size w w' :=
  (bits_count w b n u h.blk hn).mono fun _ _ ⟨he, hb⟩ => ⟨he, h.step hb, hb⟩
theorem row (h : Stands w0 w b n u) (hn : n ≤ 1024) : Calls Try.prog 13 #[.pointer (some ⟨b, 0, none⟩)] w fun e w' => RowSays w (rowL u n) e w' ∧ Stands w0 w' b n u :=
  (bits_row w b n u h.blk hn).mono fun _ _ hr => ⟨hr, by obtain ⟨_, _, _, _, hb⟩ := hr; exact h.step hb⟩
theorem first (h : Stands w0 w b n u) (hn : n ≤ 1024) : Calls Try.prog 16 #[.pointer (some ⟨b, 0, none⟩)] w fun e w' => e = .returned (.int .i64 (fstB n u)) ∧ Stands w0 w' b n u ∧ Below w.heap.size w w' :=
  (bits_first w b n u h.blk hn).mono fun _ _ ⟨he, m, hw⟩ => ⟨he, by rw [hw]; exact h.drewN m, by rw [hw]; exact below_drewN (Below.refl _ _) m⟩
theorem text (h : Stands w0 w b n u) (hn : n ≤ 1024) : Calls Try.prog 17 #[.pointer (some ⟨b, 0, none⟩)] w fun e w' => e = .returned (.string (textB n u)) ∧ Stands w0 w' b n u ∧ Below w.heap.size w w' :=
  (bits_text w b n u h.blk hn).mono fun _ _ ⟨he, m, hw⟩ => ⟨he, by rw [hw]; exact h.drewN m, by rw [hw]; exact below_drewN (Below.refl _ _) m⟩
theorem len (h : Stands w0 w b n u) : Calls Try.prog 15 #[.pointer (some ⟨b, 0, none⟩)] w fun e w' => e = .returned (.int .i64 (n : Int)) ∧ Stands w0 w' b n u ∧ Below w.heap.size w w' :=
  (bits_len w b n u h.blk).mono fun _ _ ⟨he, hw⟩ => ⟨he, by rw [← hw]; exact h, by rw [← hw]; exact Below.refl _ _⟩
end Stands
end
end Bt
end Go.Proofs.Ytmihladhopjloaa
