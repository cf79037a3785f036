/-
  A disk beside blocks that stay: the power goes, by bools that stand where the law's own stand; it comes. Conditions: few loose writes, few bools.
-/
import Derived.Test.YtnmgkkjnjllpbaaGreatDoorMg20
import Derived.Test.YtnmgkkjnjllpbaaGreatDoorMg4
set_option maxRecDepth 100000
namespace Go.Proofs.YtnmgkkjnjllpbaaGreatDoor
open Go.ChangeShapes Go.WideShapes Go.ChangeAt Go.RowKit Dk

/-- A law's own bools stand wherever the law's arguments do. -/
theorem bools_at (w : World) (B : Option Addr) (klen kcap : Nat) (Y : Nat → Bool) (hkc : klen ≤ kcap) (hY : 0 < klen → ∃ pb po, B = some ⟨pb, po, none⟩ ∧ ∀ k, k < klen → w.cell? ⟨pb, po + k, none⟩ = some (.bool (Y k))) :
    ∀ W : World, (∀ j, j < w.heap.size → W.heap[j]? = w.heap[j]?) → BoolsAt W (.slice B klen kcap) ((List.range klen).map Y) := fun W hW => by
  by_cases h0 : 0 < klen
  · obtain ⟨pb, po, rfl, hc⟩ := hY h0
    refine .inr ⟨pb, po, kcap, by rw [List.length_map, List.length_range], by rw [List.length_map, List.length_range]; exact hkc, fun j z hj => ?_⟩
    have hl := (List.getElem?_eq_some_iff.1 hj).1
    simp only [List.length_map, List.length_range] at hl
    have h1 := hc j hl
    rw [World.cell?_of_block (w := w) (a := ⟨pb, po + j, none⟩) (hW pb (block_lt_of_cell h1)), h1]
    simp [hl] at hj
    rw [hj]
  · have h1 : klen = 0 := by omega
    subst h1
    exact .inl ⟨rfl, B, kcap, rfl⟩
namespace Dk
theorem kp_of (klen : Nat) (Y : Nat → Bool) (j : Nat) : kp ((List.range klen).map Y) j = if j < klen then Y j else false := by
  unfold kp
  rw [List.getD_eq_getElem?_getD, List.getElem?_map]
  by_cases h : j < klen
  · rw [List.getElem?_range h, if_pos h]
    rfl
  · rw [if_neg h, List.getElem?_eq_none (by rw [List.length_range]; omega)]
    rfl
end Dk
namespace Zn
variable {w0 w w' : World} {D : Nat} {x : St} {fs : List (Nat × Obj)}
theorem cut (h : Zn w0 w D x fs) (ha : x.away = false) (hl : x.loose.length ≤ 1073741824) (kv : Value) (kl : List Bool) (hkl : kl.length ≤ 1099511627776) (hk : ∀ W : World, (∀ j, j < w0.heap.size → W.heap[j]? = w0.heap[j]?) → BoolsAt W kv kl) :
    Calls Tryz.prog 30 #[.pointer (some ⟨D, 0, none⟩), kv] w fun e w' => e = .returned (.tuple #[]) ∧ Zn w0 w' D (x.fall kl) fs :=
  (disk_cut _ w D x h.disk ha hl kv kl hkl (hk w h.below.block) (fun w' he => hk w' (fun j hj => (he j (Nat.lt_of_lt_of_le hj h.below.size) (.inl (fun hk => Nat.not_le.2 hj hk.1))).trans (h.below.block j hj)))).mono fun _ _ hs => h.says hs
theorem come (h : Zn w0 w D x fs) : Calls Tryz.prog 31 #[.pointer (some ⟨D, 0, none⟩)] w fun e w' => e = .returned (.tuple #[]) ∧ Zn w0 w' D x.come fs :=
  (disk_come _ w D x h.disk).mono fun _ _ hs => h.says hs
end Zn
end Go.Proofs.YtnmgkkjnjllpbaaGreatDoor
