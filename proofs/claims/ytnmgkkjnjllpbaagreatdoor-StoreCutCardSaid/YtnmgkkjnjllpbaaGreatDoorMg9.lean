/-
  Package slot: a slot's own block; Per, New, Chunks, Size, reach, ready, place. Conditions: the zone stands in its block, its disk in blocks of its own.
  Package slot: New, over a disk beside blocks that stay. Conditions: the zone stands in its block, its disk in blocks of its own.
  Package slot: Get, whole. Conditions: the slot and its zone stand in their blocks; both tables of sums lie as the program's text lays them.
  Package slot over a disk beside blocks that stay, without a fuse, the power there: New, Put, Get. Conditions: few writes; both tables of sums lie as the program's text lays them.
-/
import Derived.Test.YtnmgkkjnjllpbaaGreatDoorMg6
import Derived.Test.YtnmgkkjnjllpbaaGreatDoorMg8
set_option maxRecDepth 100000
namespace Go.Proofs.YtnmgkkjnjllpbaaGreatDoor
open Go.ChangeShapes Go.WideShapes Go.ChangeAt Go.RowKit Pn Dk Sl

/-- A slot's own block. -/
def slobj (Z k c : Nat) : Obj := .cells #[.pointer (some ⟨Z, 0, none⟩), .int .i64 (k : Int), .int .i64 (c : Int)] 99 (0, 0)
section
variable {w : World} {S Z k c : Nat} (ht : w.heap[S]? = some (slobj Z k c))
include ht
theorem slot_c0 : w.cell? ⟨S, 0, none⟩ = some (.pointer (some ⟨Z, 0, none⟩)) := by rw [cell_of_row w S 0 _ _ _ ht]; rfl
theorem slot_c1 : w.cell? ⟨S, 1, none⟩ = some (.int .i64 (k : Int)) := by rw [cell_of_row w S 1 _ _ _ ht]; rfl
theorem slot_c2 : w.cell? ⟨S, 2, none⟩ = some (.int .i64 (c : Int)) := by rw [cell_of_row w S 2 _ _ _ ht]; rfl
end
theorem slot_per (w : World) (k : Nat) (h1 : 1 ≤ k) (h2 : k ≤ 256) : Calls Tryz.prog 43 #[.int .i64 (k : Int)] w fun e w' => e = .returned (.int .i64 (szN k : Int)) ∧ Below w.heap.size w w' := by
  have HR := Lib.hid (show Calls Tryz.prog 62 #[.string ⟨#[32]⟩, .int .i64 (k : Int)] w fun e w' => e = .returned (.string ⟨(Lib.repeatL [32] k).toArray⟩) ∧ Below w.heap.size w w' from
    Tryz.strings_Repeat ⟨#[32]⟩ k w (by omega) (show 1 * k ≤ _ by omega))
  have hz : (⟨(Lib.repeatL [32] k).toArray⟩ : ByteArray).size = k := by
    show (Lib.repeatL [32] k).toArray.size = k
    rw [List.size_toArray, Lib.repeatL_length]
    simp
  have HS := Lib.hid (fun W => seal_size W ⟨(Lib.repeatL [32] k).toArray⟩ (by rw [hz]; omega))
  rw [hz] at HS
  have y1 : ¬ (k : Int) < 1 := by omega
  have y2 : ¬ (256 : Int) < (k : Int) := by omega
  have t1 : decide ((k : Int) < 1) = false := decide_eq_false y1
  have t2 : decide ((256 : Int) < (k : Int)) = false := decide_eq_false y2
  clear hz h1 h2
  generalize (⟨(Lib.repeatL [32] k).toArray⟩ : ByteArray) = q at HR HS
  go_enter Tryz.func43, Tryz.ntmps43
  go_wp2_with (fail)
  refine HR.out.mono ?_
  rintro e w1 ⟨rfl, b1⟩
  have B1 := Lib.hid b1
  clear b1 HR
  go_wp2_with (fail)
  refine (HS.out w1).mono ?_
  rintro e w2 ⟨rfl, rfl⟩
  go_wp2_with (fail)
  refine bodyPost_ret (results_tmp rfl _ _ _) rfl ?_
  exact ⟨rfl, B1.out⟩
theorem slot_per_not (w : World) (k : Int) (h : k < 1 ∨ 256 < k) : Calls Tryz.prog 43 #[.int .i64 k] w fun e w' => e = .returned (.int .i64 0) ∧ w = w' := by
  by_cases h1 : k < 1
  · have t1 : decide (k < 1) = true := decide_eq_true h1
    clear h
    go_enter Tryz.func43, Tryz.ntmps43
    go_wp2
    refine bodyPost_ret (results_tmp rfl _ _ _) rfl ?_
    exact ⟨rfl, rfl⟩
  · have t1 : decide (k < 1) = false := decide_eq_false h1
    have h2 : 256 < k := by omega
    have t2 : decide (256 < k) = true := decide_eq_true h2
    clear h
    go_enter Tryz.func43, Tryz.ntmps43
    go_wp2
    refine bodyPost_ret (results_tmp rfl _ _ _) rfl ?_
    exact ⟨rfl, rfl⟩
section
variable (w : World) (S Z k c : Nat) (ht : w.heap[S]? = some (slobj Z k c))
include ht
theorem slot_chunks : Calls Tryz.prog 32 #[.pointer (some ⟨S, 0, none⟩)] w fun e w' => e = .returned (.int .i64 (c : Int)) ∧ w = w' := by
  have c2 := slot_c2 ht
  clear ht
  generalize (c : Int) = ci at c2 ⊢
  go_enter Tryz.func32, Tryz.ntmps32
  go_wp2
  refine bodyPost_ret (results_tmp rfl _ _ _) rfl ?_
  exact ⟨rfl, rfl⟩
theorem slot_reach (i : Nat) (hi : i < c) : Calls Tryz.prog 51 #[.pointer (some ⟨S, 0, none⟩), .int .i64 (i : Int)] w fun e w' => e = .returned (.int .i64 0) ∧ w = w' := by
  have c2 := slot_c2 ht
  have y1 : ¬ (i : Int) < 0 := by omega
  have y2 : ¬ (c : Int) ≤ (i : Int) := by omega
  have t1 : decide ((i : Int) < 0) = false := decide_eq_false y1
  have t2 : decide ((c : Int) ≤ (i : Int)) = false := decide_eq_false y2
  clear ht hi
  generalize (c : Int) = ci at c2 y2 t2
  generalize (i : Int) = ii at y1 y2 t1 t2 ⊢
  go_enter Tryz.func51, Tryz.ntmps51
  go_wp2
  refine bodyPost_ret (results_tmp rfl _ _ _) rfl ?_
  exact ⟨rfl, rfl⟩
theorem slot_reach_not (i : Int) (hi : i < 0 ∨ (c : Int) ≤ i) : Calls Tryz.prog 51 #[.pointer (some ⟨S, 0, none⟩), .int .i64 i] w fun e w' => e = .returned (.int .i64 3) ∧ w = w' := by
  have c2 := slot_c2 ht
  clear ht
  generalize (c : Int) = ci at c2 hi
  by_cases h1 : i < 0
  · have t1 : decide (i < 0) = true := decide_eq_true h1
    clear hi
    go_enter Tryz.func51, Tryz.ntmps51
    go_wp2
    refine bodyPost_ret (results_tmp rfl _ _ _) rfl ?_
    exact ⟨rfl, rfl⟩
  · have t1 : decide (i < 0) = false := decide_eq_false h1
    have y2 : ci ≤ i := by omega
    have t2 : decide (ci ≤ i) = true := decide_eq_true y2
    clear hi
    go_enter Tryz.func51, Tryz.ntmps51
    go_wp2
    refine bodyPost_ret (results_tmp rfl _ _ _) rfl ?_
    exact ⟨rfl, rfl⟩
theorem slot_place (h1 : 1 ≤ k) (h2 : k ≤ 256) (i : Nat) (hi : i ≤ 4096) : Calls Tryz.prog 52 #[.pointer (some ⟨S, 0, none⟩), .int .i64 (i : Int)] w fun e w' => e = .returned (.int .i64 ((i * szN k : Nat) : Int)) ∧ Below w.heap.size w w' := by
  have c1 := slot_c1 ht
  have HP := Lib.hid (fun W => slot_per W k h1 h2)
  have hz := szN_max k (by omega)
  have hm : i * szN k ≤ 4096 * 38 := Nat.mul_le_mul hi hz
  have e1 : IntKind.i64.wrap ((i : Int) * (szN k : Int)) = ((i * szN k : Nat) : Int) := (IntWalk.i64_in _ (by rw [← Int.natCast_mul]; omega)).trans (Int.natCast_mul i (szN k)).symm
  clear ht h1 h2 hi hz hm
  generalize ((i * szN k : Nat) : Int) = r at e1 ⊢
  generalize (szN k : Int) = sz at e1 HP
  generalize (k : Int) = ki at c1 HP
  generalize (i : Int) = ii at e1 ⊢
  go_enter Tryz.func52, Tryz.ntmps52
  go_wp2_with (fail)
  refine (HP.out w).mono ?_
  rintro e w1 ⟨rfl, b1⟩
  have B1 := Lib.hid b1
  clear b1 HP
  go_wp2_with (fail)
  refine bodyPost_ret (results_tmp rfl _ _ _) rfl ?_
  exact ⟨rfl, B1.out⟩
end
end Go.Proofs.YtnmgkkjnjllpbaaGreatDoor
namespace Go.Proofs.YtnmgkkjnjllpbaaGreatDoor
open Go.ChangeShapes Go.WideShapes Go.ChangeAt Go.RowKit Pn Dk Sl

/-- How many chunks there may be in a zone of nz sectors. -/
def chunksN (nz k : Nat) : Nat := min (nz / szN k) 64
set_option maxRecDepth 100000 in
theorem slot_new (w : World) (Z D f nz k : Nat) (hz : w.heap[Z]? = some (zobj D f nz)) (hn : nz ≤ 4096) (h1 : 1 ≤ k) (h2 : k ≤ 256) (hp : szN k ≤ nz) :
    Calls Tryz.prog 94 #[.pointer (some ⟨Z, 0, none⟩), .int .i64 (k : Int)] w fun e w' => ∃ S, e = .returned (.tuple #[.pointer (some ⟨S, 0, none⟩), .int .i64 0]) ∧ w.heap.size ≤ S ∧ w'.heap[S]? = some (slobj Z k (chunksN nz k)) ∧ Below w.heap.size w w' := by
  have HP := Lib.hid (slot_per w k h1 h2)
  have HZ := Lib.hid (show ∀ W, Below w.heap.size w W → Calls Tryz.prog 68 #[.pointer (some ⟨Z, 0, none⟩)] W fun e w' => e = .returned (.int .i64 (nz : Int)) ∧ W = w' from fun W hW => zone_len W Z D f nz ((hW.block Z (Array.getElem?_eq_some_iff.1 hz).1).trans hz))
  have h2z := szN_two k
  have HC := Lib.hid (show chunksN nz k = min (nz / szN k) 64 from rfl)
  have hd : ((nz : Int).tdiv (szN k : Int)) = ((nz / szN k : Nat) : Int) := Int.ofNat_tdiv nz (szN k) |>.symm
  have hq : nz / szN k ≤ nz := Nat.div_le_self _ _
  generalize chunksN nz k = cc at HC ⊢
  generalize szN k = sz at HP HC hp h2z hd hq
  generalize nz / sz = q at HC hd hq
  have s0 : ((sz : Int) == 0) = false := by simp; omega
  have y1 : ¬ (nz : Int) < (sz : Int) := by omega
  have t1 : decide ((nz : Int) < (sz : Int)) = false := decide_eq_false y1
  clear hz h1 h2
  go_enter Tryz.func94, Tryz.ntmps94
  go_wp2_with (fail)
  refine HP.out.mono ?_
  rintro e w1 ⟨rfl, b1⟩
  have B1 := Lib.hid b1
  clear b1 HP
  go_wp2_with (fail)
  refine (HZ.out w1 B1.out).mono ?_
  rintro e w2 ⟨rfl, rfl⟩
  go_wp2_with (fail)
  refine (HZ.out w1 B1.out).mono ?_
  rintro e w2 ⟨rfl, rfl⟩
  go_wp2_with (fail)
  refine bodyPost_ret (results_tmp2 rfl _ _ _) rfl ?_
  have hc : min (q : Int) 64 = (cc : Int) := by have := HC.out; omega
  rw [hc]
  exact ⟨_, rfl, B1.out.size, heap_alloc_new _ _, B1.out.alloc (B1.out.size) _⟩
theorem slot_new_arg (w : World) (Z D f nz : Nat) (hz : w.heap[Z]? = some (zobj D f nz)) (k : Int) (h : k < 1 ∨ 256 < k ∨ nz < szN k.toNat) :
    Calls Tryz.prog 94 #[.pointer (some ⟨Z, 0, none⟩), .int .i64 k] w fun e w' => e = .returned (.tuple #[.pointer none, .int .i64 1]) ∧ Below w.heap.size w w' := by
  by_cases hk : k < 1 ∨ 256 < k
  · have HP := Lib.hid (slot_per_not w k hk)
    clear h hk hz
    go_enter Tryz.func94, Tryz.ntmps94
    go_wp2_with (fail)
    refine HP.out.mono ?_
    rintro e w1 ⟨rfl, rfl⟩
    go_wp2_with (fail)
    refine bodyPost_ret (results_tmp2 rfl _ _ _) rfl ?_
    exact ⟨rfl, Below.refl _ _⟩
  · obtain ⟨kn, rfl⟩ : ∃ kn : Nat, k = (kn : Int) := ⟨k.toNat, by omega⟩
    have hp : nz < szN kn := by
      rcases h with h | h | h
      · omega
      · omega
      · rwa [Int.toNat_natCast] at h
    have HP := Lib.hid (slot_per w kn (by omega) (by omega))
    have HZ := Lib.hid (show ∀ W, Below w.heap.size w W → Calls Tryz.prog 68 #[.pointer (some ⟨Z, 0, none⟩)] W fun e w' => e = .returned (.int .i64 (nz : Int)) ∧ W = w' from fun W hW => zone_len W Z D f nz ((hW.block Z (Array.getElem?_eq_some_iff.1 hz).1).trans hz))
    have h2z := szN_two kn
    have s0 : ((szN kn : Int) == 0) = false := by simp; omega
    have y1 : (nz : Int) < (szN kn : Int) := by omega
    have t1 : decide ((nz : Int) < (szN kn : Int)) = true := decide_eq_true y1
    clear hz h hk hp h2z
    generalize (szN kn : Int) = sz at HP s0 y1 t1
    go_enter Tryz.func94, Tryz.ntmps94
    go_wp2_with (fail)
    refine HP.out.mono ?_
    rintro e w1 ⟨rfl, b1⟩
    have B1 := Lib.hid b1
    clear b1 HP
    go_wp2_with (fail)
    refine (HZ.out w1 B1.out).mono ?_
    rintro e w2 ⟨rfl, rfl⟩
    go_wp2_with (fail)
    refine bodyPost_ret (results_tmp2 rfl _ _ _) rfl ?_
    exact ⟨rfl, B1.out⟩
section
variable (w : World) (S Z k c : Nat) (ht : w.heap[S]? = some (slobj Z k c)) (h1 : 1 ≤ k) (h2 : k ≤ 256)
include ht h1 h2
set_option maxRecDepth 100000 in
set_option maxHeartbeats 1600000 in
/-- Put, by what the sealed text's Put says. -/
theorem slot_put_by (i : Nat) (hi : i < c) (hc : c ≤ 4096) (n : Int) (s : ByteArray) (hs : s.size ≤ k) (R : Int → World → Prop)
    (hp : ∀ W, Below w.heap.size w W → Calls Tryz.prog 40 #[.pointer (some ⟨Z, 0, none⟩), .int .i64 ((i * szN k : Nat) : Int), .int .i64 n, .string s] W fun e w' => ∃ m, e = .returned (.int .i64 m) ∧ w'.heap[S]? = some (slobj Z k c) ∧ R m w') :
    Calls Tryz.prog 23 #[.pointer (some ⟨S, 0, none⟩), .int .i64 (i : Int), .int .i64 n, .string s] w fun e w' => ∃ m, e = .returned (.int .i64 m) ∧ R m w' := by
  have HRC := Lib.hid (slot_reach w S Z k c ht i hi)
  have HPL := Lib.hid (slot_place w.drew S Z k c ht h1 h2 i (by omega))
  have HPU := Lib.hid hp
  have HT := Lib.hid ht
  have c0 := slot_c0 ht
  have c1 := slot_c1 ht
  have hS : S < w.heap.size := (Array.getElem?_eq_some_iff.1 ht).1
  have y1 : ¬ (k : Int) < (s.size : Int) := by omega
  have t1 : decide ((k : Int) < (s.size : Int)) = false := decide_eq_false y1
  clear ht h1 h2 hp hi hc hs
  generalize ((i * szN k : Nat) : Int) = pl at HPL HPU
  go_enter Tryz.func23, Tryz.ntmps23
  go_wp2_with (fail)
  refine HRC.out.mono ?_
  rintro e w1 ⟨rfl, rfl⟩
  go_wp2_with (fail)
  have c0d : w.drew.cell? ⟨S, 0, none⟩ = some (.pointer (some ⟨Z, 0, none⟩)) := c0
  go_region_held3 (fun W : World => W.cell? ⟨S, 0, none⟩ = some (.pointer (some ⟨Z, 0, none⟩))) (first | exact c0d | assumption) (first
    | (go_at_call 52; (with_reducible refine HPL.out.mono ?_); rintro e w2 ⟨rfl, b2⟩; have B2 := Lib.hid (below_undrew b2); have hs := slot_c0 ((b2.block S hS).trans HT.out); clear b2)
    | (go_at_call 40; (with_reducible refine (HPU.out _ B2.out).mono ?_); rintro e w3 ⟨m, rfl, h3, hm⟩; have hs := slot_c0 h3; have HM := Lib.hid hm; clear hm h3))
  go_wp2_with (fail)
  refine bodyPost_ret (results_tmp rfl _ _ _) rfl ?_
  exact ⟨m, rfl, HM.out⟩
omit h1 h2 in
theorem slot_put_range (i n : Int) (hi : i < 0 ∨ (c : Int) ≤ i) (s : ByteArray) :
    Calls Tryz.prog 23 #[.pointer (some ⟨S, 0, none⟩), .int .i64 i, .int .i64 n, .string s] w fun e w' => e = .returned (.int .i64 3) ∧ w = w' := by
  have HRC := Lib.hid (slot_reach_not w S Z k c ht i hi)
  clear ht hi
  go_enter Tryz.func23, Tryz.ntmps23
  go_wp2_with (fail)
  refine HRC.out.mono ?_
  rintro e w1 ⟨rfl, rfl⟩
  go_wp2
  refine bodyPost_ret (results_tmp rfl _ _ _) rfl ?_
  exact ⟨rfl, rfl⟩
omit h1 h2 in
theorem slot_put_long (i : Nat) (hi : i < c) (n : Int) (s : ByteArray) (hs : k < s.size) :
    Calls Tryz.prog 23 #[.pointer (some ⟨S, 0, none⟩), .int .i64 (i : Int), .int .i64 n, .string s] w fun e w' => e = .returned (.int .i64 1) ∧ w = w' := by
  have HRC := Lib.hid (slot_reach w S Z k c ht i hi)
  have c1 := slot_c1 ht
  have y1 : (k : Int) < (s.size : Int) := by omega
  have t1 : decide ((k : Int) < (s.size : Int)) = true := decide_eq_true y1
  clear ht hi hs
  go_enter Tryz.func23, Tryz.ntmps23
  go_wp2_with (fail)
  refine HRC.out.mono ?_
  rintro e w1 ⟨rfl, rfl⟩
  go_wp2
  refine bodyPost_ret (results_tmp rfl _ _ _) rfl ?_
  exact ⟨rfl, rfl⟩
end
end Go.Proofs.YtnmgkkjnjllpbaaGreatDoor
namespace Go.Proofs.YtnmgkkjnjllpbaaGreatDoor
open Go.ChangeShapes Go.WideShapes Go.ChangeAt Go.RowKit Pn Dk Sl

namespace Sl
/-- What a slot of chunks of k bytes at most makes of what is got. -/
def limR (k : Nat) (r : ByteArray × Nat × Nat) : ByteArray × Nat × Nat := if r.2.2 = 0 then (if r.1.size ≤ k then r else (⟨#[]⟩, 0, 5)) else (⟨#[]⟩, 0, r.2.2)
theorem limR_ok {k : Nat} {s : ByteArray} {m : Nat} (h : s.size ≤ k) : limR k (s, m, 0) = (s, m, 0) := by unfold limR; rw [if_pos rfl, if_pos h]
theorem limR_err {k : Nat} {s : ByteArray} {m e : Nat} (h : e ≠ 0) : limR k (s, m, e) = (⟨#[]⟩, 0, e) := by unfold limR; rw [if_neg h]
theorem limR_long {k : Nat} {s : ByteArray} {m : Nat} (h : ¬ s.size ≤ k) : limR k (s, m, 0) = (⟨#[]⟩, 0, 5) := by unfold limR; rw [if_pos rfl, if_neg h]
/-- Whether that is a chunk of an update. -/
def isW (r : ByteArray × Nat × Nat) (n : Int) : Bool := decide (r.2.2 = 0) && decide ((r.2.1 : Int) = n)
/-- What a chunk says; nothing, unless it is whole, and of the update. -/
def wText (r : ByteArray × Nat × Nat) (n : Int) : ByteArray := if isW r n = true then r.1 else ⟨#[]⟩
end Sl
section
variable (w : World) (S Z k c : Nat) (ht : w.heap[S]? = some (slobj Z k c))
include ht
set_option maxRecDepth 100000 in
set_option maxHeartbeats 1600000 in
/-- Get, by what the sealed text's Get says. -/
theorem slot_get_by (h1 : 1 ≤ k) (h2 : k ≤ 256) (i : Nat) (hi : i < c) (hc : c ≤ 4096) (r : ByteArray × Nat × Nat) (R : World → Prop)
    (hg : ∀ W, Below w.heap.size w W → Calls Tryz.prog 56 #[.pointer (some ⟨Z, 0, none⟩), .int .i64 ((i * szN k : Nat) : Int)] W fun e w' => e = .returned (.tuple #[.string r.1, .int .i64 (r.2.1 : Int), .int .i64 (r.2.2 : Int)]) ∧ w'.heap[S]? = some (slobj Z k c) ∧ R w') :
    Calls Tryz.prog 27 #[.pointer (some ⟨S, 0, none⟩), .int .i64 (i : Int)] w fun e w' => e = .returned (.tuple #[.string (limR k r).1, .int .i64 ((limR k r).2.1 : Int), .int .i64 ((limR k r).2.2 : Int)]) ∧ R w' := by
  have HRC := Lib.hid (slot_reach w S Z k c ht i hi)
  have HPL := Lib.hid (slot_place w.drew S Z k c ht h1 h2 i (by omega))
  have HT := Lib.hid ht
  have HG := Lib.hid hg
  have c0 := slot_c0 ht
  have hS : S < w.heap.size := (Array.getElem?_eq_some_iff.1 ht).1
  clear ht h1 h2 hg hi hc
  obtain ⟨s, m, e0⟩ := r
  generalize ((i * szN k : Nat) : Int) = pl at HPL HG
  go_enter Tryz.func27, Tryz.ntmps27
  go_wp2_with (fail)
  refine HRC.out.mono ?_
  rintro e w1 ⟨rfl, rfl⟩
  go_wp2_with (fail)
  have c0d : w.drew.cell? ⟨S, 0, none⟩ = some (.pointer (some ⟨Z, 0, none⟩)) := c0
  go_region_held3 (fun W : World => W.cell? ⟨S, 0, none⟩ = some (.pointer (some ⟨Z, 0, none⟩))) (first | exact c0d | assumption) (first
    | (go_at_call 52; (with_reducible refine HPL.out.mono ?_); rintro e w2 ⟨rfl, b2⟩; have B2 := Lib.hid (below_undrew b2); have hs := slot_c0 ((b2.block S hS).trans HT.out); clear b2)
    | (go_at_call 56; (with_reducible refine (HG.out _ B2.out).mono ?_); rintro e w3 ⟨rfl, h3, hm⟩; have H3 := Lib.hid h3; have hs := slot_c0 h3; have HM := Lib.hid hm; clear hm h3))
  have d1 := slot_c1 H3.out
  clear HPL HG HT HRC c0 c0d B2
  by_cases he : e0 = 0
  · have HE := Lib.hid he
    have t0 : ((e0 : Int) != 0) = false := bne_eq_false_iff_eq.2 (by omega)
    clear he
    by_cases hk : s.size ≤ k
    · have HL := Lib.hid (limR_ok (m := m) hk)
      have y1 : ¬ (k : Int) < (s.size : Int) := by omega
      have t1 : decide ((k : Int) < (s.size : Int)) = false := decide_eq_false y1
      go_wp2_with (fail)
      refine bodyPost_ret (results_tmp3 rfl _ _ _) rfl ?_
      rw [HE.out, HL.out]
      exact ⟨rfl, HM.out⟩
    · have HL := Lib.hid (limR_long (m := m) hk)
      have y1 : (k : Int) < (s.size : Int) := by omega
      have t1 : decide ((k : Int) < (s.size : Int)) = true := decide_eq_true y1
      go_wp2_with (fail)
      refine bodyPost_ret (results_tmp3 rfl _ _ _) rfl ?_
      rw [HE.out, HL.out]
      exact ⟨rfl, HM.out⟩
  · have HL := Lib.hid (limR_err (k := k) (s := s) (m := m) he)
    have t1 : ((e0 : Int) != 0) = true := bne_iff_ne.2 (by omega)
    go_wp2_with (fail)
    refine bodyPost_ret (results_tmp3 rfl _ _ _) rfl ?_
    rw [HL.out]
    exact ⟨rfl, HM.out⟩
theorem slot_get_range (i : Int) (hi : i < 0 ∨ (c : Int) ≤ i) :
    Calls Tryz.prog 27 #[.pointer (some ⟨S, 0, none⟩), .int .i64 i] w fun e w' => e = .returned (.tuple #[.string ⟨#[]⟩, .int .i64 0, .int .i64 3]) ∧ w = w' := by
  have HRC := Lib.hid (slot_reach_not w S Z k c ht i hi)
  clear ht hi
  go_enter Tryz.func27, Tryz.ntmps27
  go_wp2_with (fail)
  refine HRC.out.mono ?_
  rintro e w1 ⟨rfl, rfl⟩
  go_wp2
  refine bodyPost_ret (results_tmp3 rfl _ _ _) rfl ?_
  exact ⟨rfl, rfl⟩
section
variable (h1 : 1 ≤ k) (h2 : k ≤ 256) (nz : Nat) (rd : Nat → Nat → UInt8) (hr : Reads w Z nz rd) (hT : Tabs w) (hn : nz ≤ 4096) (hc : c * szN k ≤ nz)
include h1 h2 hr hT hn hc
theorem slot_get (i : Nat) (hi : i < c) :
    Calls Tryz.prog 27 #[.pointer (some ⟨S, 0, none⟩), .int .i64 (i : Int)] w fun e w' => e = .returned (.tuple #[.string (limR k (getR rd nz (i * szN k))).1, .int .i64 ((limR k (getR rd nz (i * szN k))).2.1 : Int), .int .i64 ((limR k (getR rd nz (i * szN k))).2.2 : Int)]) ∧ Below w.heap.size w w' := by
  have h2z := szN_two k
  have hS : S < w.heap.size := (Array.getElem?_eq_some_iff.1 ht).1
  have hm : (i + 1) * szN k ≤ c * szN k := Nat.mul_le_mul_right _ hi
  rw [Nat.succ_mul] at hm
  have hcc : c * 2 ≤ c * szN k := Nat.mul_le_mul_left _ h2z
  refine slot_get_by w S Z k c ht h1 h2 i hi (by omega) _ (fun w' => Below w.heap.size w w') fun W hW => ?_
  refine (seal_get W Z nz rd (hr.below hW) (hT.below hW) hn (i * szN k) (by omega)).mono ?_
  rintro e w' ⟨rfl, b⟩
  have b' := hW.trans (b.mono hW.size)
  exact ⟨rfl, (b'.block S hS).trans ht, b'⟩
end
end
end Go.Proofs.YtnmgkkjnjllpbaaGreatDoor
namespace Go.Proofs.YtnmgkkjnjllpbaaGreatDoor
open Go.ChangeShapes Go.WideShapes Go.ChangeAt Go.RowKit Pn Dk Sl

theorem szN_mono {a b : Nat} (h : a ≤ b) : szN a ≤ szN b := by unfold szN; omega
theorem chunks_fit (nz k : Nat) : chunksN nz k * szN k ≤ nz := Nat.le_trans (Nat.mul_le_mul_right _ (Nat.min_le_left ..)) (Nat.div_mul_le_self ..)
theorem chunk_in {nz k c i : Nat} (hc : c * szN k ≤ nz) (hi : i < c) : i * szN k + szN k ≤ nz := by
  have h := Nat.mul_le_mul_right (szN k) (Nat.succ_le_of_lt hi)
  rw [Nat.succ_mul] at h
  omega
namespace Sl
/-- What a chunk is got as. -/
def getK (x : Dk.St) (f nz k i : Nat) : ByteArray × Nat × Nat := limR k (getR (rdZ x f) nz (i * szN k))
theorem wText_size (r : ByteArray × Nat × Nat) (k : Nat) (n : Int) : (wText (limR k r) n).size ≤ k := by
  unfold wText
  split
  · unfold limR
    split
    · split
      · assumption
      · exact Nat.zero_le _
    · exact Nat.zero_le _
  · exact Nat.zero_le _
end Sl
namespace Zn
variable {w0 w w' : World} {D : Nat} {x : Dk.St} {fs : List (Nat × Obj)}
/-- A block beside the disk is written anew; more is made. -/
theorem turnB {T : Nat} {o o' : Obj} (h : Zn w0 w D x ((T, o) :: fs)) (hT : w0.heap.size ≤ T) (hne : ∀ z ∈ fs, z.1 ≠ T) (h1 : w'.heap[T]? = some o') (ho : Only w w' T) : Zn w0 w' D x ((T, o') :: fs) := by
  refine ⟨(h.disk.keep (w' := w') fun i hi hl => ho.block i hl (hi.2 (T, o) (List.mem_cons_self ..))).mono fun i hi => ⟨hi.1, fun z hz => ?_⟩, fun z hz => ?_, ⟨ho.os.trans h.below.os, ho.tape.trans h.below.tape, ho.output.trans h.below.output, Nat.le_trans h.below.size ho.size, fun i hi => (ho.block i (Nat.lt_of_lt_of_le hi h.below.size) (by omega)).trans (h.below.block i hi)⟩⟩
  · rcases List.mem_cons.1 hz with rfl | hz
    · exact hi.2 (T, o) (List.mem_cons_self ..)
    · exact hi.2 z (List.mem_cons_of_mem _ hz)
  · rcases List.mem_cons.1 hz with rfl | hz
    · exact h1
    · have hf := h.fix z (List.mem_cons_of_mem _ hz)
      exact (ho.block z.1 (Array.getElem?_eq_some_iff.1 hf).1 (hne z hz)).trans hf
theorem ne_new (h : Zn w0 w D x fs) {T : Nat} (hT : w.heap.size ≤ T) : ∀ z ∈ fs, z.1 ≠ T := fun z hz e => by
  have := (Array.getElem?_eq_some_iff.1 (h.fix z hz)).1
  omega
theorem slot (h : Zn w0 w D x fs) {Z f nz : Nat} (hz : (Z, zobj D f nz) ∈ fs) (hn : nz ≤ 4096) (k : Nat) (h1 : 1 ≤ k) (h2 : k ≤ 256) (hp : szN k ≤ nz) :
    Calls Tryz.prog 94 #[.pointer (some ⟨Z, 0, none⟩), .int .i64 (k : Int)] w fun e w' => ∃ S, e = .returned (.tuple #[.pointer (some ⟨S, 0, none⟩), .int .i64 0]) ∧ w0.heap.size ≤ S ∧ Zn w0 w' D x ((S, slobj Z k (chunksN nz k)) :: fs) := by
  refine (slot_new w Z D f nz k (h.fix _ hz) hn h1 h2 hp).mono ?_
  rintro e w' ⟨S, rfl, g1, g2, g3⟩
  exact ⟨S, rfl, Nat.le_trans h.below.size g1, h.add g3 g1 g2⟩
section
variable {S Z k c f nz : Nat} (h : Zn w0 w D x fs) (ht : (S, slobj Z k c) ∈ fs) (hz : (Z, zobj D f nz) ∈ fs) (hT : Tabs w0) (ha : x.away = false) (hfn : f + nz ≤ x.n) (h1 : 1 ≤ k) (h2 : k ≤ 256) (hc : c * szN k ≤ nz)
include h ht hz hT ha hfn h1 h2 hc
theorem sput (hf : x.fuse = none) (hl : x.loose.length ≤ 1073741000) (hd : x.done < 4611686018427380000) (n : Nat) (s : ByteArray) (hn1 : 1 ≤ n) (hn2 : n ≤ 2147483647) (hs : s.size ≤ k) (i : Nat) (hi : i < c) :
    Calls Tryz.prog 23 #[.pointer (some ⟨S, 0, none⟩), .int .i64 (i : Int), .int .i64 (n : Int), .string s] w fun e w' => e = .returned (.int .i64 0) ∧ Zn w0 w' D (x.laid (f + i * szN k) (secF n (sealL s)) (szN s.size)) fs := by
  have hnb : x.n ≤ 4096 := by obtain ⟨_, _, _, _, _, _, h⟩ := h.disk; exact h.nb
  have h2z := szN_two k
  have hin := chunk_in hc hi
  have hcc : c * 2 ≤ c * szN k := Nat.mul_le_mul_left _ h2z
  have hsm := szN_mono hs
  refine (slot_put_by w S Z k c (h.fix _ ht) h1 h2 i hi (by omega) n s hs (fun m w' => m = 0 ∧ Zn w0 w' D (x.laid (f + i * szN k) (secF n (sealL s)) (szN s.size)) fs) fun W hW => ?_).mono ?_
  · refine ((h.step hW).put hz hT ha hf hl hd hfn n s hn1 hn2 (by omega) (i * szN k) (by omega)).mono ?_
    rintro e w' ⟨rfl, h3⟩
    exact ⟨0, rfl, h3.fix _ ht, rfl, h3⟩
  · rintro e w' ⟨m, rfl, rfl, h3⟩
    exact ⟨rfl, h3⟩
theorem sget (i : Nat) (hi : i < c) :
    Calls Tryz.prog 27 #[.pointer (some ⟨S, 0, none⟩), .int .i64 (i : Int)] w fun e w' => e = .returned (.tuple #[.string (getK x f nz k i).1, .int .i64 ((getK x f nz k i).2.1 : Int), .int .i64 ((getK x f nz k i).2.2 : Int)]) ∧ Zn w0 w' D x fs := by
  have hnb : x.n ≤ 4096 := by obtain ⟨_, _, _, _, _, _, h⟩ := h.disk; exact h.nb
  refine (slot_get w S Z k c (h.fix _ ht) h1 h2 nz (rdZ x f) (h.reads hz ha hfn) (h.tabs hT) (by omega) hc i hi).mono ?_
  rintro e w' ⟨rfl, b⟩
  exact ⟨rfl, h.step b⟩
end
end Zn
end Go.Proofs.YtnmgkkjnjllpbaaGreatDoor
