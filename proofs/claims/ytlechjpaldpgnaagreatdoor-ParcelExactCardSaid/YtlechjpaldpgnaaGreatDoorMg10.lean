/-
  A manifest's bytes, and the manifest that bytes tell, in plain words. No program here. No conditions.
  A manifest in memory: its 37 cells, in a block or as a value, of the program's type or the document's; its sums stand behind a slice. No program's function here. No conditions.
  Package manifest: version, needed, span, Count, Good, Length. Conditions: span is asked within a patch.
-/
import Derived.Test.YtlechjpaldpgnaaGreatDoorMg2
import Derived.Test.YtlechjpaldpgnaaGreatDoorMg3
import Derived.Test.YtlechjpaldpgnaaGreatDoorMg9
import Derived.Test.YtlechjpaldpgnaaGreatDoorMg6
import Derived.Test.YtlechjpaldpgnaaGreatDoorMg8
set_option maxRecDepth 100000
namespace Go.Proofs.YtlechjpaldpgnaaGreatDoor
open Sh Pn

namespace Mf
def headL (m : Man) : List UInt8 := numL m.b ++ (numL m.v ++ (numL m.s ++ numL m.c))
theorem headL_length (m : Man) : (headL m).length = 16 := by
  unfold headL
  simp only [List.length_append]
  rfl
def sumsL (l : List (Nat → UInt8)) : List UInt8 := l.flatMap digL
theorem sumsL_length (l : List (Nat → UInt8)) : (sumsL l).length = 32 * l.length := by
  induction l with
  | nil => rfl
  | cons f l ih =>
    show (digL f ++ sumsL l).length = 32 * (l.length + 1)
    rw [List.length_append, ih, digL_length]
    omega
def textM (m : Man) : List UInt8 := headL m ++ (sumsL m.sums ++ (digL m.res ++ digL (treeD m.sums)))
theorem textM_length (m : Man) : (textM m).length = 16 + 32 * (m.sums.length + 2) := by
  unfold textM
  simp only [List.length_append, headL_length, sumsL_length, digL_length]
  omega
/-- What Bytes answers. -/
def bytM (m : Man) : List UInt8 × Int := if 0 < countM m then (textM m, 0) else ([], 1)
end Mf
end Go.Proofs.YtlechjpaldpgnaaGreatDoor
namespace Go.Proofs.YtlechjpaldpgnaaGreatDoor
open Go.ChangeShapes Go.WideShapes Go.ChangeAt Go.RowKit Sh Pn

namespace Mf
/-- A manifest's cells. -/
def manA (m : Man) (A : Option Addr) (k : Nat) : Array Value := #[.int .i64 m.b, .int .i64 m.v, .int .i64 m.s, .int .i64 m.c, .slice A m.sums.length k] ++ digF m.res

theorem digF_size (f : Nat → UInt8) : (digF f).size = 32 := vals_size 32 _
theorem manA_size (m : Man) (A : Option Addr) (k : Nat) : (manA m A k).size = 37 := by unfold manA; rw [Array.size_append, digF_size]; rfl
theorem manA_one (m : Man) (A : Option Addr) (k : Nat) : (manA m A k).all (·.oneCell') = true := by
  unfold manA
  rw [Array.all_append, hoDig]
  simp [Value.oneCell']
theorem manA_low (m : Man) (A : Option Addr) (k j : Nat) (hj : j < 5) : (manA m A k)[j]? = (#[.int .i64 m.b, .int .i64 m.v, .int .i64 m.s, .int .i64 m.c, .slice A m.sums.length k] : Array Value)[j]? := by
  unfold manA; rw [Array.getElem?_append_left (by simpa using hj)]
theorem manA_high (m : Man) (A : Option Addr) (k j : Nat) : (manA m A k)[5 + j]? = (digF m.res)[j]? := by
  unfold manA
  rw [Array.getElem?_append_right (by simp)]
  congr 1
  simp
/-- A manifest's block. -/
structure At (w : World) (b : Nat) (t : TypeId) (m : Man) (A : Option Addr) (k : Nat) : Prop where
  h : w.heap[b]? = some (.cells (manA m A k) t)
section
variable {w w' : World} {b : Nat} {t : TypeId} {m : Man} {A : Option Addr} {k : Nat}
theorem At.lt (h : At w b t m A k) : b < w.heap.size := (Array.getElem?_eq_some_iff.1 h.h).1
theorem At.base (h : At w b t m A k) : w.cell? ⟨b, 0, none⟩ = some (.int .i64 m.b) := (cell_of_row w b 0 _ _ _ h.h).trans (manA_low m A k 0 (by omega))
theorem At.ver (h : At w b t m A k) : w.cell? ⟨b, 1, none⟩ = some (.int .i64 m.v) := (cell_of_row w b 1 _ _ _ h.h).trans (manA_low m A k 1 (by omega))
theorem At.size (h : At w b t m A k) : w.cell? ⟨b, 2, none⟩ = some (.int .i64 m.s) := (cell_of_row w b 2 _ _ _ h.h).trans (manA_low m A k 2 (by omega))
theorem At.chunk (h : At w b t m A k) : w.cell? ⟨b, 3, none⟩ = some (.int .i64 m.c) := (cell_of_row w b 3 _ _ _ h.h).trans (manA_low m A k 3 (by omega))
theorem At.sums (h : At w b t m A k) : w.cell? ⟨b, 4, none⟩ = some (.slice A m.sums.length k) := (cell_of_row w b 4 _ _ _ h.h).trans (manA_low m A k 4 (by omega))
theorem At.res (h : At w b t m A k) : w.rangeAt b 5 (digF m.res).toList := fun j u hj => by
  rw [cell_of_row w b (5 + j) _ _ _ h.h, manA_high, ← hj, Array.getElem?_toList]
theorem At.cells (h : At w b t m A k) : w.heap[b]? = some (.cells (manA m A k) t (0, 0)) := h.h
theorem At.fz (h : At w b t m A k) (i : Nat) : w.frozen? ⟨b, i, none⟩ = false := frozen_of_row w b i _ _ h.h
theorem At.of_block (h : At w b t m A k) (e : w'.heap[b]? = w.heap[b]?) : At w' b t m A k := ⟨e.trans h.h⟩
theorem At.keep (h : At w b t m A k) (hb : Below w.heap.size w w') : At w' b t m A k := h.of_block (hb.block b h.lt)
theorem At.drewN (h : At w b t m A k) (n : Nat) : At (w.drewN n) b t m A k := ⟨h.h⟩
end
theorem at_new (w : World) (t : TypeId) (m : Man) (A : Option Addr) (k : Nat) : At (w.alloc (.cells (manA m A k) t)) w.heap.size t m A k := ⟨heap_alloc_new w _⟩
/-- The sums stand behind the slice. -/
def SIn (w : World) (A : Option Addr) (k : Nat) (L : List (Nat → UInt8)) : Prop := L.length ≤ k ∧ (0 < L.length → ∃ pb po, A = some ⟨pb, po, none⟩ ∧ DigsAt w pb po L)
theorem digs_lt {w : World} {b o : Nat} {L : List (Nat → UInt8)} (h : DigsAt w b o L) (h0 : 0 < L.length) : b < w.heap.size :=
  block_lt_of_cell (h 0 ((dcells L)[0]'(by rw [dcells_length]; omega)) (List.getElem?_eq_getElem _))
theorem SIn.keep {w w' : World} {A : Option Addr} {k : Nat} {L : List (Nat → UInt8)} (h : SIn w A k L) (hb : Below w.heap.size w w') : SIn w' A k L :=
  ⟨h.1, fun h0 => by
    obtain ⟨pb, po, e, hd⟩ := h.2 h0
    exact ⟨pb, po, e, hd.keep hb (digs_lt hd h0)⟩⟩
theorem SIn.drewN {w : World} {A : Option Addr} {k : Nat} {L : List (Nat → UInt8)} (h : SIn w A k L) (n : Nat) : SIn (w.drewN n) A k L := h.keep (below_drewN (Below.refl _ _) n)
theorem digs_drop' {w : World} {b o : Nat} {l : List (Nat → UInt8)} (h : DigsAt w b o l) (i : Nat) (hi : i ≤ l.length) : DigsAt w b (o + i * 32) (l.drop i) := fun j u hj => by
  have e : dcells l = dcells (l.take i) ++ dcells (l.drop i) := by rw [← dcells_append, List.take_append_drop]
  have hl : (dcells (l.take i)).length = i * 32 := by rw [dcells_length, List.length_take]; omega
  have := h (i * 32 + j) u (by rw [e, List.getElem?_append_right (by omega), hl, Nat.add_sub_cancel_left]; exact hj)
  rwa [← Nat.add_assoc] at this
/-- The sum at i, looked up. -/
theorem SIn.at {w : World} {A : Option Addr} {k : Nat} {L : List (Nat → UInt8)} (h : SIn w A k L) {i : Nat} (hi : i < L.length) : ∃ pb po, A = some ⟨pb, po, none⟩ ∧ pb < w.heap.size ∧ w.rangeAt pb (po + i * 32) (digF (L.getD i fun _ => 0)).toList := by
  obtain ⟨pb, po, e, hd⟩ := h.2 (by omega)
  have h2 := digs_drop' hd i (by omega)
  rw [List.drop_eq_getElem_cons hi] at h2
  refine ⟨pb, po, e, digs_lt hd (by omega), ?_⟩
  rw [List.getD_eq_getElem?_getD, List.getElem?_eq_getElem hi]
  exact h2.head
end Mf
open Mf
theorem infM : (Tryz.prog.info? 26).map (·.size) = some 37 := by kernel_rfl
theorem manI (m : Man) (A : Option Addr) (k : Nat) : (Tryz.prog.info? 26).map (·.size) = some (manA m A k).size := by rw [manA_size]; exact infM
end Go.Proofs.YtlechjpaldpgnaaGreatDoor
namespace Go.Proofs.YtlechjpaldpgnaaGreatDoor
open Go.ChangeShapes Go.WideShapes Go.ChangeAt Go.RowKit Sh Pn Mf

namespace Mf
def verB (n : Int) : Bool := decide (1 ≤ n) && decide (n ≤ 2147483647)
/-- How many chunks by the numbers; 0, if they can't be. -/
def needN (b v s c : Int) : Nat := if headB b v s c = true then cntN s.toNat c.toNat else 0
def needM (m : Man) : Nat := needN m.b m.v m.s m.c
theorem countM_need (m : Man) : countM m = if needM m = m.sums.length then needM m else 0 := by
  unfold countM needM needN
  by_cases hg : headB m.b m.v m.s m.c = true
  · rw [if_pos hg]
    by_cases hl : m.sums.length = cntN m.s.toNat m.c.toNat
    · rw [if_pos ⟨hg, hl⟩, if_pos hl.symm, hl]
    · rw [if_neg (fun h => hl h.2), if_neg (fun h => hl h.symm)]
  · rw [if_neg (fun h => hg h.1), if_neg hg]
    split <;> rfl
theorem verB_false {n : Int} (h : verB n = false) : ¬ (1 ≤ n ∧ n ≤ 2147483647) := fun ⟨h1, h2⟩ => by
  unfold verB at h
  rw [decide_eq_true h1, decide_eq_true h2] at h
  cases h
theorem verB_true {n : Int} (h : verB n = true) : 1 ≤ n ∧ n ≤ 2147483647 := by
  unfold verB at h
  simpa using h
theorem need_not {b v s c : Int} (h : ¬ headB b v s c = true) : needN b v s c = 0 := if_neg h
theorem need_cases (b v s c : Int) :
    (verB b = false ∧ needN b v s c = 0) ∨ (verB b = true ∧ verB v = false ∧ needN b v s c = 0) ∨ (verB b = true ∧ verB v = true ∧ (b == v) = true ∧ needN b v s c = 0) ∨
    (verB b = true ∧ verB v = true ∧ (b == v) = false ∧ (
      (decide (s < 1) = true ∧ needN b v s c = 0) ∨
      (decide (s < 1) = false ∧ decide (4096 < s) = true ∧ needN b v s c = 0) ∨
      (decide (s < 1) = false ∧ decide (4096 < s) = false ∧ decide (c < 1) = true ∧ needN b v s c = 0) ∨
      (decide (s < 1) = false ∧ decide (4096 < s) = false ∧ decide (c < 1) = false ∧ decide (256 < c) = true ∧ needN b v s c = 0) ∨
      (decide (s < 1) = false ∧ decide (4096 < s) = false ∧ decide (c < 1) = false ∧ decide (256 < c) = false ∧ ∃ n : Nat, (s + c - 1).tdiv c = (n : Int) ∧ n ≤ 4096 ∧
        ((64 < n ∧ needN b v s c = 0) ∨ (n ≤ 64 ∧ needN b v s c = n))))) := by
  cases hb : verB b with
  | false => exact .inl ⟨rfl, need_not fun h => by have := headB_iff.1 h; exact verB_false hb ⟨this.1, this.2.1⟩⟩
  | true =>
  cases hv : verB v with
  | false => exact .inr (.inl ⟨rfl, rfl, need_not fun h => by have := headB_iff.1 h; exact verB_false hv ⟨this.2.2.1, this.2.2.2.1⟩⟩)
  | true =>
  cases he : b == v with
  | true => exact .inr (.inr (.inl ⟨rfl, rfl, rfl, need_not fun h => by have := headB_iff.1 h; exact this.2.2.2.2.1 (eq_of_beq he)⟩))
  | false =>
  refine .inr (.inr (.inr ⟨rfl, rfl, rfl, ?_⟩))
  by_cases h1 : s < 1
  · exact .inl ⟨decide_eq_true h1, need_not fun h => by have := headB_iff.1 h; omega⟩
  by_cases h2 : 4096 < s
  · exact .inr (.inl ⟨decide_eq_false h1, decide_eq_true h2, need_not fun h => by have := headB_iff.1 h; omega⟩)
  by_cases h3 : c < 1
  · exact .inr (.inr (.inl ⟨decide_eq_false h1, decide_eq_false h2, decide_eq_true h3, need_not fun h => by have := headB_iff.1 h; omega⟩))
  by_cases h4 : 256 < c
  · exact .inr (.inr (.inr (.inl ⟨decide_eq_false h1, decide_eq_false h2, decide_eq_false h3, decide_eq_true h4, need_not fun h => by have := headB_iff.1 h; omega⟩)))
  refine .inr (.inr (.inr (.inr ⟨decide_eq_false h1, decide_eq_false h2, decide_eq_false h3, decide_eq_false h4, cntN s.toNat c.toNat, cntN_quot (by omega) (by omega), ?_, ?_⟩)))
  · unfold cntN
    exact Nat.div_le_of_le_mul (by omega)
  · by_cases h5 : 64 < cntN s.toNat c.toNat
    · exact .inl ⟨h5, need_not fun h => by have := headB_iff.1 h; omega⟩
    · refine .inr ⟨by omega, if_pos (headB_iff.2 ?_)⟩
      have k1 := verB_true hb
      have k2 := verB_true hv
      have k3 : b ≠ v := fun e => by rw [e] at he; simp at he
      omega
end Mf
set_option maxRecDepth 100000 in
set_option maxHeartbeats 1600000 in
theorem mf_version (w : World) (n : Int) : Calls Tryz.prog 92 #[.int .i64 n] w fun e w' => e = .returned (.bool (verB n)) ∧ w = w' := by
  unfold verB
  by_cases h1 : 1 ≤ n
  · have t1 : decide (1 ≤ n) = true := decide_eq_true h1
    cases h2 : decide (n ≤ 2147483647)
    all_goals
      go_enter Tryz.func92, Tryz.ntmps92
      go_wp2_with (fail)
      refine bodyPost_ret (results_tmp rfl _ _ _) rfl ?_
      exact ⟨by rw [t1]; rfl, rfl⟩
  · have t1 : decide (1 ≤ n) = false := decide_eq_false h1
    go_enter Tryz.func92, Tryz.ntmps92
    go_wp2_with (fail)
    refine bodyPost_ret (results_tmp rfl _ _ _) rfl ?_
    exact ⟨rfl, rfl⟩
set_option maxRecDepth 100000 in
set_option maxHeartbeats 3200000 in
theorem mf_needed (w : World) (m : Man) (A : Option Addr) (k : Nat) : Calls Tryz.prog 60 #[.agg (manA m A k)] w fun e w' => e = .returned (.int .i64 (needM m : Int)) ∧ Below w.heap.size w w' := by
  have H1 := Lib.hid (fun W => mf_version W m.b)
  have H2 := Lib.hid (fun W => mf_version W m.v)
  have HB := Lib.hid ((Below.refl w.heap.size w).alloc (Nat.le_refl _) (.cells (manA m A k) 26))
  have h0 := at_new w 26 m A k
  have e0 := h0.base
  have e1 := h0.ver
  have e2 := h0.size
  have e3 := h0.chunk
  have hc := need_cases m.b m.v m.s m.c
  unfold needM
  clear h0
  generalize manA m A k = M at *
  generalize m.b = b at *
  generalize m.v = v at *
  generalize m.s = s at *
  generalize m.c = c at *
  generalize needN b v s c = N at *
  generalize verB b = b1 at *
  generalize verB v = b2 at *
  rcases hc with ⟨rfl, rfl⟩ | ⟨rfl, rfl, rfl⟩ | ⟨rfl, rfl, t3, rfl⟩ | ⟨rfl, rfl, t3, ⟨t4, rfl⟩ | ⟨t4, t5, rfl⟩ | ⟨t4, t5, t6, rfl⟩ | ⟨t4, t5, t6, t7, rfl⟩ | ⟨t4, t5, t6, t7, n, hq, hn, h⟩⟩
  case inr.inr.inr.inr.inr.inr.inr =>
    have i4 := of_decide_eq_false t4
    have i5 := of_decide_eq_false t5
    have i6 := of_decide_eq_false t6
    have i7 := of_decide_eq_false t7
    have x1 := IntWalk.wrap64_in (s + c) (by omega)
    have x2 := IntWalk.wrap64_in (s + c - 1) (by omega)
    have x3 : ¬ c = 0 := by omega
    have x4 : ¬ c = -1 := by omega
    have x5 : (c == 0) = false := beq_eq_false_iff_ne.2 x3
    have x6 : (c == -1) = false := beq_eq_false_iff_ne.2 x4
    rcases h with ⟨hg, rfl⟩ | ⟨hg, rfl⟩
    · have t8 : decide ((64 : Int) < (n : Int)) = true := decide_eq_true (by omega)
      clear i4 i5 i6 i7
      go_enter Tryz.func60, Tryz.ntmps60
      go_wp2_with (fail)
      refine (H1.out _).mono ?_; rintro e w1 ⟨rfl, rfl⟩; go_wp2_with (fail)
      refine (H2.out _).mono ?_; rintro e w1 ⟨rfl, rfl⟩; go_wp2_with (fail)
      exact bodyPost_ret (results_tmp rfl _ _ _) rfl ⟨rfl, HB.out⟩
    · have t8 : decide ((64 : Int) < (N : Int)) = false := decide_eq_false (by omega)
      clear i4 i5 i6 i7
      go_enter Tryz.func60, Tryz.ntmps60
      go_wp2_with (fail)
      refine (H1.out _).mono ?_; rintro e w1 ⟨rfl, rfl⟩; go_wp2_with (fail)
      refine (H2.out _).mono ?_; rintro e w1 ⟨rfl, rfl⟩; go_wp2_with (fail)
      exact bodyPost_ret (results_tmp rfl _ _ _) rfl ⟨rfl, HB.out⟩
  all_goals
    go_enter Tryz.func60, Tryz.ntmps60
    go_wp2_with (fail)
    try (refine (H1.out _).mono ?_; rintro e w1 ⟨rfl, rfl⟩; go_wp2_with (fail))
    try (refine (H2.out _).mono ?_; rintro e w1 ⟨rfl, rfl⟩; go_wp2_with (fail))
    exact bodyPost_ret (results_tmp rfl _ _ _) rfl ⟨rfl, HB.out⟩
set_option maxRecDepth 100000 in
set_option maxHeartbeats 1600000 in
theorem mf_count (w : World) (m : Man) (A : Option Addr) (k : Nat) : Calls Tryz.prog 32 #[.agg (manA m A k)] w fun e w' => e = .returned (.int .i64 (countM m : Int)) ∧ Below w.heap.size w w' := by
  have HN := Lib.hid (fun W => mf_needed W m A k)
  have HB := Lib.hid ((Below.refl w.heap.size w).alloc (Nat.le_refl _) (.cells (manA m A k) 26))
  have HA := Lib.hid (at_new w 26 m A k)
  have HI := Lib.hid (manI m A k)
  have hcm := countM_need m
  generalize needM m = N at *
  generalize countM m = C at *
  by_cases hl : N = m.sums.length
  · rw [if_pos hl] at hcm
    subst hcm
    have t1 : ((C : Int) != (m.sums.length : Int)) = false := by rw [hl]; simp
    have t2 : ((C : Int) == (m.sums.length : Int)) = true := by rw [hl]; simp
    clear hl
    go_enter Tryz.func32, Tryz.ntmps32
    go_wp2_with (with_reducible refine wpList_load_row rfl 26 _ rfl _ rfl 26 _ (0, 0) _ HA.out.cells Tryz.underlying26 rfl HI.out ?_)
    refine (HN.out _).mono ?_
    rintro e w1 ⟨rfl, b1⟩
    have e4 := (HA.out.keep b1).sums
    have HB1 := Lib.hid (HB.out.trans (b1.mono HB.out.size))
    clear b1
    go_wp2_with (fail)
    exact bodyPost_ret (results_tmp rfl _ _ _) rfl ⟨rfl, HB1.out⟩
  · rw [if_neg hl] at hcm
    subst hcm
    have t1 : ((N : Int) != (m.sums.length : Int)) = true := bne_iff_ne.2 (by omega)
    have t2 : ((N : Int) == (m.sums.length : Int)) = false := beq_eq_false_iff_ne.2 (by omega)
    clear hl
    go_enter Tryz.func32, Tryz.ntmps32
    go_wp2_with (with_reducible refine wpList_load_row rfl 26 _ rfl _ rfl 26 _ (0, 0) _ HA.out.cells Tryz.underlying26 rfl HI.out ?_)
    refine (HN.out _).mono ?_
    rintro e w1 ⟨rfl, b1⟩
    have e4 := (HA.out.keep b1).sums
    have HB1 := Lib.hid (HB.out.trans (b1.mono HB.out.size))
    clear b1
    go_wp2_with (fail)
    exact bodyPost_ret (results_tmp rfl _ _ _) rfl ⟨rfl, HB1.out⟩
set_option maxRecDepth 100000 in
set_option maxHeartbeats 1600000 in
theorem mf_good (w : World) (m : Man) (A : Option Addr) (k : Nat) : Calls Tryz.prog 31 #[.agg (manA m A k)] w fun e w' => e = .returned (.bool (decide (0 < countM m))) ∧ Below w.heap.size w w' := by
  have HN := Lib.hid (fun W => mf_count W m A k)
  have HB := Lib.hid ((Below.refl w.heap.size w).alloc (Nat.le_refl _) (.cells (manA m A k) 26))
  have HA := Lib.hid (at_new w 26 m A k)
  have HI := Lib.hid (manI m A k)
  generalize countM m = C at *
  go_enter Tryz.func31, Tryz.ntmps31
  go_wp2_with (with_reducible refine wpList_load_row rfl 26 _ rfl _ rfl 26 _ (0, 0) _ HA.out.cells Tryz.underlying26 rfl HI.out ?_)
  refine (HN.out _).mono ?_
  rintro e w1 ⟨rfl, b1⟩
  have HB1 := Lib.hid (HB.out.trans (b1.mono HB.out.size))
  clear b1
  go_wp2_with (fail)
  exact bodyPost_ret (results_tmp rfl _ _ _) rfl ⟨rfl, HB1.out⟩
namespace Mf
theorem end_min {s c f i : Nat} (hf : i * c = f) (hi : f < s) : min ((f : Int) + (c : Int)) (s : Int) = ((f + lenN s c i : Nat) : Int) := by
  unfold lenN
  rw [hf]
  omega
end Mf
set_option maxRecDepth 100000 in
set_option maxHeartbeats 1600000 in
theorem mf_span (w : World) (m : Man) (A : Option Addr) (k s c i : Nat) (hs : m.s = (s : Int)) (hc : m.c = (c : Int)) (hs1 : s ≤ 4096) (hc1 : c ≤ 256) (hl : i * c < s) :
    Calls Tryz.prog 61 #[.agg (manA m A k), .int .i64 (i : Int)] w fun e w' => e = .returned (.tuple #[.int .i64 ((i * c : Nat) : Int), .int .i64 ((i * c + lenN s c i : Nat) : Int)]) ∧ Below w.heap.size w w' := by
  have HB := Lib.hid ((Below.refl w.heap.size w).alloc (Nat.le_refl _) (.cells (manA m A k) 26))
  have h0 := at_new w 26 m A k
  have e2 := h0.size
  have e3 := h0.chunk
  rw [hs] at e2
  rw [hc] at e3
  have x0 : (i : Int) * (c : Int) = ((i * c : Nat) : Int) := by simp
  obtain ⟨f, hf⟩ : ∃ f, i * c = f := ⟨_, rfl⟩
  have HE := Lib.hid (end_min hf (by omega : f < s))
  rw [hf] at x0 hl ⊢
  have x1 : wrap64 ((i : Int) * (c : Int)) = (f : Int) := by rw [x0]; exact IntWalk.wrap64_in _ (by omega)
  have x2 := IntWalk.wrap64_in ((f : Int) + (c : Int)) (by omega)
  generalize lenN s c i = n at HE ⊢
  have HN := Lib.hid (show ((f + n : Nat) : Int) = min ((f : Int) + (c : Int)) (s : Int) from HE.out.symm)
  clear x0 hf hs hc h0 HE
  rw [HN.out]
  go_enter Tryz.func61, Tryz.ntmps61
  go_wp2_with (fail)
  go_quiet (fail)
  have HQ := Lib.hid (below_drewN HB.out nq)
  go_wp2_with (fail)
  refine bodyPost_ret (results_tmp2 rfl _ _ _) rfl ⟨?_, HQ.out⟩
  show Ending.returned (.tuple #[.int .i64 (wrap64 ((i : Int) * (c : Int))), .int .i64 (min ((f : Int) + (c : Int)) (s : Int))]) = _
  rw [x1]
set_option maxRecDepth 100000 in
set_option maxHeartbeats 1600000 in
theorem mf_length (w : World) (m : Man) (A : Option Addr) (k : Nat) (a : Int) : Calls Tryz.prog 63 #[.agg (manA m A k), .int .i64 a] w fun e w' => e = .returned (.int .i64 (lengthM m a : Int)) ∧ Below w.heap.size w w' := by
  have HN := Lib.hid (fun W => mf_count W m A k)
  have HB := Lib.hid ((Below.refl w.heap.size w).alloc (Nat.le_refl _) (.cells (manA m A k) 26))
  have HA := Lib.hid (at_new w 26 m A k)
  have HI := Lib.hid (manI m A k)
  by_cases h1 : a < 0
  · have t1 : decide (a < 0) = true := decide_eq_true h1
    have HL := Lib.hid (show lengthM m a = 0 from if_neg fun h => by omega)
    go_enter Tryz.func63, Tryz.ntmps63
    go_wp2_with (fail)
    refine bodyPost_ret (results_tmp rfl _ _ _) rfl ?_
    rw [HL.out]
    exact ⟨rfl, HB.out⟩
  have t1 : decide (a < 0) = false := decide_eq_false h1
  by_cases h2 : (countM m : Int) ≤ a
  · have t2 : decide ((countM m : Int) ≤ a) = true := decide_eq_true h2
    have HL := Lib.hid (show lengthM m a = 0 from if_neg fun h => by omega)
    generalize countM m = C at *
    clear h2
    go_enter Tryz.func63, Tryz.ntmps63
    go_wp2_with (refine wpList_load_row_g (by rfl) 26 _ rfl _ rfl 26 _ (0, 0) _ HA.out.cells Tryz.underlying26 rfl HI.out ?_)
    refine (HN.out _).mono ?_
    rintro e w1 ⟨rfl, b1⟩
    have HB1 := Lib.hid (HB.out.trans (b1.mono HB.out.size))
    clear b1
    go_wp2_with (fail)
    refine bodyPost_ret (results_tmp rfl _ _ _) rfl ?_
    rw [HL.out]
    exact ⟨rfl, HB1.out⟩
  · have t2 : decide ((countM m : Int) ≤ a) = false := decide_eq_false h2
    have h3 : 0 ≤ a ∧ a < (countM m : Int) := by omega
    obtain ⟨i, rfl⟩ : ∃ i : Nat, a = (i : Int) := ⟨a.toNat, by omega⟩
    have t3 : decide (countM m ≤ i) = false := decide_eq_false (by omega)
    obtain ⟨hg, hl, hcm⟩ := countM_good (m := m) (by omega)
    have hgi := headB_iff.1 hg
    obtain ⟨s, hs⟩ : ∃ s : Nat, m.s = (s : Int) := ⟨m.s.toNat, by omega⟩
    obtain ⟨c, hc⟩ : ∃ c : Nat, m.c = (c : Int) := ⟨m.c.toNat, by omega⟩
    rw [hs, hc] at hgi
    have hgi' : i < cntN s c := by
      have h5 := hl
      rw [hs, hc] at h5
      simp at h5
      omega
    have hic := (cntN_at (s := s) (c := c) (i := i) (by omega)).1 hgi'
    have HL := Lib.hid (show (lengthM m (i : Int) : Int) = (lenN s c i : Int) by
      unfold lengthM
      rw [if_pos h3, hs, hc]
      rfl)
    have HS := Lib.hid (fun W => mf_span W m A k s c i hs hc (by omega) (by omega) hic)
    obtain ⟨f, hf⟩ : ∃ f, i * c = f := ⟨_, rfl⟩
    have hln : lenN s c i ≤ 256 := by unfold lenN; omega
    rw [hf] at HS hic
    generalize lenN s c i = n at HS HL hln
    have x1 : ((f + n : Nat) : Int) - (f : Int) = (n : Int) := by omega
    have x2 : wrap64 (((f + n : Nat) : Int) - (f : Int)) = (n : Int) := by rw [x1]; exact IntWalk.wrap64_in _ (by omega)
    generalize ((f + n : Nat) : Int) = z at HS x1 x2
    generalize countM m = C at *
    clear x1 h2 h3 hg hl hcm hgi hgi' hs hc hf hic
    go_enter Tryz.func63, Tryz.ntmps63
    go_wp2_with (refine wpList_load_row_g (by rfl) 26 _ rfl _ rfl 26 _ (0, 0) _ HA.out.cells Tryz.underlying26 rfl HI.out ?_)
    refine (HN.out _).mono ?_
    rintro e w1 ⟨rfl, b1⟩
    have HA1 := Lib.hid (HA.out.keep b1)
    have HB1 := Lib.hid (HB.out.trans (b1.mono HB.out.size))
    clear b1
    go_wp2_with (with_reducible refine wpList_load_row rfl 26 _ rfl _ rfl 26 _ (0, 0) _ HA1.out.cells Tryz.underlying26 rfl HI.out ?_)
    refine (HS.out _).mono ?_
    rintro e w2 ⟨rfl, b2⟩
    have HB2 := Lib.hid (HB1.out.trans (b2.mono HB1.out.size))
    clear b2
    go_wp2_with (fail)
    refine bodyPost_ret (results_tmp rfl _ _ _) rfl ?_
    rw [HL.out]
    refine ⟨?_, HB2.out⟩
    show Ending.returned (.int .i64 (wrap64 (z - (f : Int)))) = _
    rw [x2]
end Go.Proofs.YtlechjpaldpgnaaGreatDoor
