/-
  The library's slices.Clone at entries: a row of one's own with the same cells. Condition: at most a thousand entries, which are there.
  Package step: Copy, and the library's slices.Clone of rows on which it stands. Conditions: the rows are there; each has 2^47 bytes at most.
  Numbers of 64 bits without sign, as a law cuts one to fewer than n. No program here. No conditions.
-/
import Derived.Test.YtlapinecmiacoaaMe12
import Derived.Test.YtlapinecmiacoaaMe14
import Derived.Test.YtlapinecmiacoaaMe16
import Derived.Test.YtlapinecmiacoaaMe1
import Derived.Deep.AppendLies
import Derived.Lib.LazyBuf
import Derived.Deep.RegionHeld3
import Derived.IntWalk
set_option maxRecDepth 100000
namespace Go.Proofs.Ytlapinecmiacoaa
open Go.ChangeShapes Go.WideShapes Go.ChangeAt Go.RowKit Nm Cf Vc Br Sp

theorem info_entry' : (Try.prog.info? 36).map (fun i => (i.zero, i.size, i.bytes)) = some (some (.agg #[.slice none 0 0, .slice none 0 0]), 2, 48) := by kernel_rfl
end Go.Proofs.Ytlapinecmiacoaa
namespace Go.Proofs.Ytlapinecmiacoaa
open Go.ChangeShapes Go.WideShapes Go.ChangeAt Go.RowKit Cf Vc Br Sp Rf

theorem info_ints' : (Try.prog.info? 28).map (fun i => (i.zero, i.size, i.bytes)) = some (some (.slice none 0 0), 1, 24) := by kernel_rfl
namespace Sp
/-- A row's block isn't frozen. -/
def Uf (w : World) (A : Option Addr) (n : Nat) : Prop := 0 < n → ∀ a, A = some a → ∃ cs, w.heap[a.block]? = some (.cells cs 3 (0, 0))
theorem Uf.moved {w w' : World} {A : Option Addr} {n : Nat} (h : Uf w A n) (hb : 0 < n → ∀ a, A = some a → w'.heap[a.block]? = w.heap[a.block]?) : Uf w' A n := fun h0 a ha => by
  obtain ⟨cs, e⟩ := h h0 a ha
  exact ⟨cs, (hb h0 a ha).trans e⟩
theorem Uf.below {w w' : World} {A : Option Addr} {n : Nat} (h : Uf w A n) (hb : Below w.heap.size w w') : Uf w' A n := fun h0 a ha => by
  obtain ⟨cs, e⟩ := h h0 a ha
  exact ⟨cs, (hb.block _ (Array.getElem?_eq_some_iff.1 e).1).trans e⟩
theorem Uf.own {w : World} {N c : Nat} {A : Option Addr} {zs : List Int} (h : Own w N (.slice A zs.length c) zs) : Uf w A zs.length := fun h0 a ha => by
  rcases h.2 with ⟨_, e⟩ | ⟨g, cap, cur, e, _, hb, _⟩
  · omega
  · injection e with e1 _ _
    rw [ha] at e1
    injection e1 with e1
    subst e1
    exact ⟨cur, hb⟩
def ClSays (w : World) (zs : List Int) (e : Ending) (w' : World) : Prop := ∃ A c, e = .returned (.slice A zs.length c) ∧ KIn .i64 w' A zs ∧ zs.length ≤ c ∧ (∀ a, A = some a → w.heap.size ≤ a.block) ∧ Uf w' A zs.length ∧ Below w.heap.size w w'
end Sp
set_option maxRecDepth 100000 in
set_option maxHeartbeats 1600000 in
theorem clone_ints (w : World) (A : Option Addr) (c : Nat) (zs : List Int) (n : Nat) (hn : zs.length = n) (hm : n * 8 ≤ 140737488355328) (h : KIn .i64 w A zs) :
    Calls Try.prog 41 #[.slice A n c] w (ClSays w zs) := by
  obtain ⟨i0, hi, hz0, hz1, hz2⟩ := info_parts info_int
  have HI := Lib.hid hi
  have HZ0 := Lib.hid hz0
  have HZ1 := Lib.hid hz1
  have HZ2 := Lib.hid hz2
  have HLN := Lib.hid (show (icells zs).length = n * 1 by rw [icells_length, hn, Nat.mul_one])
  have HM := Lib.hid hm
  have HN := Lib.hid hn
  have HO1 := Lib.hid (icells_one zs)
  clear hi hz0 hz1 hz2 hm
  cases A with
  | none =>
    have h0 : n = 0 := Nat.eq_zero_of_not_pos fun h1 => by
      obtain ⟨_, _, e, _⟩ := h (by omega)
      cases e
    have heq : ∀ W : World, (binOp .eql 28 (.slice none n c) (.slice none 0 0)).run Try.prog W = .ok (.bool true) W := fun W => run_eql_slice_nil W _ _ none n c Try.underlying28
    have HQ := Lib.hid (show zs.length = 0 from by rw [hn, h0])
    have hzn : zs = [] := List.length_eq_zero_iff.1 HQ.out
    clear h h0 hn
    subst hzn
    go_enter Try.func41, Try.ntmps41
    go_wp2_with (fail)
    refine bodyPost_ret (results_tmp rfl _ _ _) rfl ?_
    exact ⟨none, 0, rfl, KIn.nil _ _ _, Nat.le_refl _, (fun a ha => by cases ha), (fun h0 => absurd h0 (Nat.lt_irrefl 0)), Below.refl _ _⟩
  | some a =>
    have hsrc : ∀ j u, (icells zs)[j]? = some u → (w.alloc (.cells #[] 3)).cell? (a.add j) = some u := fun j u hj => by
      have h1 := (List.getElem?_eq_some_iff.1 hj).1
      rw [icells_length] at h1
      obtain ⟨pb, po, e, hc⟩ := h (by omega)
      injection e with e
      rw [icells_at zs j h1] at hj
      injection hj with hj
      rw [e, Addr.add_lit, World.cell?_alloc_lt _ _ _ (block_lt_of_cell (hc j h1)), ← hj]
      exact hc j h1
    have heq : ∀ W : World, (binOp .eql 28 (.slice (some a) n c) (.slice none 0 0)).run Try.prog W = .ok (.bool false) W := fun W => run_eql_slice_nil W _ _ _ _ c Try.underlying28
    have HOWN := Lib.hid (show (w.alloc (.cells #[] 3)).ownsRow w.heap.size 3 1 (.slice (some ⟨w.heap.size, 0, none⟩) 0 0) 0 [] from World.ownsRow_made w #[] 0 (Nat.le_refl _) (Nat.zero_le _) rfl)
    have HSRC := Lib.hid hsrc
    clear hsrc h hn
    go_enter Try.func41, Try.ntmps41
    go_wp2_with (first
      | (with_reducible refine wpList_buildNone rfl 28 3 rfl i0 Try.underlying28 HI.out ?_)
      | (at_builtin; refine wpList_append_own _ rfl (.tmp 5) (.tmp 6) 28 rfl w.heap.size 3 i0 _ 1 8 Try.underlying28 HI.out HZ0.out HZ1.out HZ2.out rfl (by omega) (.slice (some ⟨w.heap.size, 0, none⟩) 0 0) 0 [] rfl HOWN.out a n c (icells zs) rfl HLN.out HSRC.out HO1.out (by have := HM.out; unfold maxLen; omega) (by have := HM.out; omega) (by simp) ?_; intro v9 w9 hown9 hg9 hnil))
    rw [Nat.zero_add, List.nil_append] at hown9
    have hb := ((Below.refl w.heap.size w).alloc (Nat.le_refl _) (.cells #[] 3)).grown hg9 (by simp) (fun k hk => by
      have : k = w.heap.size := by simpa [Value.ownBlock] using hk.symm
      omega)
    refine bodyPost_ret (results_tmp rfl _ _ _) rfl ?_
    have ho : Own w9 w.heap.size v9 zs := by
      unfold Own
      rw [HN.out]
      exact hown9
    obtain ⟨A9, c9, rfl⟩ := Own.slice ho
    exact ⟨A9, c9, rfl, Own.kin ho, own_capR ho, own_newR ho, Uf.own ho, hb⟩
namespace Sp
/-- Slices of rows in a row of their own, whose cells are turned one by one. -/
def LRow (W : World) (g : Nat) (B : Nat → Option Addr) (C : Nat → Nat) (L : List (List Int)) : Prop := ∃ cs, W.heap[g]? = some (.cells cs 28 (0, 0)) ∧ L.length ≤ cs.size ∧ ∀ i, i < L.length → cs[i]? = some (.slice (B i) (L.getD i []).length (C i))
namespace LRow
variable {W W' : World} {g : Nat} {B : Nat → Option Addr} {C : Nat → Nat} {L : List (List Int)}
theorem lt (h : LRow W g B C L) : g < W.heap.size := by obtain ⟨cs, h, _⟩ := h; exact (Array.getElem?_eq_some_iff.1 h).1
theorem below (h : LRow W g B C L) (b : Below W.heap.size W W') : LRow W' g B C L := by
  have hl := h.lt
  obtain ⟨cs, h, r⟩ := h
  exact ⟨cs, (b.block g hl).trans h, r⟩
theorem cell (h : LRow W g B C L) {i : Nat} (hi : i < L.length) : W.cell? ⟨g, i, none⟩ = some (.slice (B i) (L.getD i []).length (C i)) := by
  obtain ⟨cs, h, _, hc⟩ := h
  rw [cell_of_row W g i cs _ _ h]
  exact hc i hi
theorem fz (h : LRow W g B C L) (i : Nat) : W.frozen? ⟨g, i, none⟩ = false := by
  obtain ⟨cs, h, _⟩ := h
  exact frozen_of_row W g i _ _ h
theorem set (h : LRow W g B C L) {i : Nat} (hi : i < L.length) (A : Option Addr) (c : Nat) : LRow (W.setCell ⟨g, i, none⟩ (.slice A (L.getD i []).length c)) g (updF B i A) (updF C i c) L := by
  obtain ⟨cs, h, hs, hc⟩ := h
  refine ⟨_, Lib.heap_setCell_same h _, by rw [Array.size_setIfInBounds]; exact hs, fun j hj => ?_⟩
  rw [Array.getElem?_setIfInBounds]
  by_cases e : i = j
  · subst e
    rw [if_pos rfl, if_pos (by omega), updF_same, updF_same]
  · rw [if_neg e, updF_other _ _ _ (fun h => e h.symm), updF_other _ _ _ (fun h => e h.symm)]
    exact hc j hj
end LRow
end Sp
set_option maxRecDepth 100000 in
set_option maxHeartbeats 1600000 in
theorem clone_rows (w : World) (A : Option Addr) (c : Nat) (B : Nat → Option Addr) (C : Nat → Nat) (L : List (List Int)) (n : Nat) (hn : L.length = n) (hm : n ≤ 1000) (h : LIn w A B C L) :
    Calls Try.prog 40 #[.slice A n c] w fun e w' => ∃ v, e = .returned v ∧ w'.ownsRow w.heap.size 28 1 v n (lC B C L) ∧ Below w.heap.size w w' := by
  obtain ⟨i0, hi, hz0, hz1, hz2⟩ := info_parts info_ints'
  have HI := Lib.hid hi
  have HZ0 := Lib.hid hz0
  have HZ1 := Lib.hid hz1
  have HZ2 := Lib.hid hz2
  have HLN := Lib.hid (show (lC B C L).length = n * 1 by rw [lC_length, hn, Nat.mul_one])
  have HM := Lib.hid hm
  have HO1 := Lib.hid (show ∀ u ∈ lC B C L, u.oneCell' = true from fun u hu => by
    unfold lC at hu
    obtain ⟨i, _, rfl⟩ := List.mem_map.1 hu
    rfl)
  clear hi hz0 hz1 hz2 hm
  cases A with
  | none =>
    have h0 : n = 0 := Nat.eq_zero_of_not_pos fun h1 => by
      obtain ⟨_, _, e, _⟩ := h (by omega)
      cases e
    have heq : ∀ W : World, (binOp .eql 34 (.slice none n c) (.slice none 0 0)).run Try.prog W = .ok (.bool true) W := fun W => run_eql_slice_nil W _ _ none n c Try.underlying34
    have HQ := Lib.hid (show n = 0 ∧ lC B C L = [] from ⟨h0, List.length_eq_zero_iff.1 (by rw [HLN.out, h0])⟩)
    clear h h0 hn
    go_enter Try.func40, Try.ntmps40
    go_wp2_with (fail)
    refine bodyPost_ret (results_tmp rfl _ _ _) rfl ?_
    refine ⟨_, rfl, ?_, Below.refl _ _⟩
    rw [HQ.out.1, HQ.out.2]
    exact World.ownsRow_nil _ _ _ _
  | some a =>
    have hsrc : ∀ j u, (lC B C L)[j]? = some u → (w.alloc (.cells #[] 28)).cell? (a.add j) = some u := fun j u hj => by
      have h1 := (List.getElem?_eq_some_iff.1 hj).1
      rw [lC_length] at h1
      obtain ⟨pb, po, e, hc⟩ := h (by omega)
      injection e with e
      rw [lC_at h1] at hj
      injection hj with hj
      rw [e, Addr.add_lit, World.cell?_alloc_lt _ _ _ (block_lt_of_cell (hc j h1).1), ← hj]
      exact (hc j h1).1
    have heq : ∀ W : World, (binOp .eql 34 (.slice (some a) n c) (.slice none 0 0)).run Try.prog W = .ok (.bool false) W := fun W => run_eql_slice_nil W _ _ _ _ c Try.underlying34
    have HOWN := Lib.hid (show (w.alloc (.cells #[] 28)).ownsRow w.heap.size 28 1 (.slice (some ⟨w.heap.size, 0, none⟩) 0 0) 0 [] from World.ownsRow_made w #[] 0 (Nat.le_refl _) (Nat.zero_le _) rfl)
    have HSRC := Lib.hid hsrc
    clear hsrc h hn
    go_enter Try.func40, Try.ntmps40
    go_wp2_with (first
      | (with_reducible refine wpList_buildNone rfl 34 28 rfl i0 Try.underlying34 HI.out ?_)
      | (at_builtin; refine wpList_append_own _ rfl (.tmp 5) (.tmp 6) 34 rfl w.heap.size 28 i0 _ 1 24 Try.underlying34 HI.out HZ0.out HZ1.out HZ2.out rfl (by omega) (.slice (some ⟨w.heap.size, 0, none⟩) 0 0) 0 [] rfl HOWN.out a n c (lC B C L) rfl HLN.out HSRC.out HO1.out (by have := HM.out; unfold maxLen; omega) (by have := HM.out; omega) (by simp) ?_; intro v9 w9 hown9 hg9 hnil))
    rw [Nat.zero_add, List.nil_append] at hown9
    have hb := ((Below.refl w.heap.size w).alloc (Nat.le_refl _) (.cells #[] 28)).grown hg9 (by simp) (fun k hk => by
      have : k = w.heap.size := by simpa [Value.ownBlock] using hk.symm
      omega)
    refine bodyPost_ret (results_tmp rfl _ _ _) rfl ?_
    exact ⟨_, rfl, hown9, hb⟩
namespace Sp
theorem lrow_of {W : World} {N g cap n : Nat} {B : Nat → Option Addr} {C : Nat → Nat} {L : List (List Int)} (h : W.ownsRow N 28 1 (.slice (some ⟨g, 0, none⟩) n cap) n (lC B C L)) (hn : L.length = n) : LRow W g B C L := by
  rcases h.2 with ⟨e, _⟩ | ⟨g', cap', cur, e, _, hb, hc, _, hs, ht⟩
  · cases e
  · injection e with e1 e2 e3
    injection e1 with e1
    injection e1 with e1
    subst e1
    refine ⟨cur, hb, by omega, fun i hi => ?_⟩
    have hj := lC_at (B := B) (C := C) hi
    rw [← ht] at hj
    rw [List.getElem?_take_of_lt (by omega)] at hj
    rw [← Array.getElem?_toList]
    exact hj
/-- Where a copy's rows lie. -/
structure CRow (w : World) (g : Nat) (L : List (List Int)) (j : Nat) (W : World) (B : Nat → Option Addr) (C : Nat → Nat) : Prop where
  row : LRow W g B C L
  kin : ∀ k, k < L.length → KIn .i64 W (B k) (L.getD k [])
  off : ∀ k, k < L.length → Ft (· ≠ g) (B k) (L.getD k []).length
  new : ∀ k, k < j → ∀ a, B k = some a → w.heap.size ≤ a.block
  cap : ∀ k, k < j → (L.getD k []).length ≤ C k
  uf : ∀ k, k < j → Uf W (B k) (L.getD k []).length
  below : Below w.heap.size w W
theorem CRow.put {w W W2 : World} {g : Nat} {L : List (List Int)} {j : Nat} {B : Nat → Option Addr} {C : Nat → Nat} {A : Option Addr} {c : Nat} (h : CRow w g L j W B C) (hg : w.heap.size ≤ g) (hj : j < L.length) (hb : Below W.heap.size W W2) (hk : KIn .i64 W2 A (L.getD j [])) (hn : ∀ a, A = some a → W.heap.size ≤ a.block) (hc : (L.getD j []).length ≤ c) (hf : Uf W2 A (L.getD j []).length) :
    CRow w g L (j + 1) (W2.setCell ⟨g, j, none⟩ (.slice A (L.getD j []).length c)) (updF B j A) (updF C j c) := by
  have hs : ∀ i, i ≠ g → (W2.setCell ⟨g, j, none⟩ (.slice A (L.getD j []).length c)).heap[i]? = W2.heap[i]? := fun i hi => heap_setCell_other _ ⟨g, j, none⟩ i _ hi
  have hgl := h.row.lt
  have hfa : Ft (· ≠ g) A (L.getD j []).length := fun _ a ha e => by have := hn a ha; omega
  refine ⟨(h.row.below hb).set hj A c, fun k hk' => ?_, fun k hk' => ?_, fun k hk' a ha => ?_, fun k hk' => ?_, fun k hk' => ?_, (h.below.trans (hb.mono h.below.size)).setCell (p := ⟨g, j, none⟩) hg _⟩
  · by_cases e : k = j
    · subst e
      rw [updF_same]
      exact KIn.moved hk hfa hs
    · rw [updF_other _ _ _ e]
      exact KIn.moved ((h.kin k hk').below hb (Nat.le_refl _)) (h.off k hk') hs
  · by_cases e : k = j
    · subst e
      rw [updF_same]
      exact hfa
    · rw [updF_other _ _ _ e]
      exact h.off k hk'
  · by_cases e : k = j
    · subst e
      rw [updF_same] at ha
      exact Nat.le_trans h.below.size (hn a ha)
    · rw [updF_other _ _ _ e] at ha
      exact h.new k (by omega) a ha
  · by_cases e : k = j
    · subst e
      rw [updF_same]
      exact hc
    · rw [updF_other _ _ _ e]
      exact h.cap k (by omega)
  · by_cases e : k = j
    · subst e
      rw [updF_same]
      exact hf.moved fun h0 a ha => hs _ (hfa h0 a ha)
    · rw [updF_other _ _ _ e]
      exact ((h.uf k (by omega)).below hb).moved fun h0 a ha => hs _ (h.off k (by omega) h0 a ha)
/-- A copy of rows, of one's own memory. -/
def CpSays (w : World) (L : List (List Int)) (e : Ending) (w' : World) : Prop := ∃ A c B C, e = .returned (.slice A L.length c) ∧ LOn (w.heap.size ≤ ·) w' A B C L ∧ (∀ k, k < L.length → Uf w' (B k) (L.getD k []).length) ∧ Below w.heap.size w w'
end Sp
set_option maxRecDepth 100000 in
set_option maxHeartbeats 3200000 in
theorem step_copied (w : World) (A : Option Addr) (c : Nat) (B : Nat → Option Addr) (C : Nat → Nat) (L : List (List Int)) (n : Nat) (hn : L.length = n) (hm : n ≤ 1000) (hz : ∀ i, i < n → (L.getD i []).length * 8 ≤ 140737488355328) (h : LIn w A B C L) :
    Calls Try.prog 39 #[.slice A n c] w (CpSays w L) := by
  have HC := Lib.hid (clone_rows w A c B C L n hn hm h)
  have HN := Lib.hid hn
  have HZ := Lib.hid hz
  have HH := Lib.hid h
  have HCI := Lib.hid (fun W A c zs n h1 h2 h3 => clone_ints W A c zs n h1 h2 h3)
  clear h
  go_enter Try.func39, Try.ntmps39
  go_wp2_with (fail)
  refine HC.out.mono ?_
  rintro e w1 ⟨v, rfl, own1, b1⟩
  have HB1 := Lib.hid b1
  have HOW := Lib.hid own1
  clear b1 HC
  by_cases h0 : n = 0
  · subst h0
    obtain ⟨A1, c1, rfl⟩ : ∃ A1 c1, v = .slice A1 0 c1 := by
      rcases own1.2 with ⟨e, _⟩ | ⟨g, cap, cur, e, _⟩
      · exact ⟨none, 0, e⟩
      · exact ⟨_, cap, e⟩
    have hL : L = [] := List.length_eq_zero_iff.1 hn
    subst hL
    go_wp2_with (fail)
    go_loopw [10] (fun i wr => i = .int .i64 0 ∧ Below w.heap.size w wr) (fun _ _ => 0)
    case atStart => exact ⟨rfl, HB1.out⟩
    case round =>
      obtain ⟨rfl, hb⟩ := hrel
      go_wp2_with (fail)
      refine bodyPost_ret (results_tmp rfl _ _ _) rfl ?_
      exact ⟨A1, c1, B, C, rfl, LOn.nil _ _ _ _ _, (fun k hk => absurd hk (Nat.not_lt_zero k)), hb⟩
  · obtain ⟨g, cap, rfl, hg0, hg1⟩ := own1.form (by omega)
    have HG := Lib.hid (And.intro hg0 hg1)
    have HR0 := Lib.hid (show CRow w g L 0 w1 B C from ⟨lrow_of own1 hn, fun k hk => by
        obtain ⟨pb, po, _, _, hk2⟩ := HH.out.at hk
        exact hk2.below HB1.out (Nat.le_refl _), fun k hk h1 a ha e => by
        obtain ⟨pb, po, _, _, hk2⟩ := HH.out.at hk
        have := KIn.low hk2 h1 a ha
        omega, fun k hk => absurd hk (Nat.not_lt_zero k), fun k hk => absurd hk (Nat.not_lt_zero k), fun k hk => absurd hk (Nat.not_lt_zero k), HB1.out⟩)
    clear own1 hg0 hg1 h0 HOW
    go_wp2_with (fail)
    go_loopw [10] (fun i wr => ∃ (j : Nat) (B' : Nat → Option Addr) (C' : Nat → Nat), i = .int .i64 (j : Int) ∧ j ≤ n ∧ CRow w g L j wr B' C') (fun i _ => match i with | .int _ k => n - k.toNat | _ => 0)
    case atStart => exact ⟨0, B, C, rfl, Nat.zero_le _, HR0.out⟩
    case round =>
      clear HR0 HB1
      obtain ⟨j, B', C', rfl, hj, hr⟩ := hrel
      have HR := Lib.hid hr
      have x2 : 0 ≤ (j : Int) := by omega
      by_cases hlt : j < n
      · have x0 : (j : Int) < (n : Int) := by omega
        have x1 : decide ((j : Int) < (n : Int)) = true := decide_eq_true x0
        have hjl : j < L.length := by rw [hn]; exact hlt
        have k0 := hr.row.cell hjl
        have HKI := Lib.hid (HCI.out wr (B' j) (C' j) (L.getD j []) (L.getD j []).length rfl (hz j hlt) (hr.kin j hjl))
        have HPUT := Lib.hid (fun W2 A c hb hk hnn hc hf => hr.put (W2 := W2) (A := A) (c := c) HG.out.1 hjl hb hk hnn hc hf)
        have HRB := Lib.hid (fun W2 (hb : Below wr.heap.size wr W2) => (And.intro ((hr.row.below hb).cell hjl) ((hr.row.below hb).fz j)))
        have HJ := Lib.hid (show j + 1 ≤ n by omega)
        have HW1 := Lib.hid (IntWalk.wrap64_in ((j : Int) + 1) (by omega))
        generalize L.getD j [] = l at k0 HKI HPUT HRB
        generalize B' j = Bj at k0 HKI HRB
        generalize C' j = Cj at k0 HKI HRB
        unfold ClSays at HKI
        clear hr hlt hjl hz
        go_wp2_with (go_at_call 41; refine HKI.out.mono ?_; rintro e w2 ⟨A2, c2, rfl, k2, l2, n2, f2, b2⟩; have HP2 := Lib.hid (HPUT.out w2 A2 c2 b2 k2 n2 l2 f2); obtain ⟨q0, q1⟩ := HRB.out w2 b2; clear k2 l2 n2 f2 b2)
        try rw [HW1.out]
        exact ⟨⟨j + 1, _, _, rfl, HJ.out, HP2.out⟩, vcLess j n HJ.out⟩
      · have hje : j = n := by omega
        subst hje
        have x0 : ¬ (j : Int) < (j : Int) := by omega
        have x1 : decide ((j : Int) < (j : Int)) = false := decide_eq_false x0
        go_wp2_with (fail)
        refine bodyPost_ret (results_tmp rfl _ _ _) rfl ?_
        have h := HR.out
        refine ⟨some ⟨g, 0, none⟩, cap, B', C', by rw [hn]; rfl, ⟨fun _ => ⟨g, 0, rfl, fun i hi => ⟨by rw [Nat.zero_add]; exact h.row.cell hi, h.kin i hi⟩⟩, fun _ a ha => ?_, fun i hi _ a ha => h.new i (by omega) a ha, fun i hi => h.cap i (by omega)⟩, (fun k hk => h.uf k (by omega)), h.below⟩
        injection ha with ha
        rw [← ha]
        exact HG.out.1
namespace Sp
/-- Rows that a machine holds. -/
structure EntSized (e : Ent) : Prop where
  k : e.ks.length ≤ 1000
  v : e.vs.length ≤ 1000
  ks : ∀ i, i < e.ks.length → (e.ks.getD i []).length * 8 ≤ 140737488355328
  vs : ∀ i, i < e.vs.length → (e.vs.getD i []).length * 8 ≤ 140737488355328
theorem EntSized.fit {e : Ent} (h : EntSized e) : EntFit e := ⟨by have := h.k; omega, by have := h.v; omega, fun i hi => by have := h.ks i hi; omega, fun i hi => by have := h.vs i hi; omega⟩
/-- What Copy answers. -/
def CySays (w : World) (e : Ent) (z : Ending) (w' : World) : Prop := ∃ r, z = .returned (eV r e) ∧ EOn (fun _ => True) w' r e ∧ Below w.heap.size w w'
/-- The same, and that the copy's rows are new. -/
def CyNew (w : World) (e : Ent) (z : Ending) (w' : World) : Prop := ∃ r, z = .returned (eV r e) ∧ EOn (w.heap.size ≤ ·) w' r e ∧ (∀ k, k < e.vs.length → Uf w' (r.vB k) (e.vs.getD k []).length) ∧ Below w.heap.size w w'
theorem lon_below {p : Nat → Prop} {w w' : World} {A : Option Addr} {B : Nat → Option Addr} {C : Nat → Nat} {L : List (List Int)} (h : LOn p w A B C L) (hb : Below w.heap.size w w') : LOn p w' A B C L :=
  (((LOn.new h.is h.cap).also h).moved fun j hj => hb.block j hj.1).mono fun _ hj => hj.2
theorem copy_keeps {W : World} {g : Nat} {a b : Value} (h : W.heap[g]? = some (.cells #[a, b] 36 (0, 0))) (p q : Value) : ((W.setCell ⟨g + 1, 0, none⟩ p).setCell ⟨g + 1, 1, none⟩ q).cell? ⟨g, 0, none⟩ = some a ∧ ((W.setCell ⟨g + 1, 0, none⟩ p).setCell ⟨g + 1, 1, none⟩ q).cell? ⟨g, 1, none⟩ = some b := by
  have h2 : ((W.setCell ⟨g + 1, 0, none⟩ p).setCell ⟨g + 1, 1, none⟩ q).heap[g]? = some (enO a b) := (heap_setCell_other _ ⟨g + 1, 1, none⟩ g _ (by show g ≠ g + 1; omega)).trans ((heap_setCell_other _ ⟨g + 1, 0, none⟩ g _ (by show g ≠ g + 1; omega)).trans h)
  exact ⟨en0 h2, en1 h2⟩
end Sp
set_option maxRecDepth 100000 in
set_option maxHeartbeats 3200000 in
theorem step_copy_new (w : World) (r : Er) (e : Ent) (he : EOn (fun _ => True) w r e) (hz : EntSized e) : Calls Try.prog 34 #[eV r e] w (CyNew w e) := by
  have HK := Lib.hid (fun W (hW : Below w.heap.size w W) => step_copied W r.kA r.kc r.kB r.kC e.ks e.ks.length rfl hz.k hz.ks (he.k.is.below hW (Nat.le_refl _)))
  have HV := Lib.hid (fun W (hW : Below w.heap.size w W) => step_copied W r.vA r.vc r.vB r.vC e.vs e.vs.length rfl hz.v hz.vs (he.v.is.below hW (Nat.le_refl _)))
  have hb0 : Below w.heap.size w ((w.alloc (.cells #[.slice r.kA e.ks.length r.kc, .slice r.vA e.vs.length r.vc] 36)).alloc (.cells #[.slice none 0 0, .slice none 0 0] 36)) := ((Below.refl _ _).alloc (Nat.le_refl _) _).alloc (by simp) _
  have h1 : ((w.alloc (.cells #[.slice r.kA e.ks.length r.kc, .slice r.vA e.vs.length r.vc] 36)).alloc (.cells #[.slice none 0 0, .slice none 0 0] 36)).heap[w.heap.size]? = some (.cells #[.slice r.kA e.ks.length r.kc, .slice r.vA e.vs.length r.vc] 36 (0, 0)) := (heap_alloc_old _ _ (by simp)).trans (heap_alloc_new w _)
  have h2 := heap_alloc_new (w.alloc (.cells #[.slice r.kA e.ks.length r.kc, .slice r.vA e.vs.length r.vc] 36)) (.cells #[.slice none 0 0, .slice none 0 0] 36)
  rw [World.size_alloc] at h2
  have HB0 := Lib.hid hb0
  have H1 := Lib.hid h1
  have H2 := Lib.hid h2
  unfold CpSays at HK HV
  unfold eV
  clear he hz hb0 h1 h2
  go_enter Try.func34, Try.ntmps34
  go_wp2_with (fail)
  generalize (w.alloc (.cells #[.slice r.kA e.ks.length r.kc, .slice r.vA e.vs.length r.vc] 36)).alloc (.cells #[.slice none 0 0, .slice none 0 0] 36) = w1 at HB0 H1 H2 ⊢
  have HBD := Lib.hid (show Below w1.heap.size w1 w1.drew from below_drewN (Below.refl w1.heap.size w1) 1)
  have HCL := Lib.hid (fun (W : World) (hW : Below w1.heap.size w1 W) => (And.intro (en0 (Rf.stays H1.out hW)) (en1 (Rf.stays H1.out hW))))
  have k0 := HCL.out _ HBD.out
  go_region_held3 (fun W : World => W.cell? ⟨w.heap.size, 0, none⟩ = some (.slice r.kA e.ks.length r.kc) ∧ W.cell? ⟨w.heap.size, 1, none⟩ = some (.slice r.vA e.vs.length r.vc)) (first | exact k0 | assumption | exact K5.out _ _) (first
    | (go_at_call 39; (with_reducible refine (HK.out _ (HB0.out.trans (HBD.out.mono HB0.out.size))).mono ?_); rintro z w3 ⟨A3, c3, B3, C3, rfl, l3, _, b3⟩; have HB3 := Lib.hid (HBD.out.trans (b3.mono HBD.out.size)); have HL3 := Lib.hid l3; have k3 := HCL.out _ HB3.out; clear l3 b3)
    | (go_at_call 39; (with_reducible refine (HV.out _ (HB0.out.trans (HB3.out.mono HB0.out.size))).mono ?_); rintro z w4 ⟨A4, c4, B4, C4, rfl, l4, u4, b4⟩; have HUF := Lib.hid u4; have HB4 := Lib.hid (HB3.out.trans (b4.mono HB3.out.size)); have HL4 := Lib.hid l4; have HL34 := Lib.hid (lon_below HL3.out b4); have k4 := HCL.out _ HB4.out; have H24 := Lib.hid (Rf.stays H2.out HB4.out); have g0 := en0 H24.out; have g1 := en1 H24.out; have g2 := enFz H24.out; have H14 := Lib.hid (Rf.stays H1.out HB4.out); have K5 := Lib.hid (fun p q => copy_keeps H14.out p q); clear l4 u4 b4))
  have HEQ := Lib.hid (show EOn (w.heap.size ≤ ·) ((w4.setCell ⟨w.heap.size + 1, 0, none⟩ (.slice A3 e.ks.length c3)).setCell ⟨w.heap.size + 1, 1, none⟩ (.slice A4 e.vs.length c4)) ⟨A3, c3, B3, C3, A4, c4, B4, C4⟩ e from
    have hs : ∀ j, w1.heap.size ≤ j → ((w4.setCell ⟨w.heap.size + 1, 0, none⟩ (.slice A3 e.ks.length c3)).setCell ⟨w.heap.size + 1, 1, none⟩ (.slice A4 e.vs.length c4)).heap[j]? = w4.heap[j]? := fun j hj => by
      have hl := (Array.getElem?_eq_some_iff.1 H2.out).1
      exact (heap_setCell_other _ ⟨w.heap.size + 1, 1, none⟩ j _ (by show j ≠ w.heap.size + 1; omega)).trans (heap_setCell_other _ ⟨w.heap.size + 1, 0, none⟩ j _ (by show j ≠ w.heap.size + 1; omega))
    ⟨((HL34.out.mono (q := fun j => w1.heap.size ≤ j) fun _ hj => hj).moved hs).mono fun _ hj => Nat.le_trans HB0.out.size hj, ((HL4.out.mono (q := fun j => w1.heap.size ≤ j) fun _ hj => Nat.le_trans HB3.out.size hj).moved hs).mono fun _ hj => Nat.le_trans HB0.out.size hj⟩)
  have HBE := Lib.hid (show Below w.heap.size w ((w4.setCell ⟨w.heap.size + 1, 0, none⟩ (.slice A3 e.ks.length c3)).setCell ⟨w.heap.size + 1, 1, none⟩ (.slice A4 e.vs.length c4)) from ((HB0.out.trans (HB4.out.mono HB0.out.size)).setCell (p := ⟨w.heap.size + 1, 0, none⟩) (Nat.le_succ _) _).setCell (p := ⟨w.heap.size + 1, 1, none⟩) (Nat.le_succ _) _)
  go_wp2_with (fail)
  refine bodyPost_ret (results_cell_row rfl _ _ _ 36 _ _ _ rfl (set2 H24.out _ _) Try.underlying36 rfl (enI _ _)) rfl ?_
  refine ⟨⟨A3, c3, B3, C3, A4, c4, B4, C4⟩, rfl, HEQ.out, fun k hk => (HUF.out k hk).moved fun h0 a ha => ?_, HBE.out⟩
  have h1 := HL4.out.there k hk h0 a ha
  have h2 := (Array.getElem?_eq_some_iff.1 H2.out).1
  have h3 := HB3.out.size
  exact (heap_setCell_other _ ⟨w.heap.size + 1, 1, none⟩ a.block _ (by show a.block ≠ w.heap.size + 1; omega)).trans (heap_setCell_other _ ⟨w.heap.size + 1, 0, none⟩ a.block _ (by show a.block ≠ w.heap.size + 1; omega))
theorem step_copy (w : World) (r : Er) (e : Ent) (he : EOn (fun _ => True) w r e) (hz : EntSized e) : Calls Try.prog 34 #[eV r e] w (CySays w e) :=
  (step_copy_new w r e he hz).mono fun _ _ ⟨r2, h1, h2, _, h3⟩ => ⟨r2, h1, h2.mono fun _ _ => trivial, h3⟩
end Go.Proofs.Ytlapinecmiacoaa
namespace Go.Proofs.Ytlapinecmiacoaa
open Go.RowKit

namespace Sp
theorem u64_ge (x : Int) : 0 ≤ IntKind.u64.wrap x := by
  simp [IntKind.wrap, IntKind.bits, IntKind.signed]
  omega
theorem u64_in (n : Nat) (hn : n ≤ 1000000) : IntKind.u64.wrap (n : Int) = (n : Int) := by
  simp [IntKind.wrap, IntKind.bits, IntKind.signed]
  omega
theorem cut64 (x : Int) (n : Nat) (hn : 0 < n) : ∃ i : Nat, i < n ∧ (IntKind.u64.wrap x).tmod (n : Int) = (i : Int) := by
  have h := u64_ge x
  have h1 := Int.tmod_nonneg (n : Int) h
  have h2 := Int.tmod_lt_of_pos (IntKind.u64.wrap x) (show (0 : Int) < (n : Int) by omega)
  exact ⟨((IntKind.u64.wrap x).tmod (n : Int)).toNat, by omega, by omega⟩
end Sp
end Go.Proofs.Ytlapinecmiacoaa
