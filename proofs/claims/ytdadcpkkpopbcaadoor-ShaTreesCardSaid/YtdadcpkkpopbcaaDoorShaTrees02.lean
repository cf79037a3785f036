/-
  Proved: ShaTrees: a tree of up to sixteen sums, parted at 1, 2, 4 or 8, is the pair of both parts' trees. Condition (the card ties it): both tables lie as the program's text lays them.
-/
import Derived.Test.YtdadcpkkpopbcaaDoorShaTreeN
import Derived.Test.YtdadcpkkpopbcaaDoorShaEq
import Derived.Test.YtdadcpkkpopbcaaDoorShaAwake
import Derived.Deep.RegionHeld3
namespace Go.Proofs.YtdadcpkkpopbcaaDoor.shaTrees
open Go.ChangeShapes Go.WideShapes Go.ChangeAt Go.RowKit Sh

theorem quarter (x : Int) : ∃ s : Nat, s < 4 ∧ (IntKind.u64.wrap x).tmod 4 = (s : Int) := by
  have h := wrap_u64_nonneg x
  have h1 := Int.tmod_nonneg 4 h
  have h2 := Int.tmod_lt_of_pos (IntKind.u64.wrap x) (show (0 : Int) < 4 by omega)
  exact ⟨((IntKind.u64.wrap x).tmod 4).toNat, by omega, by omega⟩
/-- Sums that lie one by one lie as a row. -/
theorem digs_of {w : World} {b o len : Nat} {F : Nat → Nat → UInt8} (h : ∀ i, i < len → w.rangeAt b (o + 32 * i) (digF (F i)).toList) : DigsAt w b o ((List.range len).map F) := by
  intro j u hj
  have hl := (List.getElem?_eq_some_iff.1 hj).1
  rw [dcells_length, List.length_map, List.length_range] at hl
  have hq : j / 32 < len := by omega
  have hr : j % 32 < 32 := by omega
  have e : j = j / 32 * 32 + j % 32 := by omega
  rw [e, dcells_at _ (j / 32) (j % 32) (by rw [List.length_map, List.length_range]; exact hq) hr] at hj
  rw [List.getElem_map, List.getElem_range] at hj
  have := h (j / 32) hq (j % 32) u hj
  rw [show o + j = o + 32 * (j / 32) + j % 32 by omega]
  exact this
theorem digs_part {w : World} {b o : Nat} {l m : List (Nat → UInt8)} (h : DigsAt w b o (l ++ m)) : DigsAt w b o l ∧ DigsAt w b (o + 32 * l.length) m := by
  constructor
  · intro j u hj
    refine h j u ?_
    rw [dcells_append, List.getElem?_append_left (List.getElem?_eq_some_iff.1 hj).1]
    exact hj
  · intro j u hj
    rw [show o + 32 * l.length + j = o + (32 * l.length + j) by omega]
    refine h _ u ?_
    rw [dcells_append, List.getElem?_append_right (by rw [dcells_length]; omega), dcells_length, Nat.add_sub_cancel_left]
    exact hj

set_option maxRecDepth 100000 in
set_option maxHeartbeats 3200000 in
theorem walk (A : Option Addr) (len cap : Nat) (F : Nat → Nat → UInt8) (x : Int) (w : World) (hT : Tabs w) (hl : len ≤ cap)
    (hA : 0 < len → ∃ b o, A = some ⟨b, o, none⟩ ∧ ∀ i, i < len → w.rangeAt b (o + 32 * i) (digF (F i)).toList) :
    Calls Tryd.prog 7 #[.slice A len cap, .int .i64 x] w fun e w' => e = .returned (.bool true) ∧ Below w.heap.size w w' := by
  have HT := Lib.hid hT
  have HA := Lib.hid hA
  clear hT hA
  obtain ⟨s, hs, es⟩ := quarter x
  go_enter Tryd.func7, Tryd.ntmps7
  go_wp2_with (fail)
  refine (awake_any w HT.out).mono ?_
  rintro e w1 ⟨rfl, b1⟩
  have s1 := b1.size
  have HB := Lib.hid b1
  clear b1
  obtain ⟨N, hN⟩ : ∃ N, N = 2 ^ s := ⟨_, rfl⟩
  have hN1 : 1 ≤ N ∧ N ≤ 8 := by
    match s, hs with
    | 0, _ => omega
    | 1, _ => omega
    | 2, _ => omega
    | 3, _ => omega
  have HN := Lib.hid hN
  have ew : wrap64 ((2 : Int) ^ s) = (N : Int) := by
    rw [show ((2 : Int) ^ s) = (N : Int) by rw [hN]; simp]
    exact IntWalk.wrap64_in _ ⟨by omega, by omega⟩
  have ew2 : wrap64 (2 * (N : Int)) = 2 * (N : Int) := IntWalk.wrap64_in _ ⟨by omega, by omega⟩
  clear hN
  by_cases h1 : len ≤ N
  · have x0 : (len : Int) ≤ (N : Int) := by omega
    have x1 : decide ((len : Int) ≤ (N : Int)) = true := decide_eq_true x0
    go_wp2_with (fail)
    go_ret
    exact ⟨rfl, HB.out⟩
  by_cases h2 : 2 * N < len
  · have x0 : ¬ (len : Int) ≤ (N : Int) := by omega
    have x1 : decide ((len : Int) ≤ (N : Int)) = false := decide_eq_false x0
    have x2 : 2 * (N : Int) < (len : Int) := by omega
    have x3 : decide (2 * (N : Int) < (len : Int)) = true := decide_eq_true x2
    go_wp2_with (fail)
    go_ret
    exact ⟨rfl, HB.out⟩
  have x0 : ¬ (len : Int) ≤ (N : Int) := by omega
  have x1 : decide ((len : Int) ≤ (N : Int)) = false := decide_eq_false x0
  have x2 : ¬ 2 * (N : Int) < (len : Int) := by omega
  have x3 : decide (2 * (N : Int) < (len : Int)) = false := decide_eq_false x2
  obtain ⟨b, o, rfl, hc⟩ := HA.out (by omega)
  have hat := digs_of hc
  have hLL : ((List.range len).map F).length = len := by rw [List.length_map, List.length_range]
  generalize (List.range len).map F = L at hat hLL
  have hb : b < w.heap.size := block_lt_of_cell (hat 0 ((dcells L)[0]'(by rw [dcells_length]; omega)) (List.getElem?_eq_getElem _))
  obtain ⟨L1, hL1⟩ : ∃ l, l = L.take N := ⟨_, rfl⟩
  obtain ⟨L2, hL2⟩ : ∃ l, l = L.drop N := ⟨_, rfl⟩
  have hsp : L = L1 ++ L2 := by rw [hL1, hL2, List.take_append_drop]
  have hl1 : L1.length = N := by rw [hL1, List.length_take]; omega
  have hl2 : L2.length = len - N := by rw [hL2, List.length_drop]; omega
  have hj : treeD L = pr (treeD L1) (treeD L2) := by
    rw [hsp]
    exact treeD_join s L1 L2 (by rw [hl1, HN.out]) (by omega) (by rw [← HN.out]; omega)
  have hp := hat
  rw [hsp] at hp
  have hp1 := (digs_part hp).1
  have hp2 := (digs_part hp).2
  rw [hl1, Nat.mul_comm] at hp2
  have c1 := Lib.hid (show ∀ W, Below w.heap.size w W → Calls Tryd.prog 14 #[.slice (some ⟨b, o, none⟩) len cap] W fun e W' => e = .returned (.agg (digF (treeD L))) ∧ Below W.heap.size W W' from
    fun W hW => tree_any W L b o len cap hLL.symm (by omega) (by omega) hl (HT.out.below hW) (hat.keep hW hb))
  have c2 := Lib.hid (show ∀ W, Below w.heap.size w W → Calls Tryd.prog 14 #[.slice (some ⟨b, o, none⟩) N cap] W fun e W' => e = .returned (.agg (digF (treeD L1))) ∧ Below W.heap.size W W' from
    fun W hW => tree_any W L1 b o N cap hl1.symm (by omega) (by omega) (by omega) (HT.out.below hW) (hp1.keep hW hb))
  have c3 := Lib.hid (show ∀ W, Below w.heap.size w W → Calls Tryd.prog 14 #[.slice (some ⟨b, o + N * 32, none⟩) (len - N) (cap - N)] W fun e W' => e = .returned (.agg (digF (treeD L2))) ∧ Below W.heap.size W W' from
    fun W hW => tree_any W L2 b _ (len - N) (cap - N) hl2.symm (by omega) (by omega) (by omega) (HT.out.below hW) (hp2.keep hW hb))
  have c4 := Lib.hid (show ∀ W, Below w.heap.size w W → Calls Tryd.prog 12 #[.agg (digF (treeD L1)), .agg (digF (treeD L2))] W fun e W' => e = .returned (.agg (digF (treeD L))) ∧ Below W.heap.size W W' from
    fun W hW => by
      rw [hj]
      exact pair_any (treeD L1) (treeD L2) W (HT.out.below hW))
  clear hj hp hp1 hp2 hat hsp hL1 hL2 hc hLL hl1 hl2
  generalize treeD L1 = T1 at c2 c4
  generalize treeD L2 = T2 at c3 c4
  generalize treeD L = T at c1 c4
  have E : ∀ W, (binOp .eql 25 (.agg (digF T)) (.agg (digF T))).run Tryd.prog W = .ok (.bool true) W := fun W => by rw [run_eql_dig, same_refl]
  have n0 : ¬ cap = N := by omega
  have n1 : N ≤ cap := by omega
  have n2 : N ≤ len := by omega
  have n3 : (N : Int) ≤ (cap : Int) := by omega
  have n4 : (N : Int) ≤ (len : Int) := by omega
  go_wp2_with (fail)
  go_region_held3 (fun W : World => Below w.heap.size w W) (first | exact below_drewN HB.out 1 | (with_reducible assumption) | exact Below.trans (by assumption) (Below.mono (by assumption) (Below.size (by assumption)))) (first
    | (go_at_call 14; (with_reducible refine (c1.out _ (by assumption)).mono ?_); rintro e w' ⟨rfl, hb'⟩)
    | (go_at_call 14; (with_reducible refine (c2.out _ (by assumption)).mono ?_); rintro e w' ⟨rfl, hb'⟩)
    | (go_at_call 14; (with_reducible refine (c3.out _ (by assumption)).mono ?_); rintro e w' ⟨rfl, hb'⟩)
    | (go_at_call 12; (with_reducible refine (c4.out _ (by assumption)).mono ?_); rintro e w' ⟨rfl, hb'⟩))
  all_goals
    go_wp2
    go_ret
    exact ⟨rfl, by assumption⟩
end Go.Proofs.YtdadcpkkpopbcaaDoor.shaTrees
