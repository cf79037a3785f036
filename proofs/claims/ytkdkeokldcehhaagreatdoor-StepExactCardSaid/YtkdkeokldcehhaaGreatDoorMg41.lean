/-
  Entries that come in, raw ones too; how many bytes their rows may have. No program's function here. No conditions.
-/
import Derived.Test.YtkdkeokldcehhaaGreatDoorMg28
import Derived.Test.YtkdkeokldcehhaaGreatDoorMg40
import Derived.Deep.SlicePairs
set_option maxRecDepth 100000
namespace Go.Proofs.YtkdkeokldcehhaaGreatDoor
open Go.ChangeShapes Go.WideShapes Go.ChangeAt Go.RowKit Cf Vc Br Sp Rf

namespace Sp
theorem weights_mem {H : Type} {P : Program} {e : TypeId} : ∀ {l : List (DataW H)} {d : DataW H}, d ∈ l → ∀ n ∈ d.weights P e, n ∈ DataW.weightsAll P e l
  | a :: l, d, h, n, hn => by
    unfold DataW.weightsAll
    rcases List.mem_cons.1 h with rfl | h
    · exact List.mem_append_left _ hn
    · exact List.mem_append_right _ (weights_mem h n hn)
end Sp
section
variable {H : Type} {enc : TypeId × Value → H} {w : World} {base : Nat} {spare : Nat → Bool} {held : Bool}
theorem bytes_int17 : Tryz.prog.bytesOf 3 = 8 := by kernel_rfl
theorem weight_ints17 {cs : List Value} {fuel : Nat} {x : DataW H × List MemPlace} {A : Option Addr} {len cap : Nat} (h : DataW.trod enc Tryz.prog w base spare held fuel 45 cs = some x) (hcs : cs = [.slice A len cap])
    (hw : ∀ n ∈ x.1.weights Tryz.prog 45, n ≤ reachBytes) : len * 8 ≤ 140737488351232 := by
  have ht := Tryz.underlying45
  rcases Go.Deep.open_slice ht h with ⟨h0, _⟩ | ⟨a, l2, c2, m, n, D, Pl, h1, _, hl, hcm, hmm, rfl, hx⟩
  · rw [h0] at hcs
    injection hcs with hcs
    injection hcs with _ e2 _
    omega
  · rw [h1] at hcs
    injection hcs with hcs
    injection hcs with _ e2 _
    subst e2
    have hmem : ((List.range l2).map D).length + ((List.range (m - l2)).map fun j => D (l2 + j)).length = l2 + (m - l2) := by simp
    have := hw ((l2 + (m - l2)) * 8) (by
      unfold DataW.weights
      rw [ht]
      simp only [bytes_int17, hmem]
      exact List.mem_cons_self)
    unfold reachBytes at this
    have h3 : l2 * 8 ≤ (l2 + (m - l2)) * 8 := Nat.mul_le_mul_right _ (Nat.le_add_right _ _)
    omega
theorem open_rows17 {fuel : Nat} {v : Value} {x : DataW H × List MemPlace} (h : DataW.trod enc Tryz.prog w base spare held fuel 27 [v] = some x) :
    ∃ (A : Option Addr) (c : Nat) (B : Nat → Option Addr) (C : Nat → Nat) (L : List (List Int)), v = .slice A L.length c ∧ LOn (fun _ => True) w A B C L ∧ ((∀ n ∈ x.1.weights Tryz.prog 27, n ≤ reachBytes) → ∀ i, i < L.length → (L.getD i []).length * 8 ≤ 140737488351232) := by
  have ht := Tryz.underlying27
  have hc : Tryz.prog.cellsOf 45 = 1 := by kernel_rfl
  have hc' : Tryz.prog.cellsOf 3 = 1 := by kernel_rfl
  rcases Go.Deep.open_slice1 ht hc h with ⟨h0, _⟩ | ⟨a, len, cap, m, n, V, D, Pl, hcs, _, hl, hm, hmm, rfl, hx⟩
  · injection h0 with h0
    exact ⟨none, 0, fun _ => none, fun _ => 0, [], h0, LOn.nil _ _ _ _ _, fun _ i hi => absurd hi (Nat.not_lt_zero i)⟩
  have hlm : len ≤ m := by rw [hmm]; split <;> omega
  have each : ∀ i, i < len → ∃ y : Option Addr × Nat × List Int, V i = .slice y.1 y.2.2.length y.2.1 ∧ KIn .i64 w y.1 y.2.2 ∧ y.2.2.length ≤ y.2.1 ∧ ((∀ n ∈ (D i).weights Tryz.prog 45, n ≤ reachBytes) → y.2.2.length * 8 ≤ 140737488351232) := fun i hi => by
    have h2 := (hx i (by omega)).2
    obtain ⟨A', len', cap', xs, h3, h4, _, _, h5⟩ := open_ints_row Tryz.underlying45 Tryz.underlying3 hc' h2
    have h3' := (List.cons.inj h3).1
    refine ⟨(A', cap', listOf len' xs), by rw [listOf_length]; exact h3', kin_of h5, by rw [listOf_length]; exact h4, fun hw => ?_⟩
    rw [listOf_length]
    exact weight_ints17 h2 h3 hw
  obtain ⟨y, hy⟩ := Go.Deep.choose_lt each
  injection hcs with hcs
  have hg : ∀ i, i < len → (listOf len fun i => (y i).2.2).getD i [] = (y i).2.2 := fun i hi => listOf_at len _ [] i hi
  refine ⟨some a, cap, fun i => (y i).1, fun i => (y i).2.1, listOf len fun i => (y i).2.2, by rw [listOf_length]; exact hcs, ⟨fun h0 => ?_, fun _ _ _ => trivial, fun i hi _ _ _ => trivial, fun i hi => ?_⟩, fun hw i hi => ?_⟩
  · rw [listOf_length] at h0
    obtain ⟨b, o, sp⟩ := a
    have hc0 := (hx 0 (by omega)).1
    obtain rfl : sp = none := by
      simp [Addr.add] at hc0
      exact World.cell?_spot hc0
    refine ⟨b, o, rfl, fun i hi => ?_⟩
    rw [listOf_length] at hi
    obtain ⟨e1, e2, _, _⟩ := hy i hi
    have hci := (hx i (by omega)).1
    rw [Addr.add_lit, e1] at hci
    rw [hg i hi]
    exact ⟨hci, e2⟩
  · rw [listOf_length] at hi
    rw [hg i hi]
    exact (hy i hi).2.2.1
  · rw [listOf_length] at hi
    rw [hg i hi]
    refine (hy i hi).2.2.2 fun n hn => hw n ?_
    unfold DataW.weights
    rw [ht]
    simp only
    exact List.mem_cons_of_mem _ (List.mem_append_left _ (weights_mem (List.mem_map.2 ⟨i, List.mem_range.2 hi, rfl⟩) n hn))
set_option maxRecDepth 100000 in
theorem open_past {fuel : Nat} {cs : List Value} {x : DataW H × List MemPlace} (h : DataW.trod enc Tryz.prog w base spare held fuel 24 cs = some x) :
    ∃ (A : Option Addr) (len cap : Nat) (Q : List (Er × Ent)), cs = [.slice A len cap] ∧ Q.length = len ∧ EsIn w A Q ∧ ((∀ n ∈ x.1.weights Tryz.prog 24, n ≤ reachBytes) → ∀ q ∈ Q, (∀ i, i < q.2.ks.length → (q.2.ks.getD i []).length * 8 ≤ 140737488351232) ∧ ∀ i, i < q.2.vs.length → (q.2.vs.getD i []).length * 8 ≤ 140737488351232) := by
  have ht := Tryz.underlying24
  have he := Tryz.underlying29
  have hc : Tryz.prog.cellsOf 27 = 1 := by kernel_rfl
  have hc2 : Tryz.prog.cellsOf 29 = 2 := by kernel_rfl
  rcases Go.Deep.open_slice_pairs ht he hc2 rfl rfl hc hc h with ⟨h0, _⟩ | ⟨a, len, cap, m, n, V0, V1, D0, D1, P0, P1, hcs, _, hl, hm, hmm, rfl, hx⟩
  · exact ⟨none, 0, 0, [], h0, rfl, ⟨fun h => absurd h (Nat.lt_irrefl 0), fun q hq => by cases hq⟩, fun _ q hq => by cases hq⟩
  have hlm : len ≤ m := by rw [hmm]; split <;> omega
  have each : ∀ i, i < len → ∃ q : Er × Ent, V0 i = .slice q.1.kA q.2.ks.length q.1.kc ∧ V1 i = .slice q.1.vA q.2.vs.length q.1.vc ∧ EOn (fun _ => True) w q.1 q.2 ∧
      ((∀ n ∈ (D0 i).weights Tryz.prog 27, n ≤ reachBytes) → ∀ i, i < q.2.ks.length → (q.2.ks.getD i []).length * 8 ≤ 140737488351232) ∧ ((∀ n ∈ (D1 i).weights Tryz.prog 27, n ≤ reachBytes) → ∀ i, i < q.2.vs.length → (q.2.vs.getD i []).length * 8 ≤ 140737488351232) := fun i hi => by
    obtain ⟨_, _, h3, h4⟩ := hx i (by omega)
    obtain ⟨A, c, B, C, L, e1, l1, s1⟩ := open_rows17 h3
    obtain ⟨A', c', B', C', L', e2, l2, s2⟩ := open_rows17 h4
    exact ⟨(⟨A, c, B, C, A', c', B', C'⟩, ⟨L, L'⟩), e1, e2, ⟨l1, l2⟩, s1, s2⟩
  haveI : Inhabited (Er × Ent) := ⟨noQ⟩
  obtain ⟨y, hy⟩ := Go.Deep.choose_lt each
  refine ⟨some a, len, cap, (List.range len).map y, hcs, by simp, ⟨fun h0 => ?_, fun q hq => ?_⟩, fun hw q hq => ?_⟩
  · rw [List.length_map, List.length_range] at h0
    obtain ⟨b, o, sp⟩ := a
    have hc0 := (hx 0 (by omega)).1
    obtain rfl : sp = none := by
      simp [Addr.add] at hc0
      exact World.cell?_spot hc0
    refine ⟨b, o, rfl, fun j u hj => ?_⟩
    have hjl := (List.getElem?_eq_some_iff.1 hj).1
    rw [eCs_length, List.length_map, List.length_range] at hjl
    have hi : j / 2 < len := by omega
    have hq : ((List.range len).map y)[j / 2]? = some (y (j / 2)) := by rw [List.getElem?_map, List.getElem?_range hi]; rfl
    obtain ⟨g1, g2⟩ := eCs_at _ (j / 2) _ hq
    obtain ⟨e1, e2, _, _, _⟩ := hy (j / 2) hi
    obtain ⟨c1, c2, _, _⟩ := hx (j / 2) (by omega)
    rw [Addr.add_lit, e1] at c1
    rw [Addr.add_lit, e2] at c2
    rcases Nat.mod_two_eq_zero_or_one j with hm2 | hm2
    · have hd : j / 2 * 2 = j := by omega
      rw [hd] at g1 c1
      rw [g1] at hj
      injection hj with hj
      rw [← hj]
      exact c1
    · have hd : j / 2 * 2 + 1 = j := by omega
      rw [hd] at g2 c2
      rw [g2] at hj
      injection hj with hj
      rw [← hj]
      exact c2
  · obtain ⟨i, hi, rfl⟩ := List.mem_map.1 hq
    exact (hy i (List.mem_range.1 hi)).2.2.1
  · obtain ⟨i, hi, rfl⟩ := List.mem_map.1 hq
    have hi' := List.mem_range.1 hi
    have hin : ∀ n, n ∈ (DataW.agg [D0 i, D1 i]).weights Tryz.prog 29 → n ≤ reachBytes := fun n hn => hw n (by
      unfold DataW.weights
      rw [ht]
      simp only
      exact List.mem_cons_of_mem _ (List.mem_append_left _ (weights_mem (List.mem_map.2 ⟨i, hi, rfl⟩) n hn)))
    refine ⟨(hy i hi').2.2.2.1 fun n hn => hin n ?_, (hy i hi').2.2.2.2 fun n hn => hin n ?_⟩
    · unfold DataW.weights
      rw [he]
      show n ∈ DataW.weightsEach Tryz.prog [27, 27] [D0 i, D1 i]
      unfold DataW.weightsEach
      exact List.mem_append_left _ hn
    · unfold DataW.weights
      rw [he]
      show n ∈ DataW.weightsEach Tryz.prog [27, 27] [D0 i, D1 i]
      unfold DataW.weightsEach
      refine List.mem_append_right _ ?_
      unfold DataW.weightsEach
      exact List.mem_append_left _ hn
end
theorem past_weight {H : Type} (P : Program) (t0 t1 t : TypeId) (ts : List TypeId) (d0 d1 d : DataW H) (ds : List (DataW H)) (h : (DataW.weightsEach P (t0 :: t1 :: t :: ts) (d0 :: d1 :: d :: ds)).all (· ≤ reachBytes) = true) (n : Nat) (hn : n ∈ d.weights P t) : n ≤ reachBytes :=
  of_decide_eq_true (List.all_eq_true.1 h n (by
    unfold DataW.weightsEach
    refine List.mem_append_right _ ?_
    unfold DataW.weightsEach
    refine List.mem_append_right _ ?_
    unfold DataW.weightsEach
    exact List.mem_append_left _ hn))
end Go.Proofs.YtkdkeokldcehhaaGreatDoor
