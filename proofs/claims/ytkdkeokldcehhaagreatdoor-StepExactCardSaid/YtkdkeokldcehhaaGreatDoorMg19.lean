/-
  A row of rows that a function gathers: in a block of its own, its rows elsewhere. No program's function here. No conditions but those of each lemma.
-/
import Derived.Test.YtkdkeokldcehhaaGreatDoorMg13
import Derived.Test.YtkdkeokldcehhaaGreatDoorMg18
import Derived.Test.YtkdkeokldcehhaaGreatDoorMg17
set_option maxRecDepth 100000
namespace Go.Proofs.YtkdkeokldcehhaaGreatDoor
open Go.ChangeShapes Go.WideShapes Go.ChangeAt Go.RowKit Cf Vc Br Sp

namespace Rf
def lC (B : Nat → Option Addr) (C : Nat → Nat) (L : List (List Int)) : List Value := (List.range L.length).map (slC B C L)
section
variable {N n : Nat} {p : Nat → Prop} {W W' wz : World} {v : Value} {B : Nat → Option Addr} {C : Nat → Nat} {L : List (List Int)}
theorem lC_length : (lC B C L).length = L.length := by simp [lC]
theorem lC_at {i : Nat} (h : i < L.length) : (lC B C L)[i]? = some (.slice (B i) (L.getD i []).length (C i)) := by
  unfold lC
  rw [List.getElem?_map, List.getElem?_range h]
  rfl
theorem lC_add (hn : L.length = n) (A : Option Addr) (c : Nat) (l : List Int) : lC (updF B n A) (updF C n c) (L ++ [l]) = lC B C L ++ [.slice A l.length c] := by
  subst hn
  unfold lC
  rw [List.length_append, List.length_singleton, List.range_succ, List.map_append]
  congr 1
  · refine List.map_congr_left fun i hi => ?_
    have hi := List.mem_range.1 hi
    unfold slC
    rw [updF_other _ _ _ (Nat.ne_of_lt hi), updF_other _ _ _ (Nat.ne_of_lt hi), List.getD_eq_getElem?_getD, List.getElem?_append_left hi, List.getD_eq_getElem?_getD]
  · show [slC _ _ _ _] = _
    unfold slC
    rw [updF_same, updF_same, List.getD_eq_getElem?_getD, List.getElem?_append_right (Nat.le_refl _), Nat.sub_self]
    rfl
structure GL (N : Nat) (p : Nat → Prop) (W : World) (v : Value) (B : Nat → Option Addr) (C : Nat → Nat) (L : List (List Int)) : Prop where
  own : W.ownsRow N 45 1 v L.length (lC B C L)
  rows : ∀ i, i < L.length → KIn .i64 W (B i) (L.getD i [])
  there : ∀ i, i < L.length → Ft (fun j => p j ∧ v.ownBlock ≠ some j) (B i) (L.getD i []).length
  cap : ∀ i, i < L.length → (L.getD i []).length ≤ C i
theorem GL.kept (h : GL N p W v B C L) (ho : ∀ k, v.ownBlock = some k → W'.heap[k]? = W.heap[k]?) (hr : ∀ j, p j → v.ownBlock ≠ some j → j < W.heap.size → W'.heap[j]? = W.heap[j]?) : GL N p W' v B C L :=
  ⟨own_moved h.own ho, fun i hi => KIn.moved (h.rows i hi) ((h.there i hi).both (KIn.low' (h.rows i hi))) fun j hj => hr j hj.1.1 hj.1.2 hj.2, h.there, h.cap⟩
theorem GL.step (h : GL N p W v B C L) (hb : Below W.heap.size W W') : GL N p W' v B C L := h.kept (fun k hk => hb.block k (h.own.lt k hk).2) fun j _ _ hj => hb.block j hj
theorem GL.new (p : Nat → Prop) (B : Nat → Option Addr) (C : Nat → Nat) (w : World) (hb : N ≤ w.heap.size) : GL N p (w.alloc (.cells #[] 45)) (.slice (some ⟨w.heap.size, 0, none⟩) 0 0) B C [] :=
  ⟨World.ownsRow_made w #[] 0 hb (Nat.zero_le _) rfl, fun i hi => absurd hi (Nat.not_lt_zero i), fun i hi => absurd hi (Nat.not_lt_zero i), fun i hi => absurd hi (Nat.not_lt_zero i)⟩
theorem GL.slice {A : Option Addr} {m c : Nat} (h : GL N p W (.slice A m c) B C L) : m = L.length := by
  rcases h.own.2 with ⟨e, h0⟩ | ⟨g, cap, cur, e, _⟩
  · injection e with _ e2 _; omega
  · injection e
theorem GL.lin {A : Option Addr} {m c : Nat} (h : GL N p W (.slice A m c) B C L) : LIn W A B C L := fun h0 => by
  rcases h.own.2 with ⟨_, h1⟩ | ⟨g, cap, cur, e, _, hb, _, _, _, ht⟩
  · omega
  · injection e with e1 e2 e3
    subst e1
    refine ⟨g, 0, rfl, fun i hi => ⟨?_, h.rows i hi⟩⟩
    rw [cell_of_row W g _ _ _ _ hb, Nat.zero_add]
    have hj := lC_at (B := B) (C := C) hi
    rw [← ht] at hj
    have hj2 : i < (cur.toList.take (L.length * 1)).length := (List.getElem?_eq_some_iff.1 hj).1
    rw [List.getElem?_take_of_lt (by rw [List.length_take] at hj2; omega)] at hj
    rw [← Array.getElem?_toList]
    exact hj
theorem GL.lon {A : Option Addr} {m c : Nat} (h : GL N p W (.slice A m c) B C L) : LOn (fun _ => True) W A B C L := ⟨h.lin, fun _ _ _ => trivial, fun i hi => (h.there i hi).mono fun _ _ => trivial, h.cap⟩
theorem GL.more {A : Option Addr} {l : List Int} {c g cap : Nat} (h : GL N p W v B C L) (hn : L.length = n) (hK : KIn .i64 W A l) (hf : Ft (fun j => p j ∧ v.ownBlock ≠ some j) A l.length) (hc : l.length ≤ c) (o : Obj)
    (hown : wz.ownsRow N 45 1 (.slice (some ⟨g, 0, none⟩) (n + 1) cap) (n + 1) (lC B C L ++ [.slice A l.length c])) (hgrow : (W.alloc o).grownBy wz v.ownBlock) (hat : v.ownBlock = some g ∨ g = (W.alloc o).heap.size) :
    GL N p wz (.slice (some ⟨g, 0, none⟩) (n + 1) cap) (updF B n A) (updF C n c) (L ++ [l]) := by
  have hs : ∀ j, j < W.heap.size → v.ownBlock ≠ some j → wz.heap[j]? = W.heap[j]? := fun j hj hne => (hgrow.block j (by simp; omega) fun e => hne e.symm).trans (Below.heap_alloc W o j hj)
  have hg : ∀ j, j < W.heap.size ∧ v.ownBlock ≠ some j → (Value.slice (some ⟨g, 0, none⟩) (n + 1) cap).ownBlock ≠ some j := fun j hj e => by
    have e' : g = j := Option.some.inj e
    rcases hat with hat | hat
    · exact hj.2 (by rw [hat, e'])
    · have : (W.alloc o).heap.size = W.heap.size + 1 := by simp
      omega
  have hl : ∀ i, i < n → (L ++ [l]).getD i [] = L.getD i [] := fun i hi => by rw [List.getD_eq_getElem?_getD, List.getElem?_append_left (by omega), List.getD_eq_getElem?_getD]
  have hl2 : (L ++ [l]).getD n [] = l := by
    rw [List.getD_eq_getElem?_getD, List.getElem?_append_right (by omega), hn, Nat.sub_self]
    rfl
  have hlen : (L ++ [l]).length = n + 1 := by rw [List.length_append, hn]; rfl
  refine ⟨by rw [hlen, lC_add hn]; exact hown, fun i hi => ?_, fun i hi => ?_, fun i hi => ?_⟩
  · by_cases e : i = n
    · subst e
      rw [updF_same, hl2]
      exact KIn.moved hK (hf.both (KIn.low' hK)) fun j hj => hs j hj.2 hj.1.2
    · rw [updF_other _ _ _ e, hl i (by omega)]
      have hi' : i < L.length := by omega
      exact KIn.moved (h.rows i hi') ((h.there i hi').both (KIn.low' (h.rows i hi'))) fun j hj => hs j hj.2 hj.1.2
  · by_cases e : i = n
    · subst e
      rw [updF_same, hl2]
      exact (hf.both (KIn.low' hK)).mono fun j hj => ⟨hj.1.1, hg j ⟨hj.2, hj.1.2⟩⟩
    · rw [updF_other _ _ _ e, hl i (by omega)]
      have hi' : i < L.length := by omega
      exact ((h.there i hi').both (KIn.low' (h.rows i hi'))).mono fun j hj => ⟨hj.1.1, hg j ⟨hj.2, hj.1.2⟩⟩
  · by_cases e : i = n
    · subst e
      rw [updF_same, hl2]
      exact hc
    · rw [updF_other _ _ _ e, hl i (by omega)]
      exact h.cap i (by omega)
end
/-- A slice made for a call: the only one of its row. -/
theorem one_sl (w : World) (u : Value) (hu : u.oneCell' = true) : (∀ j z, ([u] : List Value)[j]? = some z → (w.alloc (.cells #[u] 45)).cell? ((⟨w.heap.size, 0, none⟩ : Addr).add j) = some z) ∧ ∀ z ∈ ([u] : List Value), z.oneCell' = true := ⟨fun j z hj => by
  match j with
  | 0 =>
    have : u = z := by simpa using hj
    subst this
    rw [show (⟨w.heap.size, 0, none⟩ : Addr).add 0 = ⟨w.heap.size, 0, none⟩ by simp [Addr.add], cell_of_row _ _ _ _ _ _ (heap_alloc_new w _)]
    rfl
  | n + 1 => simp at hj, fun z hz => by rw [List.mem_singleton.1 hz]; exact hu⟩
end Rf
theorem info_intsR : (Tryz.prog.info? 45).map (fun i => (i.zero, i.size, i.bytes)) = some (some (.slice none 0 0), 1, 24) := by kernel_rfl
end Go.Proofs.YtkdkeokldcehhaaGreatDoor
