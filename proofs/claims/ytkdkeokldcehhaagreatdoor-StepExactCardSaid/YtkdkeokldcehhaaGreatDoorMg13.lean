/-
  The library's slices.Clone at entries: a row of one's own with the same cells. Condition: at most a thousand entries, which are there.
  A walk through a model: its block, the places, what goes through; what a store into one of these leaves. No program's function here. No conditions but those of each lemma.
  The library's slices.IndexFunc and ContainsFunc at three types, by what the function that is handed on says of each element. Conditions: the elements are there, at most a million; the function answers, and turns nothing that lay.
  Package step: what whole, beyondAct, fits and Good answer. Conditions: a model stands in its block, its weights are as many as its shape asks; the rows' numbers are there.
  Package step: what check answers. Conditions: a model stands in its block, its weights are as many as its shape asks; the entries and the tokens are there, at most a million.
  A row of numbers cut: where the piece lies. No program's function here. No conditions but the bounds.
-/
import Derived.Test.YtkdkeokldcehhaaGreatDoorMg11
import Derived.Test.YtkdkeokldcehhaaGreatDoorMg12
import Derived.Test.YtkdkeokldcehhaaGreatDoorMg6
import Derived.Test.YtkdkeokldcehhaaGreatDoorMg7
import Derived.Test.YtkdkeokldcehhaaGreatDoorMg4
import Derived.Deep.AppendLies
import Derived.Lib.LazyBuf
import Derived.Laws.AppendOwn
import Derived.Deep.QuietTactic
import Derived.Shelf.Abstract
import Derived.Laws.Slices
set_option maxRecDepth 100000
namespace Go.Proofs.YtkdkeokldcehhaaGreatDoor
open Go.ChangeShapes Go.WideShapes Go.ChangeAt Go.RowKit Nm Cf Vc Br Sp

theorem info_entry' : (Tryz.prog.info? 29).map (fun i => (i.zero, i.size, i.bytes)) = some (some (.agg #[.slice none 0 0, .slice none 0 0]), 2, 48) := by kernel_rfl
set_option maxRecDepth 100000 in
set_option maxHeartbeats 800000 in
theorem clone_ents (w : World) (A : Option Addr) (c : Nat) (Q : List (Er × Ent)) (n : Nat) (hn : Q.length = n) (hm : n ≤ 1000) (h : EsAt w A Q) :
    Calls Tryz.prog 62 #[.slice A n c] w fun e w' => ∃ v, e = .returned v ∧ w'.ownsRow w.heap.size 29 2 v n (eCs Q) ∧ Below w.heap.size w w' := by
  obtain ⟨i0, hi, hz0, hz1, hz2⟩ := info_parts info_entry'
  have HI := Lib.hid hi
  have HZ0 := Lib.hid hz0
  have HZ1 := Lib.hid hz1
  have HZ2 := Lib.hid hz2
  have HLN := Lib.hid (show (eCs Q).length = n * 2 by rw [eCs_length, hn])
  have HM := Lib.hid hm
  have HO1 := Lib.hid (eCs_one Q)
  clear hi hz0 hz1 hz2 hm
  cases A with
  | none =>
    have h0 : n = 0 := Nat.eq_zero_of_not_pos fun h1 => by
      obtain ⟨_, _, e, _⟩ := h (by omega)
      cases e
    have heq : ∀ W : World, (binOp .eql 24 (.slice none n c) (.slice none 0 0)).run Tryz.prog W = .ok (.bool true) W := fun W => run_eql_slice_nil W _ _ none n c Tryz.underlying24
    have HQ := Lib.hid (show n = 0 ∧ eCs Q = [] from ⟨h0, List.length_eq_zero_iff.1 (by rw [HLN.out, h0])⟩)
    clear h h0 hn
    go_enter Tryz.func62, Tryz.ntmps62
    go_wp2_with (fail)
    refine bodyPost_ret (results_tmp rfl _ _ _) rfl ?_
    refine ⟨_, rfl, ?_, Below.refl _ _⟩
    rw [HQ.out.1, HQ.out.2]
    exact World.ownsRow_nil _ _ _ _
  | some a =>
    have hsrc : ∀ j u, (eCs Q)[j]? = some u → (w.alloc (.cells #[] 29)).cell? (a.add j) = some u := fun j u hj => by
      have h1 := (List.getElem?_eq_some_iff.1 hj).1
      obtain ⟨pb, po, e, hc⟩ := h (by rw [eCs_length] at h1; omega)
      injection e with e
      rw [e, Addr.add_lit, World.cell?_alloc_lt _ _ _ (block_lt_of_cell (hc j u hj))]
      exact hc j u hj
    have heq : ∀ W : World, (binOp .eql 24 (.slice (some a) n c) (.slice none 0 0)).run Tryz.prog W = .ok (.bool false) W := fun W => run_eql_slice_nil W _ _ _ _ c Tryz.underlying24
    have HOWN := Lib.hid (show (w.alloc (.cells #[] 29)).ownsRow w.heap.size 29 2 (.slice (some ⟨w.heap.size, 0, none⟩) 0 0) 0 [] from World.ownsRow_made w #[] 0 (Nat.le_refl _) (Nat.zero_le _) rfl)
    have HSRC := Lib.hid hsrc
    clear hsrc h hn
    go_enter Tryz.func62, Tryz.ntmps62
    go_wp2_with (first
      | (with_reducible refine wpList_buildNone rfl 24 29 rfl i0 Tryz.underlying24 HI.out ?_)
      | (at_builtin; refine wpList_append_own _ rfl (.tmp 5) (.tmp 6) 24 rfl w.heap.size 29 i0 _ 2 48 Tryz.underlying24 HI.out HZ0.out HZ1.out HZ2.out rfl (by omega) (.slice (some ⟨w.heap.size, 0, none⟩) 0 0) 0 [] rfl HOWN.out a n c (eCs Q) rfl HLN.out HSRC.out HO1.out (by have := HM.out; unfold maxLen; omega) (by have := HM.out; omega) (by simp) ?_; intro v9 w9 hown9 hg9 hnil))
    rw [Nat.zero_add, List.nil_append] at hown9
    have hb := ((Below.refl w.heap.size w).alloc (Nat.le_refl _) (.cells #[] 29)).grown hg9 (by simp) (fun k hk => by
      have : k = w.heap.size := by simpa [Value.ownBlock] using hk.symm
      omega)
    refine bodyPost_ret (results_tmp rfl _ _ _) rfl ?_
    exact ⟨_, rfl, hown9, hb⟩
end Go.Proofs.YtkdkeokldcehhaaGreatDoor
namespace Go.Proofs.YtkdkeokldcehhaaGreatDoor
open Go.ChangeShapes Go.WideShapes Go.ChangeAt Go.RowKit Nm Cf Vc Br
namespace Sp

/-- Numbers don't lie in a block that holds none. -/
theorem off {W : World} {g : Nat} {kd : IntKind} {A : Option Addr} {zs : List Int} (hno : ∀ i kd z, W.cell? ⟨g, i, none⟩ ≠ some (.int kd z)) (h : KIn kd W A zs) : Ft (· ≠ g) A zs.length := fun h0 a ha => by
  obtain ⟨pb, po, rfl, hc⟩ := h h0
  injection ha with ha
  rw [← ha]
  show pb ≠ g
  rintro rfl
  exact hno _ _ _ (hc 0 h0)
theorem off_row {W : World} {g n : Nat} {t : TypeId} {f : Nat → Value} (h : W.rowIs g t n f) (hf : ∀ i kd z, f i ≠ .int kd z) : ∀ i kd z, W.cell? ⟨g, i, none⟩ ≠ some (.int kd z) := fun i kd z e => by
  by_cases hi : i < n
  · rw [h.cell hi] at e
    exact hf i kd z (Option.some.inj e)
  · obtain ⟨c, hb, hn, _⟩ := h
    rw [cell_of_row W g i _ _ _ hb, Array.getElem?_eq_none (by omega)] at e
    cases e

/-! A walk's block: the model, the places, what goes through -/
def wkA (b : Nat) (v : Value) (X : Option Addr) (n c : Nat) : Array Value := #[.pointer (some ⟨b, 0, none⟩), v, .slice X n c]
def wkO (b : Nat) (v : Value) (X : Option Addr) (n c : Nat) : Obj := .cells (wkA b v X n c) 96 (0, 0)
theorem three {W : World} {g b n c : Nat} {v : Value} {X : Option Addr} (h : W.heap[g]? = some (wkO b v X n c)) : W.cell? ⟨g, 0, none⟩ = some (.pointer (some ⟨b, 0, none⟩)) ∧ W.cell? ⟨g, 1, none⟩ = some v ∧ W.cell? ⟨g, 2, none⟩ = some (.slice X n c) ∧ ∀ i, W.frozen? ⟨g, i, none⟩ = false :=
  ⟨by rw [cell_of_row W g 0 _ _ _ h]; rfl, by rw [cell_of_row W g 1 _ _ _ h]; rfl, by rw [cell_of_row W g 2 _ _ _ h]; rfl, fun i => frozen_of_row W g i _ _ h⟩
/-- Neither a walk's block nor the places' row. -/
def pW (wb : Nat) (v : Value) (j : Nat) : Prop := j ≠ wb ∧ v.ownBlock ≠ some j
structure Wk (w0 : World) (N b wb : Nat) (x : Cfg) (s : ByteArray) (Q : List (Er × Ent)) (v : Value) (X : Option Addr) (c : Nat) (z : List Int) (W : World) : Prop where
  brain : W.heap[b]? = some (brO x s)
  old : b < N
  new : N ≤ wb
  blk : W.heap[wb]? = some (wkO b v X z.length c)
  own : W.ownsRow N 29 2 v Q.length (eCs Q)
  nums : KIn .i64 W X z
  ents : ∀ q ∈ Q, EOn (pW wb v) W q.1 q.2
  below : Below N w0 W
section
variable {w0 W W' : World} {N b wb : Nat} {x : Cfg} {s : ByteArray} {Q : List (Er × Ent)} {v : Value} {X : Option Addr} {c : Nat} {z : List Int}
theorem own_moved {e : TypeId} {size n : Nat} {xs : List Value} (h : W.ownsRow N e size v n xs) (hb : ∀ k, v.ownBlock = some k → W'.heap[k]? = W.heap[k]?) : W'.ownsRow N e size v n xs := by
  refine ⟨h.1, ?_⟩
  rcases h.2 with h2 | ⟨g, cap, cur, rfl, h3, h4, h5⟩
  · exact .inl h2
  · exact .inr ⟨g, cap, cur, rfl, h3, (hb g rfl).trans h4, h5⟩
/-- The places' row is another block than one of another type. -/
theorem own_off {e t : TypeId} {size n : Nat} {xs : List Value} {g : Nat} {cs : Array Value} {fr : Nat × Nat} (h : W.ownsRow N e size v n xs) (hg : W.heap[g]? = some (.cells cs t fr)) (ht : t ≠ e) : ∀ k, v.ownBlock = some k → k ≠ g := fun k hk hkg => by
  subst hkg
  rcases h.2 with ⟨rfl, _⟩ | ⟨g', cap, cur, rfl, _, h4, _⟩
  · cases hk
  · injection (show some g' = some k from hk) with e1
    subst e1
    rw [h4] at hg
    injection hg with hg
    injection hg with _ e2 _
    exact ht e2.symm
theorem walk_type : 96 ≠ 29 := by decide
theorem row_type : 45 ≠ 29 := by decide
theorem Wk.lt (h : Wk w0 N b wb x s Q v X c z W) : wb < W.heap.size := (Array.getElem?_eq_some_iff.1 h.blk).1
theorem Wk.low (h : Wk w0 N b wb x s Q v X c z W) : N ≤ W.heap.size := by have := h.lt; have := h.new; omega
theorem Wk.step (h : Wk w0 N b wb x s Q v X c z W) (hb : Below W.heap.size W W') : Wk w0 N b wb x s Q v X c z W' :=
  ⟨Br.stays h.brain hb, h.old, h.new, (hb.block wb h.lt).trans h.blk, own_moved h.own fun k hk => hb.block k (h.own.lt k hk).2, h.nums.below hb (Nat.le_refl _), fun q hq => (h.ents q hq).below hb, h.below.trans (hb.mono h.low)⟩
theorem Wk.no_ints (h : Wk w0 N b wb x s Q v X c z W) : ∀ i kd z, W.cell? ⟨wb, i, none⟩ ≠ some (.int kd z) := fun i kd z e => by
  rw [cell_of_row W wb i _ _ _ h.blk] at e
  unfold wkA at e
  match i with
  | 0 => simp at e
  | 1 =>
    have h1 := h.own.2
    simp at e
    subst e
    rcases h1 with ⟨h1, _⟩ | ⟨_, _, _, h1, _⟩ <;> cases h1
  | 2 => simp at e
  | n + 3 => simp at e
/-- Another row goes through. -/
theorem Wk.setX (h : Wk w0 N b wb x s Q v X c z W) {X' : Option Addr} {c' : Nat} {z' : List Int} (hk : KIn .i64 W X' z') : Wk w0 N b wb x s Q v X' c' z' (W.setCell ⟨wb, 2, none⟩ (.slice X' z'.length c')) := by
  have ho : ∀ j, j ≠ wb → (W.setCell ⟨wb, 2, none⟩ (.slice X' z'.length c')).heap[j]? = W.heap[j]? := fun j hj => heap_setCell_other _ ⟨wb, 2, none⟩ j _ hj
  refine ⟨(ho b (by have := h.old; have := h.new; omega)).trans h.brain, h.old, h.new, heap_setCell_same W wb 2 _ _ _ h.blk, own_moved h.own fun k hk => ho k (own_off h.own h.blk walk_type k hk), KIn.moved hk (off h.no_ints hk) ho, fun q hq => (h.ents q hq).moved fun j hj => ho j hj.1, h.below.setCell h.new _⟩
end

/-! The last place's entry, while it is made -/
def updF {α : Type} (f : Nat → α) (k : Nat) (a : α) (i : Nat) : α := if i = k then a else f i
theorem updF_same {α : Type} (f : Nat → α) (k : Nat) (a : α) : updF f k a k = a := if_pos rfl
theorem updF_other {α : Type} (f : Nat → α) (k : Nat) (a : α) {i : Nat} (h : i ≠ k) : updF f k a i = f i := if_neg h
theorem getD_set_same (L : List (List Int)) (k : Nat) (l : List Int) (h : k < L.length) : (L.set k l).getD k [] = l := by
  rw [List.getD_eq_getElem?_getD, List.getElem?_set_self h]
  rfl
theorem getD_set_other (L : List (List Int)) (k : Nat) (l : List Int) {i : Nat} (h : i ≠ k) : (L.set k l).getD i [] = L.getD i [] := by
  rw [List.getD_eq_getElem?_getD, List.getElem?_set_ne (fun e => h e.symm), List.getD_eq_getElem?_getD]
/-- The cells of a row of slices. -/
def slC (B : Nat → Option Addr) (C : Nat → Nat) (L : List (List Int)) (i : Nat) : Value := .slice (B i) (L.getD i []).length (C i)
theorem slC_ints (B : Nat → Option Addr) (C : Nat → Nat) (L : List (List Int)) : ∀ i kd z, slC B C L i ≠ .int kd z := fun i kd z e => by cases e
section
variable {W : World} {g k c : Nat} {t : TypeId} {A : Option Addr} {B : Nat → Option Addr} {C : Nat → Nat} {L : List (List Int)} {l : List Int}
theorem sl_set (h : W.rowIs g t L.length (slC B C L)) (hk : k < L.length) : (W.setCell ⟨g, k, none⟩ (.slice A l.length c)).rowIs g t (L.set k l).length (slC (updF B k A) (updF C k c) (L.set k l)) := by
  rw [List.length_set]
  refine (h.set k _).congr fun i _ => ?_
  unfold slC
  by_cases e : i = k
  · subst e
    rw [if_pos rfl, updF_same, updF_same, getD_set_same _ _ _ hk]
  · rw [if_neg e, updF_other _ _ _ e, updF_other _ _ _ e, getD_set_other _ _ _ e]
theorem lon_set {p : Nat → Prop} (h : LOn p W (some ⟨g, 0, none⟩) B C L) (hr : W.rowIs g t L.length (slC B C L)) (hk : k < L.length) (hA : KIn .i64 W A l) (hp : Ft p A l.length) (hc : l.length ≤ c) :
    LOn p (W.setCell ⟨g, k, none⟩ (.slice A l.length c)) (some ⟨g, 0, none⟩) (updF B k A) (updF C k c) (L.set k l) := by
  have hno := off_row hr (slC_ints B C L)
  have ho : ∀ j, j ≠ g → (W.setCell ⟨g, k, none⟩ (.slice A l.length c)).heap[j]? = W.heap[j]? := fun j hj => heap_setCell_other _ ⟨g, k, none⟩ j _ hj
  have hs := sl_set (A := A) (l := l) (c := c) hr hk
  refine ⟨fun _ => ⟨g, 0, rfl, fun i hi => ⟨?_, ?_⟩⟩, ?_, fun i hi => ?_, fun i hi => ?_⟩
  · rw [Nat.zero_add]
    exact hs.cell hi
  · rw [List.length_set] at hi
    by_cases e : i = k
    · subst e
      rw [updF_same, getD_set_same _ _ _ hk]
      exact KIn.moved hA (off hno hA) ho
    · rw [updF_other _ _ _ e, getD_set_other _ _ _ e]
      obtain ⟨pb, po, _, _, hx⟩ := h.is.at hi
      exact KIn.moved hx (off hno hx) ho
  · rw [List.length_set]
    exact h.here
  · rw [List.length_set] at hi
    by_cases e : i = k
    · subst e
      rw [updF_same, getD_set_same _ _ _ hk]
      exact hp
    · rw [updF_other _ _ _ e, getD_set_other _ _ _ e]
      exact h.there i hi
  · rw [List.length_set] at hi
    by_cases e : i = k
    · subst e
      rw [updF_same, getD_set_same _ _ _ hk]
      exact hc
    · rw [updF_other _ _ _ e, getD_set_other _ _ _ e]
      exact h.cap i hi
/-- Rows of numbers, none of which lies in a row of slices. -/
theorem lon_off {p : Nat → Prop} {A : Option Addr} {B' : Nat → Option Addr} {C' : Nat → Nat} {L' : List (List Int)} (h : LOn p W A B' C' L') (hno : ∀ i kd z, W.cell? ⟨g, i, none⟩ ≠ some (.int kd z)) (hA : Ft (· ≠ g) A L'.length) : LOn (fun j => p j ∧ j ≠ g) W A B' C' L' :=
  ⟨h.is, h.here.both hA, fun i hi => (h.there i hi).both (by
    obtain ⟨pb, po, _, _, hx⟩ := h.is.at hi
    exact off hno hx), h.cap⟩
end
structure Wp (w0 : World) (N b wb kb vb : Nat) (x : Cfg) (s : ByteArray) (Q : List (Er × Ent)) (r : Er) (e : Ent) (v : Value) (X : Option Addr) (c : Nat) (z : List Int) (W : World) : Prop where
  wk : Wk w0 N b wb x s (Q ++ [(r, e)]) v X c z W
  ka : r.kA = some ⟨kb, 0, none⟩
  va : r.vA = some ⟨vb, 0, none⟩
  kr : W.rowIs kb 45 e.ks.length (slC r.kB r.kC e.ks)
  vr : W.rowIs vb 45 e.vs.length (slC r.vB r.vC e.vs)
  ne : kb ≠ vb
  ge : N ≤ kb ∧ N ≤ vb
  nb : kb ≠ wb ∧ vb ≠ wb
  apart : ∀ q ∈ Q, EOn (fun j => pW wb v j ∧ j ≠ kb ∧ j ≠ vb) W q.1 q.2
section
variable {w0 W W' : World} {N b wb kb vb : Nat} {x : Cfg} {s : ByteArray} {Q : List (Er × Ent)} {r : Er} {e : Ent} {v : Value} {X : Option Addr} {c : Nat} {z : List Int}
theorem Wp.step (h : Wp w0 N b wb kb vb x s Q r e v X c z W) (hb : Below W.heap.size W W') : Wp w0 N b wb kb vb x s Q r e v X c z W' :=
  ⟨h.wk.step hb, h.ka, h.va, h.kr.of_block (hb.block _ h.kr.lt), h.vr.of_block (hb.block _ h.vr.lt), h.ne, h.ge, h.nb, fun q hq => (h.apart q hq).below hb⟩
theorem Wp.setX (h : Wp w0 N b wb kb vb x s Q r e v X c z W) {X' : Option Addr} {c' : Nat} {z' : List Int} (hk : KIn .i64 W X' z') : Wp w0 N b wb kb vb x s Q r e v X' c' z' (W.setCell ⟨wb, 2, none⟩ (.slice X' z'.length c')) :=
  ⟨h.wk.setX hk, h.ka, h.va, h.kr.of_block (heap_setCell_other _ ⟨wb, 2, none⟩ kb _ h.nb.1), h.vr.of_block (heap_setCell_other _ ⟨wb, 2, none⟩ vb _ h.nb.2), h.ne, h.ge, h.nb, fun q hq => (h.apart q hq).moved fun j hj => heap_setCell_other _ ⟨wb, 2, none⟩ j _ hj.1.1⟩
def Er.setK (r : Er) (k : Nat) (A : Option Addr) (c : Nat) : Er := ⟨r.kA, r.kc, updF r.kB k A, updF r.kC k c, r.vA, r.vc, r.vB, r.vC⟩
def Er.setV (r : Er) (k : Nat) (A : Option Addr) (c : Nat) : Er := ⟨r.kA, r.kc, r.kB, r.kC, r.vA, r.vc, updF r.vB k A, updF r.vC k c⟩
theorem eCs_setK (k : Nat) (A : Option Addr) (c' : Nat) (l : List Int) : eCs (Q ++ [(r.setK k A c', ⟨e.ks.set k l, e.vs⟩)]) = eCs (Q ++ [(r, e)]) := by
  rw [eCs_append, eCs_append]
  show _ ++ (eC _ _ ++ []) = _ ++ (eC _ _ ++ [])
  unfold eC Er.setK
  rw [List.length_set]
theorem eCs_setV (k : Nat) (A : Option Addr) (c' : Nat) (l : List Int) : eCs (Q ++ [(r.setV k A c', ⟨e.ks, e.vs.set k l⟩)]) = eCs (Q ++ [(r, e)]) := by
  rw [eCs_append, eCs_append]
  show _ ++ (eC _ _ ++ []) = _ ++ (eC _ _ ++ [])
  unfold eC Er.setV
  rw [List.length_set]
/-- An entry's rows lie in blocks from N on. -/
structure Fr (N : Nat) (r : Er) (e : Ent) : Prop where
  k : Ft (N ≤ ·) r.kA e.ks.length
  v : Ft (N ≤ ·) r.vA e.vs.length
  ks : ∀ i, i < e.ks.length → Ft (N ≤ ·) (r.kB i) (e.ks.getD i []).length
  vs : ∀ i, i < e.vs.length → Ft (N ≤ ·) (r.vB i) (e.vs.getD i []).length
theorem Fr.mono {N M : Nat} {r : Er} {e : Ent} (h : Fr N r e) (hM : M ≤ N) : Fr M r e := ⟨h.k.mono fun _ hj => Nat.le_trans hM hj, h.v.mono fun _ hj => Nat.le_trans hM hj, fun i hi => (h.ks i hi).mono fun _ hj => Nat.le_trans hM hj, fun i hi => (h.vs i hi).mono fun _ hj => Nat.le_trans hM hj⟩
theorem Fr.on {N : Nat} {p : Nat → Prop} {w : World} {r : Er} {e : Ent} (h : Fr N r e) (he : EOn p w r e) : EOn (fun j => p j ∧ N ≤ j) w r e :=
  ⟨⟨he.k.is, he.k.here.both h.k, fun i hi => (he.k.there i hi).both (h.ks i hi), he.k.cap⟩, ⟨he.v.is, he.v.here.both h.v, fun i hi => (he.v.there i hi).both (h.vs i hi), he.v.cap⟩⟩
theorem ft_set {N k : Nat} {A : Option Addr} {B : Nat → Option Addr} {L : List (List Int)} {l : List Int} (hk : k < L.length) (h : ∀ i, i < L.length → Ft (N ≤ ·) (B i) (L.getD i []).length) (hA : Ft (N ≤ ·) A l.length) : ∀ i, i < (L.set k l).length → Ft (N ≤ ·) (updF B k A i) ((L.set k l).getD i []).length := fun i hi => by
  rw [List.length_set] at hi
  by_cases e : i = k
  · subst e
    rw [updF_same, getD_set_same _ _ _ hk]
    exact hA
  · rw [updF_other _ _ _ e, getD_set_other _ _ _ e]
    exact h i hi
theorem Fr.setKV {N k c c' : Nat} {r : Er} {e : Ent} {A A' : Option Addr} {l l' : List Int} (h : Fr N r e) (hk : k < e.ks.length) (hv : k < e.vs.length) (hA : Ft (N ≤ ·) A l.length) (hA' : Ft (N ≤ ·) A' l'.length) :
    Fr N ((r.setK k A c).setV k A' c') ⟨e.ks.set k l, e.vs.set k l'⟩ :=
  ⟨by show Ft _ r.kA (e.ks.set k l).length; rw [List.length_set]; exact h.k, by show Ft _ r.vA (e.vs.set k l').length; rw [List.length_set]; exact h.v, ft_set hk h.ks hA, ft_set hv h.vs hA'⟩
theorem Wp.last (h : Wp w0 N b wb kb vb x s Q r e v X c z W) : EOn (pW wb v) W r e := h.wk.ents (r, e) (by simp)
theorem Wp.setK (h : Wp w0 N b wb kb vb x s Q r e v X c z W) {k c' : Nat} {A : Option Addr} {l : List Int} (hk : k < e.ks.length) (hA : KIn .i64 W A l) (hf : Ft (fun j => v.ownBlock ≠ some j) A l.length) (hc : l.length ≤ c') :
    Wp w0 N b wb kb vb x s Q (r.setK k A c') ⟨e.ks.set k l, e.vs⟩ v X c z (W.setCell ⟨kb, k, none⟩ (.slice A l.length c')) := by
  have hno := off_row h.kr (slC_ints r.kB r.kC e.ks)
  have ho : ∀ j, j ≠ kb → (W.setCell ⟨kb, k, none⟩ (.slice A l.length c')).heap[j]? = W.heap[j]? := fun j hj => heap_setCell_other _ ⟨kb, k, none⟩ j _ hj
  have hl := h.last
  refine ⟨⟨(ho b (by have := h.wk.old; have := h.ge.1; omega)).trans h.wk.brain, h.wk.old, h.wk.new, (ho wb h.nb.1.symm).trans h.wk.blk, ?_, KIn.moved h.wk.nums (off hno h.wk.nums) ho, ?_, h.wk.below.setCell h.ge.1 _⟩, h.ka, h.va, sl_set h.kr hk, h.vr.of_block (ho vb h.ne.symm), h.ne, h.ge, h.nb, fun q hq => (h.apart q hq).moved fun j hj => ho j hj.2.1⟩
  · rw [eCs_setK]
    have h1 := own_moved h.wk.own fun j hj => ho j (own_off h.wk.own (row_block h.kr) row_type j hj)
    simpa using h1
  · intro q hq
    rcases List.mem_append.1 hq with hq | hq
    · exact ((h.apart q hq).moved fun j hj => ho j hj.2.1).mono fun _ hj => hj.1
    · rw [List.mem_singleton.1 hq]
      have h1 := hl.k
      rw [h.ka] at h1
      refine ⟨?_, ?_⟩
      · show LOn _ _ r.kA (updF r.kB k A) (updF r.kC k c') (e.ks.set k l)
        rw [h.ka]
        exact lon_set h1 h.kr hk hA ((off h.wk.no_ints hA).both hf) hc
      · exact ((lon_off hl.v hno (fun _ a ha => by rw [h.va] at ha; injection ha with ha; rw [← ha]; exact h.ne.symm)).moved fun j hj => ho j hj.2).mono fun _ hj => hj.1
theorem Wp.setV (h : Wp w0 N b wb kb vb x s Q r e v X c z W) {k c' : Nat} {A : Option Addr} {l : List Int} (hk : k < e.vs.length) (hA : KIn .i64 W A l) (hf : Ft (fun j => v.ownBlock ≠ some j) A l.length) (hc : l.length ≤ c') :
    Wp w0 N b wb kb vb x s Q (r.setV k A c') ⟨e.ks, e.vs.set k l⟩ v X c z (W.setCell ⟨vb, k, none⟩ (.slice A l.length c')) := by
  have hno := off_row h.vr (slC_ints r.vB r.vC e.vs)
  have ho : ∀ j, j ≠ vb → (W.setCell ⟨vb, k, none⟩ (.slice A l.length c')).heap[j]? = W.heap[j]? := fun j hj => heap_setCell_other _ ⟨vb, k, none⟩ j _ hj
  have hl := h.last
  refine ⟨⟨(ho b (by have := h.wk.old; have := h.ge.2; omega)).trans h.wk.brain, h.wk.old, h.wk.new, (ho wb h.nb.2.symm).trans h.wk.blk, ?_, KIn.moved h.wk.nums (off hno h.wk.nums) ho, ?_, h.wk.below.setCell h.ge.2 _⟩, h.ka, h.va, h.kr.of_block (ho kb h.ne), sl_set h.vr hk, h.ne, h.ge, h.nb, fun q hq => (h.apart q hq).moved fun j hj => ho j hj.2.2⟩
  · rw [eCs_setV]
    have h1 := own_moved h.wk.own fun j hj => ho j (own_off h.wk.own (row_block h.vr) row_type j hj)
    simpa using h1
  · intro q hq
    rcases List.mem_append.1 hq with hq | hq
    · exact ((h.apart q hq).moved fun j hj => ho j hj.2.2).mono fun _ hj => hj.1
    · rw [List.mem_singleton.1 hq]
      have h1 := hl.v
      rw [h.va] at h1
      refine ⟨?_, ?_⟩
      · exact ((lon_off hl.k hno (fun _ a ha => by rw [h.ka] at ha; injection ha with ha; rw [← ha]; exact h.ne)).moved fun j hj => ho j hj.2).mono fun _ hj => hj.1
      · show LOn _ _ r.vA (updF r.vB k A) (updF r.vC k c') (e.vs.set k l)
        rw [h.va]
        exact lon_set h1 h.vr hk hA ((off h.wk.no_ints hA).both hf) hc
end
end Sp
end Go.Proofs.YtkdkeokldcehhaaGreatDoor
namespace Go.Proofs.YtkdkeokldcehhaaGreatDoor
open Go.ChangeShapes Go.WideShapes Go.ChangeAt Go.RowKit Nm Cf Vc Br Sp

namespace Sp
theorem any_range_true {n j : Nat} {p : Nat → Bool} (hj : j < n) (h : p j = true) : (List.range n).any p = true := List.any_eq_true.2 ⟨j, List.mem_range.2 hj, h⟩
theorem any_range_false {n : Nat} {p : Nat → Bool} (h : ∀ i, i < n → p i = false) : (List.range n).any p = false := by
  rw [Bool.eq_false_iff]
  intro hh
  obtain ⟨i, hi, hp⟩ := List.any_eq_true.1 hh
  rw [h i (List.mem_range.1 hi)] at hp
  cases hp
theorem noB {p : Nat → Bool} {j : Nat} (h : ∀ i, i < j → p i = false) (hj : p j = false) : ∀ i, i < j + 1 → p i = false := fun i hi => by
  by_cases e : i = j
  · rw [e]; exact hj
  · exact h i (by omega)
end Sp

namespace Sp
def noQ : Er × Ent := (⟨none, 0, fun _ => none, fun _ => 0, none, 0, fun _ => none, fun _ => 0⟩, ⟨[], []⟩)
theorem getD_some {Q : List (Er × Ent)} {j : Nat} (h : j < Q.length) : Q[j]? = some (Q.getD j noQ) := by
  rw [List.getD_eq_getElem?_getD, List.getElem?_eq_getElem h]
  rfl
end Sp
section
variable (w : World) (A : Option Addr) (n c : Nat) (g : Nat) (lb : Array Value) (p : Nat → Bool)

set_option maxRecDepth 100000 in
set_option maxHeartbeats 1600000 in
theorem idx_ints (zs : List Int) (hz : zs.length = n) (hn : n ≤ 1000000) (hA : KIn .i64 w A zs) (eg : ∀ args w, (callFunc g args).run Tryz.prog w = .ok (.enter g args) w)
    (hp : ∀ W, Below w.heap.size w W → ∀ j, j < n → Calls Tryz.prog g (#[.int .i64 (zs.getD j 0)] ++ lb) W fun e w' => e = .returned (.bool (p j)) ∧ Below W.heap.size W w') :
    Calls Tryz.prog 80 #[.slice A n c, .func (.func g) #[] lb] w fun e w' => ∃ k : Int, e = .returned (.int .i64 k) ∧ decide (0 ≤ k) = (List.range n).any p ∧ Below w.heap.size w w' := by
  have HA := Lib.hid hA
  have HP := Lib.hid hp
  have HZ := Lib.hid hz
  clear hA hp hz
  go_enter Tryz.func80, Tryz.ntmps80
  go_wp2_with (fail)
  go_loopw [8] (fun i wr => ∃ j : Nat, i = .int .i64 (j : Int) ∧ j ≤ n ∧ Below w.heap.size w wr ∧ ∀ i, i < j → p i = false) (fun i _ => match i with | .int _ k => n - k.toNat | _ => 0)
  case atStart => exact ⟨0, rfl, Nat.zero_le _, Below.refl _ _, fun i hi => absurd hi (Nat.not_lt_zero _)⟩
  case round =>
    obtain ⟨j, rfl, hj, hb, hno⟩ := hrel
    have HB := Lib.hid hb
    have HNO := Lib.hid hno
    clear hb hno
    have x2 : 0 ≤ (j : Int) := by omega
    by_cases hlt : j < n
    · have x0 : (j : Int) < (n : Int) := by omega
      have x1 : decide ((j : Int) < (n : Int)) = true := decide_eq_true x0
      have HJ := Lib.hid (show j + 1 ≤ n by omega)
      have HLT := Lib.hid hlt
      have HC := Lib.hid (HP.out wr HB.out j hlt)
      obtain ⟨pb, po, rfl, hcell⟩ := (HA.out.below HB.out (Nat.le_refl _)).at (show j < zs.length by rw [HZ.out]; exact hlt)
      generalize zs.getD j 0 = u at hcell HC
      have x3 := IntWalk.wrap64_in ((j : Int) + 1) (by omega)
      cases hq : p j with
      | true =>
        rw [hq] at HC
        have HQ := Lib.hid hq
        clear hq
        go_wp2_with (go_at_fn g; refine HC.out.mono ?_; rintro e w2 ⟨rfl, b2⟩; have HB2 := Lib.hid (HB.out.trans (b2.mono HB.out.size)); clear b2)
        refine bodyPost_ret (results_tmp rfl _ _ _) rfl ?_
        exact ⟨_, rfl, by rw [any_range_true HLT.out HQ.out]; exact decide_eq_true (by omega), HB2.out⟩
      | false =>
        rw [hq] at HC
        have HQ := Lib.hid hq
        clear hq
        go_wp2_with (go_at_fn g; refine HC.out.mono ?_; rintro e w2 ⟨rfl, b2⟩; have HB2 := Lib.hid (HB.out.trans (b2.mono HB.out.size)); clear b2)
        exact ⟨⟨j + 1, rfl, HJ.out, HB2.out, noB HNO.out HQ.out⟩, vc_less j n HLT.out⟩
    · have hke : j = n := by omega
      have x0 : ¬ (j : Int) < (n : Int) := by omega
      have x1 : decide ((j : Int) < (n : Int)) = false := decide_eq_false x0
      rw [hke] at HNO
      clear hke hlt
      go_wp2_with (fail)
      refine bodyPost_ret (results_tmp rfl _ _ _) rfl ?_
      exact ⟨_, rfl, by rw [any_range_false HNO.out]; rfl, HB.out⟩
set_option maxRecDepth 100000 in
theorem any_ints (zs : List Int) (hz : zs.length = n) (hn : n ≤ 1000000) (hA : KIn .i64 w A zs) (eg : ∀ args w, (callFunc g args).run Tryz.prog w = .ok (.enter g args) w)
    (hp : ∀ W, Below w.heap.size w W → ∀ j, j < n → Calls Tryz.prog g (#[.int .i64 (zs.getD j 0)] ++ lb) W fun e w' => e = .returned (.bool (p j)) ∧ Below W.heap.size W w') :
    Calls Tryz.prog 52 #[.slice A n c, .func (.func g) #[] lb] w fun e w' => e = .returned (.bool ((List.range n).any p)) ∧ Below w.heap.size w w' := by
  have HI := Lib.hid (idx_ints w A n c g lb p zs hz hn hA eg hp)
  clear hA hp hz eg
  go_enter Tryz.func52, Tryz.ntmps52
  go_wp2_with (fail)
  refine HI.out.mono ?_
  rintro e w2 ⟨k, rfl, hk, b2⟩
  have HB := Lib.hid b2
  have HK := Lib.hid hk
  clear hk b2
  go_wp2_with (fail)
  refine bodyPost_ret (results_tmp rfl _ _ _) rfl ?_
  exact ⟨by rw [← HK.out]; rfl, HB.out⟩
set_option maxRecDepth 100000 in
set_option maxHeartbeats 1600000 in
theorem idx_rows (B : Nat → Option Addr) (C : Nat → Nat) (L : List (List Int)) (hz : L.length = n) (hn : n ≤ 1000000) (hA : LIn w A B C L) (eg : ∀ args w, (callFunc g args).run Tryz.prog w = .ok (.enter g args) w)
    (hp : ∀ W, Below w.heap.size w W → ∀ j, j < n → Calls Tryz.prog g (#[.slice (B j) (L.getD j []).length (C j)] ++ lb) W fun e w' => e = .returned (.bool (p j)) ∧ Below W.heap.size W w') :
    Calls Tryz.prog 84 #[.slice A n c, .func (.func g) #[] lb] w fun e w' => ∃ k : Int, e = .returned (.int .i64 k) ∧ decide (0 ≤ k) = (List.range n).any p ∧ Below w.heap.size w w' := by
  have HA := Lib.hid hA
  have HP := Lib.hid hp
  have HZ := Lib.hid hz
  clear hA hp hz
  go_enter Tryz.func84, Tryz.ntmps84
  go_wp2_with (fail)
  go_loopw [8] (fun i wr => ∃ j : Nat, i = .int .i64 (j : Int) ∧ j ≤ n ∧ Below w.heap.size w wr ∧ ∀ i, i < j → p i = false) (fun i _ => match i with | .int _ k => n - k.toNat | _ => 0)
  case atStart => exact ⟨0, rfl, Nat.zero_le _, Below.refl _ _, fun i hi => absurd hi (Nat.not_lt_zero _)⟩
  case round =>
    obtain ⟨j, rfl, hj, hb, hno⟩ := hrel
    have HB := Lib.hid hb
    have HNO := Lib.hid hno
    clear hb hno
    have x2 : 0 ≤ (j : Int) := by omega
    by_cases hlt : j < n
    · have x0 : (j : Int) < (n : Int) := by omega
      have x1 : decide ((j : Int) < (n : Int)) = true := decide_eq_true x0
      have HJ := Lib.hid (show j + 1 ≤ n by omega)
      have HLT := Lib.hid hlt
      have HC := Lib.hid (HP.out wr HB.out j hlt)
      obtain ⟨pb, po, rfl, hcell, _⟩ := (HA.out.below HB.out (Nat.le_refl _)).at (show j < L.length by rw [HZ.out]; exact hlt)
      generalize (L.getD j []).length = m at hcell HC
      generalize B j = uB at hcell HC
      generalize C j = uC at hcell HC
      have x3 := IntWalk.wrap64_in ((j : Int) + 1) (by omega)
      cases hq : p j with
      | true =>
        rw [hq] at HC
        have HQ := Lib.hid hq
        clear hq
        go_wp2_with (go_at_fn g; refine HC.out.mono ?_; rintro e w2 ⟨rfl, b2⟩; have HB2 := Lib.hid (HB.out.trans (b2.mono HB.out.size)); clear b2)
        refine bodyPost_ret (results_tmp rfl _ _ _) rfl ?_
        exact ⟨_, rfl, by rw [any_range_true HLT.out HQ.out]; exact decide_eq_true (by omega), HB2.out⟩
      | false =>
        rw [hq] at HC
        have HQ := Lib.hid hq
        clear hq
        go_wp2_with (go_at_fn g; refine HC.out.mono ?_; rintro e w2 ⟨rfl, b2⟩; have HB2 := Lib.hid (HB.out.trans (b2.mono HB.out.size)); clear b2)
        exact ⟨⟨j + 1, rfl, HJ.out, HB2.out, noB HNO.out HQ.out⟩, vc_less j n HLT.out⟩
    · have hke : j = n := by omega
      have x0 : ¬ (j : Int) < (n : Int) := by omega
      have x1 : decide ((j : Int) < (n : Int)) = false := decide_eq_false x0
      rw [hke] at HNO
      clear hke hlt
      go_wp2_with (fail)
      refine bodyPost_ret (results_tmp rfl _ _ _) rfl ?_
      exact ⟨_, rfl, by rw [any_range_false HNO.out]; rfl, HB.out⟩
set_option maxRecDepth 100000 in
theorem any_rows (B : Nat → Option Addr) (C : Nat → Nat) (L : List (List Int)) (hz : L.length = n) (hn : n ≤ 1000000) (hA : LIn w A B C L) (eg : ∀ args w, (callFunc g args).run Tryz.prog w = .ok (.enter g args) w)
    (hp : ∀ W, Below w.heap.size w W → ∀ j, j < n → Calls Tryz.prog g (#[.slice (B j) (L.getD j []).length (C j)] ++ lb) W fun e w' => e = .returned (.bool (p j)) ∧ Below W.heap.size W w') :
    Calls Tryz.prog 60 #[.slice A n c, .func (.func g) #[] lb] w fun e w' => e = .returned (.bool ((List.range n).any p)) ∧ Below w.heap.size w w' := by
  have HI := Lib.hid (idx_rows w A n c g lb p B C L hz hn hA eg hp)
  clear hA hp hz eg
  go_enter Tryz.func60, Tryz.ntmps60
  go_wp2_with (fail)
  refine HI.out.mono ?_
  rintro e w2 ⟨k, rfl, hk, b2⟩
  have HB := Lib.hid b2
  have HK := Lib.hid hk
  clear hk b2
  go_wp2_with (fail)
  refine bodyPost_ret (results_tmp rfl _ _ _) rfl ?_
  exact ⟨by rw [← HK.out]; rfl, HB.out⟩
set_option maxRecDepth 100000 in
set_option maxHeartbeats 1600000 in
theorem idx_ents (Q : List (Er × Ent)) (hz : Q.length = n) (hn : n ≤ 1000000) (hA : EsAt w A Q) (eg : ∀ args w, (callFunc g args).run Tryz.prog w = .ok (.enter g args) w)
    (hp : ∀ W, Below w.heap.size w W → ∀ j, j < n → Calls Tryz.prog g (#[eV (Q.getD j noQ).1 (Q.getD j noQ).2] ++ lb) W fun e w' => e = .returned (.bool (p j)) ∧ Below W.heap.size W w') :
    Calls Tryz.prog 112 #[.slice A n c, .func (.func g) #[] lb] w fun e w' => ∃ k : Int, e = .returned (.int .i64 k) ∧ decide (0 ≤ k) = (List.range n).any p ∧ Below w.heap.size w w' := by
  have HA := Lib.hid hA
  have HP := Lib.hid hp
  have HZ := Lib.hid hz
  clear hA hp hz
  go_enter Tryz.func112, Tryz.ntmps112
  go_wp2_with (fail)
  go_loopw [8] (fun i wr => ∃ j : Nat, i = .int .i64 (j : Int) ∧ j ≤ n ∧ Below w.heap.size w wr ∧ ∀ i, i < j → p i = false) (fun i _ => match i with | .int _ k => n - k.toNat | _ => 0)
  case atStart => exact ⟨0, rfl, Nat.zero_le _, Below.refl _ _, fun i hi => absurd hi (Nat.not_lt_zero _)⟩
  case round =>
    obtain ⟨j, rfl, hj, hb, hno⟩ := hrel
    have HB := Lib.hid hb
    have HNO := Lib.hid hno
    clear hb hno
    have x2 : 0 ≤ (j : Int) := by omega
    by_cases hlt : j < n
    · have x0 : (j : Int) < (n : Int) := by omega
      have x1 : decide ((j : Int) < (n : Int)) = true := decide_eq_true x0
      have HJ := Lib.hid (show j + 1 ≤ n by omega)
      have HLT := Lib.hid hlt
      have HC := Lib.hid (HP.out wr HB.out j hlt)
      obtain ⟨pb, po, rfl, hcell, hcell2⟩ := (HA.out.below HB.out).cell (getD_some (show j < Q.length by rw [HZ.out]; exact hlt))
      unfold eV at HC
      generalize (Q.getD j noQ).2.ks.length = m at hcell HC
      generalize (Q.getD j noQ).2.vs.length = m2 at hcell2 HC
      generalize (Q.getD j noQ).1.kA = uB at hcell HC
      generalize (Q.getD j noQ).1.kc = uC at hcell HC
      generalize (Q.getD j noQ).1.vA = vB at hcell2 HC
      generalize (Q.getD j noQ).1.vc = vC at hcell2 HC
      have x3 := IntWalk.wrap64_in ((j : Int) + 1) (by omega)
      cases hq : p j with
      | true =>
        rw [hq] at HC
        have HQ := Lib.hid hq
        clear hq
        go_wp2_with (go_at_fn g; refine HC.out.mono ?_; rintro e w2 ⟨rfl, b2⟩; have HB2 := Lib.hid (HB.out.trans (b2.mono HB.out.size)); clear b2)
        refine bodyPost_ret (results_tmp rfl _ _ _) rfl ?_
        exact ⟨_, rfl, by rw [any_range_true HLT.out HQ.out]; exact decide_eq_true (by omega), HB2.out⟩
      | false =>
        rw [hq] at HC
        have HQ := Lib.hid hq
        clear hq
        go_wp2_with (go_at_fn g; refine HC.out.mono ?_; rintro e w2 ⟨rfl, b2⟩; have HB2 := Lib.hid (HB.out.trans (b2.mono HB.out.size)); clear b2)
        exact ⟨⟨j + 1, rfl, HJ.out, HB2.out, noB HNO.out HQ.out⟩, vc_less j n HLT.out⟩
    · have hke : j = n := by omega
      have x0 : ¬ (j : Int) < (n : Int) := by omega
      have x1 : decide ((j : Int) < (n : Int)) = false := decide_eq_false x0
      rw [hke] at HNO
      clear hke hlt
      go_wp2_with (fail)
      refine bodyPost_ret (results_tmp rfl _ _ _) rfl ?_
      exact ⟨_, rfl, by rw [any_range_false HNO.out]; rfl, HB.out⟩
set_option maxRecDepth 100000 in
theorem any_ents (Q : List (Er × Ent)) (hz : Q.length = n) (hn : n ≤ 1000000) (hA : EsAt w A Q) (eg : ∀ args w, (callFunc g args).run Tryz.prog w = .ok (.enter g args) w)
    (hp : ∀ W, Below w.heap.size w W → ∀ j, j < n → Calls Tryz.prog g (#[eV (Q.getD j noQ).1 (Q.getD j noQ).2] ++ lb) W fun e w' => e = .returned (.bool (p j)) ∧ Below W.heap.size W w') :
    Calls Tryz.prog 86 #[.slice A n c, .func (.func g) #[] lb] w fun e w' => e = .returned (.bool ((List.range n).any p)) ∧ Below w.heap.size w w' := by
  have HI := Lib.hid (idx_ents w A n c g lb p Q hz hn hA eg hp)
  clear hA hp hz eg
  go_enter Tryz.func86, Tryz.ntmps86
  go_wp2_with (fail)
  refine HI.out.mono ?_
  rintro e w2 ⟨k, rfl, hk, b2⟩
  have HB := Lib.hid b2
  have HK := Lib.hid hk
  clear hk b2
  go_wp2_with (fail)
  refine bodyPost_ret (results_tmp rfl _ _ _) rfl ?_
  exact ⟨by rw [← HK.out]; rfl, HB.out⟩
end
end Go.Proofs.YtkdkeokldcehhaaGreatDoor
namespace Go.Proofs.YtkdkeokldcehhaaGreatDoor
open Go.ChangeShapes Go.WideShapes Go.ChangeAt Go.RowKit Nm Cf Vc Br Sp

namespace Sp
theorem sat_is (z : Int) : (sat z != z) = !actB z := by
  have h := Nr.sat_in z
  have h2 : actB z = true ↔ sat z = z := by
    rw [actB_iff]
    refine ⟨fun hh => ?_, fun hh => by rw [← hh]; exact h⟩
    unfold sat clamp
    split
    · omega
    · split <;> omega
  cases ha : actB z with
  | true => rw [h2.1 ha]; simp
  | false =>
    have : sat z ≠ z := fun e => by rw [h2.2 e] at ha; cases ha
    simpa using this
theorem all_range {α : Type} (l : List α) (d : α) (p : α → Bool) : (List.range l.length).any (fun i => !p (l.getD i d)) = !l.all p := by
  have h1 : l = (List.range l.length).map fun i => l.getD i d := by
    apply List.ext_getElem
    · simp
    · intro i h1 h2
      simp [List.getD_eq_getElem?_getD, List.getElem?_eq_getElem h1]
  conv => rhs; rw [h1]
  rw [List.all_map, List.not_all_eq_any_not]
  rfl
/-- A captured variable's block: a model. -/
def bxO (b : Nat) : Obj := .cells #[.pointer (some ⟨b, 0, none⟩)] 30 (0, 0)
theorem bx0 {w : World} {B b : Nat} (h : w.heap[B]? = some (bxO b)) : w.cell? ⟨B, 0, none⟩ = some (.pointer (some ⟨b, 0, none⟩)) := by rw [cell_of_row w B 0 _ _ _ h]; rfl
theorem bx_stays {w w' : World} {B b : Nat} (h : w.heap[B]? = some (bxO b)) (hb : Below w.heap.size w w') : w'.heap[B]? = some (bxO b) := (hb.block B (Array.getElem?_eq_some_iff.1 h).1).trans h
end Sp
theorem eg_beyond : ∀ args w, (callFunc 59 args).run Tryz.prog w = .ok (.enter 59 args) w := Go.Proofs.enters_of Tryz.func59 (by kernel_rfl) rfl
theorem eg_fits1 : ∀ args w, (callFunc 58 args).run Tryz.prog w = .ok (.enter 58 args) w := Go.Proofs.enters_of Tryz.func58 (by kernel_rfl) rfl
theorem step_beyond (z : Int) (w : World) : Calls Tryz.prog 59 #[.int .i64 z] w fun e w' => e = .returned (.bool (!actB z)) ∧ w = w' := by
  have H := Lib.hid (sat_is z)
  go_enter Tryz.func59, Tryz.ntmps59
  go_wp2_with (fail)
  refine (sat_any z w).mono ?_
  rintro e w' ⟨rfl, rfl⟩
  go_wp2_with (fail)
  refine bodyPost_ret (results_tmp rfl _ _ _) rfl ?_
  exact ⟨by rw [← H.out]; rfl, rfl⟩
section
variable (w : World) (b : Nat) (x : Cfg) (s : ByteArray) (h : w.heap[b]? = some (brO x s))
include h
set_option maxRecDepth 100000 in
set_option maxHeartbeats 1600000 in
theorem step_whole (hk : Ok x s) : Calls Tryz.prog 27 #[.pointer (some ⟨b, 0, none⟩)] w fun e w' => e = .returned (.bool true) ∧ Below w.heap.size w w' := by
  have HS := Lib.hid (fun W => conf_size W x)
  rw [if_pos (good_iff.2 hk.good), ← hk.size] at HS
  have h0 := hk.least
  have HW := Lib.hid (fun W (hW : Below w.heap.size w W) => brain_weights' W b x s (Br.stays h hW))
  have HH := Lib.hid h
  have HB := Lib.hid (Below.refl w.heap.size w)
  obtain ⟨e0, e1, e2, e3, e4, e5, e6⟩ := seven h
  have t0 : 0 < (s.size : Int) := by omega
  have t1 : decide (0 < (s.size : Int)) = true := decide_eq_true t0
  have t2 : ((s.size : Int) == (s.size : Int)) = true := beq_self_eq_true _
  clear h hk
  unfold cfV cfA at HS
  go_enter Tryz.func27, Tryz.ntmps27
  go_wp2_with (fail)
  refine (HS.out _).mono ?_
  rintro e w1 ⟨rfl, b1⟩
  have HB1 := Lib.hid (HB.out.trans (b1.mono HB.out.size))
  have HH1 := Lib.hid (Br.stays HH.out b1)
  clear e0 e1 e2 e3 e4 e5 e6 b1
  obtain ⟨e0, e1, e2, e3, e4, e5, e6⟩ := seven HH1.out
  go_wp2_with (fail)
  refine (HS.out _).mono ?_
  rintro e w2 ⟨rfl, b2⟩
  have HB2 := Lib.hid (HB1.out.trans (b2.mono HB1.out.size))
  clear e0 e1 e2 e3 e4 e5 e6 b2
  go_wp2_with (fail)
  refine (HW.out _ HB2.out).mono ?_
  rintro e w3 ⟨rfl, rfl⟩
  go_wp2_with (fail)
  exact bodyPost_ret (results_tmp rfl _ _ _) rfl ⟨rfl, HB2.out⟩
omit h in
theorem step_whole_nil (w : World) : Calls Tryz.prog 27 #[.pointer none] w fun e w' => e = .returned (.bool false) ∧ w = w' := by
  go_enter Tryz.func27, Tryz.ntmps27
  go_wp2_with (fail)
  exact bodyPost_ret (results_tmp rfl _ _ _) rfl ⟨rfl, rfl⟩
set_option maxRecDepth 100000 in
set_option maxHeartbeats 1600000 in
/-- The closure of fits: whether a row is none of a model's. -/
theorem step_fits1 (hg : Cf.Good x) (B : Nat) (hB : w.heap[B]? = some (bxO b)) (A : Option Addr) (n c : Nat) (l : List Int) (hn : l.length = n) (hA : KIn .i64 w A l) :
    Calls Tryz.prog 58 #[.slice A n c, .pointer (some ⟨B, 0, none⟩)] w fun e w' => e = .returned (.bool (!rowB (dN x) l)) ∧ Below w.heap.size w w' := by
  have hd := (dims hg.is).1
  obtain ⟨e0, e1, e2, e3, e4, e5, e6⟩ := seven h
  have x0 := bx0 hB
  clear h hB
  by_cases he : n = dN x
  · have hm : n ≤ 1000000 := by have := hg.is.d16; omega
    have HAN := Lib.hid (any_ints w A n c 59 #[] (fun i => !actB (l.getD i 0)) l hn hm hA eg_beyond (fun W _ j _ => (step_beyond (l.getD j 0) W).mono fun e w' ⟨he, hw⟩ => ⟨he, by rw [← hw]; exact Below.refl _ _⟩))
    have hr : (List.range n).any (fun i => !actB (l.getD i 0)) = !l.all actB := by rw [← hn]; exact all_range l 0 actB
    rw [hr] at HAN
    clear hA hr hm
    have HR := Lib.hid (show rowB (dN x) l = l.all actB by unfold rowB; rw [decide_eq_true (hn.trans he)]; rfl)
    have t1 : ((n : Int) != x.d) = false := by rw [← hd, he]; simp
    generalize l.all actB = r at HAN HR
    clear he hn hd hg
    go_enter Tryz.func58, Tryz.ntmps58
    go_wp2_with (fail)
    refine HAN.out.mono ?_
    rintro e w1 ⟨rfl, b1⟩
    have HB1 := Lib.hid b1
    clear b1
    go_wp2_with (fail)
    exact bodyPost_ret (results_tmp rfl _ _ _) rfl ⟨by rw [HR.out]; rfl, HB1.out⟩
  · have HR := Lib.hid (show rowB (dN x) l = false by unfold rowB; rw [decide_eq_false (by rw [hn]; exact he)]; rfl)
    have t1 : ((n : Int) != x.d) = true := by
      rw [bne_iff_ne]
      omega
    clear he hn hd hg hA
    go_enter Tryz.func58, Tryz.ntmps58
    go_wp2_with (fail)
    exact bodyPost_ret (results_tmp rfl _ _ _) rfl ⟨by rw [HR.out]; rfl, Below.refl _ _⟩
set_option maxRecDepth 100000 in
set_option maxHeartbeats 1600000 in
theorem step_fits (hg : Cf.Good x) (A : Option Addr) (n c : Nat) (B : Nat → Option Addr) (C : Nat → Nat) (L : List (List Int)) (hn : L.length = n) (hA : LIn w A B C L) :
    Calls Tryz.prog 28 #[.pointer (some ⟨b, 0, none⟩), .slice A n c] w fun e w' => e = .returned (.bool (rowsB (bN x) (dN x) L)) ∧ Below w.heap.size w w' := by
  have hb0 := (Below.refl w.heap.size w).alloc (Nat.le_refl _) (bxO b)
  have HB0 := Lib.hid hb0
  have HN0 := Lib.hid (heap_alloc_new w (bxO b))
  have HH0 := Lib.hid (Br.stays h hb0)
  have hd := (dims hg.is).2.2.1
  obtain ⟨e0, e1, e2, e3, e4, e5, e6⟩ := seven HH0.out
  have x0 := bx0 HN0.out
  unfold bxO at e0 e1 e2 e3 e4 e5 e6 x0
  clear h
  by_cases he : n = bN x
  · have hm : n ≤ 1000000 := by have := hg.is.b3; omega
    have HAN := Lib.hid (any_rows (w.alloc (bxO b)) A n c 58 #[.pointer (some ⟨w.heap.size, 0, none⟩)] (fun i => !rowB (dN x) (L.getD i [])) B C L hn hm (hA.below hb0 (Nat.le_refl _)) eg_fits1 (fun W hW j hj => by
      have hA' := (hA.below hb0 (Nat.le_refl _)).below hW (Nat.le_refl _)
      obtain ⟨_, _, _, _, hx⟩ := hA'.at (show j < L.length by omega)
      exact step_fits1 W b x s (Br.stays HH0.out hW) hg w.heap.size (bx_stays HN0.out hW) (B j) _ (C j) (L.getD j []) rfl hx))
    have hr : (List.range n).any (fun i => !rowB (dN x) (L.getD i [])) = !L.all (rowB (dN x)) := by rw [← hn]; exact all_range L [] (rowB (dN x))
    rw [hr] at HAN
    unfold bxO at HAN
    clear hA hr hb0 hm
    have HR := Lib.hid (show rowsB (bN x) (dN x) L = L.all (rowB (dN x)) by unfold rowsB; rw [decide_eq_true (hn.trans he)]; rfl)
    have t1 : ((n : Int) == x.b) = true := by rw [← hd, he]; simp
    generalize L.all (rowB (dN x)) = r at HAN HR
    clear he hn hd hg
    go_enter Tryz.func28, Tryz.ntmps28
    go_wp2_with (fail)
    refine HAN.out.mono ?_
    rintro e w1 ⟨rfl, b1⟩
    have HB1 := Lib.hid (HB0.out.trans (b1.mono HB0.out.size))
    clear b1
    go_wp2_with (fail)
    exact bodyPost_ret (results_tmp rfl _ _ _) rfl ⟨by rw [HR.out]; cases r <;> rfl, HB1.out⟩
  · have HR := Lib.hid (show rowsB (bN x) (dN x) L = false by unfold rowsB; rw [decide_eq_false (by rw [hn]; exact he)]; rfl)
    have t1 : ((n : Int) == x.b) = false := by
      rw [beq_eq_false_iff_ne]
      omega
    clear he hn hd hg hA hb0
    go_enter Tryz.func28, Tryz.ntmps28
    go_wp2_with (fail)
    exact bodyPost_ret (results_tmp rfl _ _ _) rfl ⟨by rw [HR.out]; rfl, HB0.out⟩
set_option maxRecDepth 100000 in
set_option maxHeartbeats 1600000 in
theorem step_good (hk : Ok x s) (r : Er) (e : Ent) (he : EOn (fun _ => True) w r e) :
    Calls Tryz.prog 10 #[.pointer (some ⟨b, 0, none⟩), eV r e] w fun e' w' => e' = .returned (.bool (goodE x e)) ∧ Below w.heap.size w w' := by
  have HWH := Lib.hid (fun W (hW : Below w.heap.size w W) => step_whole W b x s (Br.stays h hW) hk)
  have HK := Lib.hid (fun W (hW : Below w.heap.size w W) => step_fits W b x s (Br.stays h hW) hk.good r.kA e.ks.length r.kc r.kB r.kC e.ks rfl (he.k.is.below hW (Nat.le_refl _)))
  have HV := Lib.hid (fun W (hW : Below w.heap.size w W) => step_fits W b x s (Br.stays h hW) hk.good r.vA e.vs.length r.vc r.vB r.vC e.vs rfl (he.v.is.below hW (Nat.le_refl _)))
  have hb0 := (Below.refl w.heap.size w).alloc (Nat.le_refl _) (.cells #[.slice r.kA e.ks.length r.kc, .slice r.vA e.vs.length r.vc] 29 (0, 0))
  have HB0 := Lib.hid hb0
  have HN0 := Lib.hid (heap_alloc_new w (.cells #[.slice r.kA e.ks.length r.kc, .slice r.vA e.vs.length r.vc] 29 (0, 0)))
  have c0 : (w.alloc (.cells #[.slice r.kA e.ks.length r.kc, .slice r.vA e.vs.length r.vc] 29 (0, 0))).cell? ⟨w.heap.size, 0, none⟩ = some (.slice r.kA e.ks.length r.kc) := by rw [cell_of_row _ _ _ _ _ _ HN0.out]; rfl
  have c1 : (w.alloc (.cells #[.slice r.kA e.ks.length r.kc, .slice r.vA e.vs.length r.vc] 29 (0, 0))).cell? ⟨w.heap.size, 1, none⟩ = some (.slice r.vA e.vs.length r.vc) := by rw [cell_of_row _ _ _ _ _ _ HN0.out]; rfl
  have HG := Lib.hid (show goodE x e = (rowsB (bN x) (dN x) e.ks && rowsB (bN x) (dN x) e.vs) from rfl)
  rw [HG.out]
  generalize rowsB (bN x) (dN x) e.ks = k1 at HK ⊢
  generalize rowsB (bN x) (dN x) e.vs = k2 at HV ⊢
  clear HG
  unfold eV
  generalize e.ks.length = n1 at *
  generalize e.vs.length = n2 at *
  generalize r.kA = A1 at *
  generalize r.kc = q1 at *
  generalize r.vA = A2 at *
  generalize r.vc = q2 at *
  clear h hk he hb0
  go_enter Tryz.func10, Tryz.ntmps10
  go_wp2_with (fail)
  refine (HWH.out _ HB0.out).mono ?_
  rintro e' w1 ⟨rfl, b1⟩
  have HB1 := Lib.hid (HB0.out.trans (b1.mono HB0.out.size))
  have HN1 := Lib.hid ((b1.block _ (Array.getElem?_eq_some_iff.1 HN0.out).1).trans HN0.out)
  clear b1 c0 c1
  have c0 : w1.cell? ⟨w.heap.size, 0, none⟩ = some (.slice A1 n1 q1) := by rw [cell_of_row _ _ _ _ _ _ HN1.out]; rfl
  have c1 : w1.cell? ⟨w.heap.size, 1, none⟩ = some (.slice A2 n2 q2) := by rw [cell_of_row _ _ _ _ _ _ HN1.out]; rfl
  go_wp2_with (fail)
  refine (HK.out _ HB1.out).mono ?_
  rintro e' w2 ⟨rfl, b2⟩
  have HB2 := Lib.hid (HB1.out.trans (b2.mono HB1.out.size))
  have HN2 := Lib.hid ((b2.block _ (Array.getElem?_eq_some_iff.1 HN1.out).1).trans HN1.out)
  clear b2 c0 c1
  have c1 : w2.cell? ⟨w.heap.size, 1, none⟩ = some (.slice A2 n2 q2) := by rw [cell_of_row _ _ _ _ _ _ HN2.out]; rfl
  cases k1 with
  | false =>
    go_wp2_with (fail)
    exact bodyPost_ret (results_tmp rfl _ _ _) rfl ⟨rfl, HB2.out⟩
  | true =>
    go_wp2_with (fail)
    refine (HV.out _ HB2.out).mono ?_
    rintro e' w3 ⟨rfl, b3⟩
    have HB3 := Lib.hid (HB2.out.trans (b3.mono HB2.out.size))
    clear b3
    go_wp2_with (fail)
    exact bodyPost_ret (results_tmp rfl _ _ _) rfl ⟨by cases k2 <;> rfl, HB3.out⟩
end
end Go.Proofs.YtkdkeokldcehhaaGreatDoor
namespace Go.Proofs.YtkdkeokldcehhaaGreatDoor
open Go.ChangeShapes Go.WideShapes Go.ChangeAt Go.RowKit Nm Cf Vc Br Sp

namespace Sp
def tokB (x : Cfg) (z : Int) : Bool := decide (0 ≤ z) && decide (z < x.v)
/-- What a run answers. -/
def errR (x : Cfg) (past : List Ent) (ts : List Int) : Int := if ts ≠ [] ∧ past.all (goodE x) = true then (if ts.all (tokB x) = true then (if (past.length : Int) + ts.length ≤ x.c then 0 else 12) else 3) else 1
theorem errR_one (x : Cfg) (past : List Ent) (tok : Int) : errR x past [tok] = errZ x past tok := by
  have h1 : ([tok] ≠ ([] : List Int) ∧ past.all (goodE x) = true) = (past.all (goodE x) = true) := by simp
  have h2 : ([tok].all (tokB x) = true) = (0 ≤ tok ∧ tok < x.v) := by simp [tokB]
  have h3 : ((past.length : Int) + ([tok] : List Int).length ≤ x.c) = ((past.length : Int) < x.c) := by
    show ((past.length : Int) + 1 ≤ x.c) = _
    exact propext ⟨fun h => by omega, fun h => by omega⟩
  unfold errR errZ
  simp only [h1, h2, h3]
theorem errR_none (x : Cfg) (past : List Ent) : errR x past [] = 1 := if_neg (by simp)
theorem errR_ok {x : Cfg} {past : List Ent} {ts : List Int} : errR x past ts = 0 ↔ ts ≠ [] ∧ past.all (goodE x) = true ∧ ts.all (tokB x) = true ∧ (past.length : Int) + ts.length ≤ x.c := by
  unfold errR
  split
  · rename_i h1
    split
    · rename_i h2
      split
      · rename_i h3; simp [h1, h2, h3]
      · rename_i h3; simp [h3]
    · rename_i h2; simp [h2]
  · rename_i h1
    constructor
    · intro h; cases h
    · rintro ⟨a, b, _⟩; exact absurd ⟨a, b⟩ h1
def past (Q : List (Er × Ent)) : List Ent := Q.map (·.2)
theorem past_length (Q : List (Er × Ent)) : (past Q).length = Q.length := by simp [past]
theorem past_append (Q R : List (Er × Ent)) : past (Q ++ R) = past Q ++ past R := by simp [past]
theorem past_all (Q : List (Er × Ent)) (p : Ent → Bool) : (List.range Q.length).any (fun i => !p (Q.getD i noQ).2) = !(past Q).all p := by
  have := all_range Q noQ (fun q => p q.2)
  rw [this]
  unfold past
  rw [List.all_map]
  rfl
end Sp
theorem eg_check1 : ∀ args w, (callFunc 85 args).run Tryz.prog w = .ok (.enter 85 args) w := Go.Proofs.enters_of Tryz.func85 (by kernel_rfl) rfl
theorem eg_check2 : ∀ args w, (callFunc 87 args).run Tryz.prog w = .ok (.enter 87 args) w := Go.Proofs.enters_of Tryz.func87 (by kernel_rfl) rfl
section
variable (w : World) (b : Nat) (x : Cfg) (s : ByteArray) (h : w.heap[b]? = some (brO x s))
include h
set_option maxRecDepth 100000 in
set_option maxHeartbeats 1600000 in
theorem step_check1 (hk : Ok x s) (B : Nat) (hB : w.heap[B]? = some (bxO b)) (r : Er) (e : Ent) (he : EOn (fun _ => True) w r e) :
    Calls Tryz.prog 85 #[eV r e, .pointer (some ⟨B, 0, none⟩)] w fun e' w' => e' = .returned (.bool (!goodE x e)) ∧ Below w.heap.size w w' := by
  have hb0 := (Below.refl w.heap.size w).alloc (Nat.le_refl _) (.cells #[.slice r.kA e.ks.length r.kc, .slice r.vA e.vs.length r.vc] 29 (0, 0))
  have HB0 := Lib.hid hb0
  have HG := Lib.hid (step_good _ b x s (Br.stays h hb0) hk r e (he.below hb0))
  have hN0 := heap_alloc_new w (.cells #[.slice r.kA e.ks.length r.kc, .slice r.vA e.vs.length r.vc] 29 (0, 0))
  have c0 : (w.alloc (.cells #[.slice r.kA e.ks.length r.kc, .slice r.vA e.vs.length r.vc] 29 (0, 0))).cell? ⟨w.heap.size, 0, none⟩ = some (.slice r.kA e.ks.length r.kc) := by rw [cell_of_row _ _ _ _ _ _ hN0]; rfl
  have c1 : (w.alloc (.cells #[.slice r.kA e.ks.length r.kc, .slice r.vA e.vs.length r.vc] 29 (0, 0))).cell? ⟨w.heap.size, 1, none⟩ = some (.slice r.vA e.vs.length r.vc) := by rw [cell_of_row _ _ _ _ _ _ hN0]; rfl
  have x0 := bx0 (bx_stays hB hb0)
  generalize goodE x e = k at *
  unfold eV at HG ⊢
  generalize e.ks.length = n1 at *
  generalize e.vs.length = n2 at *
  generalize r.kA = A1 at *
  generalize r.kc = q1 at *
  generalize r.vA = A2 at *
  generalize r.vc = q2 at *
  clear h hk he hB hN0 hb0
  go_enter Tryz.func85, Tryz.ntmps85
  go_wp2_with (fail)
  refine HG.out.mono ?_
  rintro e' w1 ⟨rfl, b1⟩
  have HB1 := Lib.hid (HB0.out.trans (b1.mono HB0.out.size))
  clear b1 c0 c1 x0
  go_wp2_with (fail)
  exact bodyPost_ret (results_tmp rfl _ _ _) rfl ⟨rfl, HB1.out⟩
set_option maxRecDepth 100000 in
set_option maxHeartbeats 1600000 in
theorem step_check2 (B : Nat) (hB : w.heap[B]? = some (bxO b)) (z : Int) :
    Calls Tryz.prog 87 #[.int .i64 z, .pointer (some ⟨B, 0, none⟩)] w fun e' w' => e' = .returned (.bool (!tokB x z)) ∧ Below w.heap.size w w' := by
  obtain ⟨e0, e1, e2, e3, e4, e5, e6⟩ := seven h
  have x0 := bx0 hB
  clear h hB
  by_cases h1 : z < 0
  · have hr := Lib.hid (show tokB x z = false by unfold tokB; rw [decide_eq_false (by omega)]; rfl)
    have t1 : decide (z < 0) = true := decide_eq_true h1
    go_enter Tryz.func87, Tryz.ntmps87
    go_wp2_with (fail)
    exact bodyPost_ret (results_tmp rfl _ _ _) rfl ⟨by rw [hr.out]; rfl, Below.refl _ _⟩
  · have t1 : decide (z < 0) = false := decide_eq_false h1
    by_cases h2 : z < x.v
    · have hr := Lib.hid (show tokB x z = true by unfold tokB; rw [decide_eq_true (show 0 ≤ z by omega), decide_eq_true h2]; rfl)
      have t2 : decide (x.v ≤ z) = false := decide_eq_false (by omega)
      have t3 : ¬ x.v ≤ z := by omega
      go_enter Tryz.func87, Tryz.ntmps87
      go_wp2_with (fail)
      exact bodyPost_ret (results_tmp rfl _ _ _) rfl ⟨by rw [hr.out]; rfl, Below.refl _ _⟩
    · have hr := Lib.hid (show tokB x z = false by unfold tokB; rw [decide_eq_false h2, Bool.and_false])
      have t3 : x.v ≤ z := by omega
      have t2 : decide (x.v ≤ z) = true := decide_eq_true t3
      go_enter Tryz.func87, Tryz.ntmps87
      go_wp2_with (fail)
      exact bodyPost_ret (results_tmp rfl _ _ _) rfl ⟨by rw [hr.out]; rfl, Below.refl _ _⟩
end
section
variable (w : World) (A : Option Addr) (n c : Nat) (Q : List (Er × Ent)) (T : Option Addr) (m d : Nat) (ts : List Int)
set_option maxRecDepth 100000 in
theorem step_check_nil : Calls Tryz.prog 61 #[.pointer none, .slice A n c, .slice T m d] w fun e w' => e = .returned (.int .i64 2) ∧ Below w.heap.size w w' := by
  have HB0 := Lib.hid ((Below.refl w.heap.size w).alloc (Nat.le_refl _) (.cells #[.pointer none] 30 (0, 0)))
  go_enter Tryz.func61, Tryz.ntmps61
  go_wp2_with (fail)
  refine (step_whole_nil _).mono ?_
  rintro e w1 ⟨rfl, rfl⟩
  go_wp2_with (fail)
  exact bodyPost_ret (results_tmp rfl _ _ _) rfl ⟨rfl, HB0.out⟩
set_option maxRecDepth 100000 in
set_option maxHeartbeats 3200000 in
theorem step_check (b : Nat) (x : Cfg) (s : ByteArray) (h : w.heap[b]? = some (brO x s)) (hk : Ok x s) (hQ : Q.length = n) (hn : n ≤ 1000000) (hA : EsIn w A Q) (hT : ts.length = m) (hm : m ≤ 1000000) (hK : KIn .i64 w T ts) :
    Calls Tryz.prog 61 #[.pointer (some ⟨b, 0, none⟩), .slice A n c, .slice T m d] w fun e w' => e = .returned (.int .i64 (errR x (past Q) ts)) ∧ Below w.heap.size w w' := by
  have hb0 := (Below.refl w.heap.size w).alloc (Nat.le_refl _) (bxO b)
  have HB0 := Lib.hid hb0
  have HN0 := Lib.hid (heap_alloc_new w (bxO b))
  have HH := Lib.hid h
  have HWH := Lib.hid (fun W (hW : Below w.heap.size w W) => step_whole W b x s (Br.stays h hW) hk)
  have HC1 := Lib.hid (fun W (hW : Below w.heap.size w W) (hX : W.heap[w.heap.size]? = some (bxO b)) => show Calls Tryz.prog 86 #[.slice A n c, .func (.func 85) #[] #[.pointer (some ⟨w.heap.size, 0, none⟩)]] W fun e w' => e = .returned (.bool (!(past Q).all (goodE x))) ∧ Below W.heap.size W w' from by
    have := any_ents W A n c 85 #[.pointer (some ⟨w.heap.size, 0, none⟩)] (fun i => !goodE x (Q.getD i noQ).2) Q hQ hn (hA.row.below hW) eg_check1 (fun W2 hW2 j hj =>
      step_check1 W2 b x s (Br.stays (Br.stays h hW) hW2) hk w.heap.size (bx_stays hX hW2) (Q.getD j noQ).1 (Q.getD j noQ).2 (((hA.below hW).below hW2).all _ (by rw [List.getD_eq_getElem?_getD, List.getElem?_eq_getElem (show j < Q.length by omega)]; exact List.getElem_mem _)))
    rwa [← hQ, past_all, hQ] at this)
  have HC2 := Lib.hid (fun W (hW : Below w.heap.size w W) (hX : W.heap[w.heap.size]? = some (bxO b)) => show Calls Tryz.prog 52 #[.slice T m d, .func (.func 87) #[] #[.pointer (some ⟨w.heap.size, 0, none⟩)]] W fun e w' => e = .returned (.bool (!ts.all (tokB x))) ∧ Below W.heap.size W w' from by
    have := any_ints W T m d 87 #[.pointer (some ⟨w.heap.size, 0, none⟩)] (fun i => !tokB x (ts.getD i 0)) ts hT hm (hK.below hW (Nat.le_refl _)) eg_check2 (fun W2 hW2 j hj =>
      step_check2 W2 b x s (Br.stays (Br.stays h hW) hW2) w.heap.size (bx_stays hX hW2) _)
    have e := all_range ts 0 (tokB x)
    rw [hT] at e
    rwa [e] at this)
  have x0 := bx0 HN0.out
  have HR := Lib.hid (show errR x (past Q) ts = if 0 < m ∧ (past Q).all (goodE x) = true then (if ts.all (tokB x) = true then (if (n : Int) + m ≤ x.c then 0 else 12) else 3) else 1 by
    unfold errR
    rw [past_length, hQ, hT]
    have : (ts ≠ []) ↔ 0 < m := by rw [← hT]; exact (List.length_pos_iff).symm
    simp only [this])
  have HM := Lib.hid hm
  have HNN := Lib.hid hn
  unfold bxO at HB0 HN0 x0 HC1 HC2
  clear h hk hA hK hb0 hQ hT hn
  generalize errR x (past Q) ts = R at HR ⊢
  generalize (past Q).all (goodE x) = k1 at HC1 HR
  generalize ts.all (tokB x) = k2 at HC2 HR
  by_cases h0 : m = 0
  · subst h0
    have HR := Lib.hid (show R = 1 from HR.out.trans (if_neg (by omega)))
    go_enter Tryz.func61, Tryz.ntmps61
    go_wp2_with (fail)
    refine (HWH.out _ HB0.out).mono ?_
    rintro e w1 ⟨rfl, b1⟩
    have HB1 := Lib.hid (HB0.out.trans (b1.mono HB0.out.size))
    clear b1 x0
    go_wp2_with (fail)
    exact bodyPost_ret (results_tmp rfl _ _ _) rfl ⟨by rw [HR.out]; rfl, HB1.out⟩
  have t0 : ((m : Int) == 0) = false := beq_eq_false_iff_ne.2 (by omega)
  have HM0 := Lib.hid h0
  clear h0
  cases k1 with
  | false =>
    have HR := Lib.hid (show R = 1 from HR.out.trans (if_neg (by simp)))
    go_enter Tryz.func61, Tryz.ntmps61
    go_wp2_with (fail)
    refine (HWH.out _ HB0.out).mono ?_
    rintro e w1 ⟨rfl, b1⟩
    have HB1 := Lib.hid (HB0.out.trans (b1.mono HB0.out.size))
    have HN1 := Lib.hid ((b1.block _ (Array.getElem?_eq_some_iff.1 HN0.out).1).trans HN0.out)
    clear b1 x0
    go_wp2_with (fail)
    refine (HC1.out _ HB1.out HN1.out).mono ?_
    rintro e w2 ⟨rfl, b2⟩
    have HB2 := Lib.hid (HB1.out.trans (b2.mono HB1.out.size))
    clear b2
    go_wp2_with (fail)
    exact bodyPost_ret (results_tmp rfl _ _ _) rfl ⟨by rw [HR.out]; rfl, HB2.out⟩
  | true =>
    have HR1 := Lib.hid (HR.out.trans (if_pos ⟨by have := HM0.out; omega, rfl⟩))
    clear HR
    cases k2 with
    | false =>
      have HR := Lib.hid (show R = 3 from HR1.out)
      go_enter Tryz.func61, Tryz.ntmps61
      go_wp2_with (fail)
      refine (HWH.out _ HB0.out).mono ?_
      rintro e w1 ⟨rfl, b1⟩
      have HB1 := Lib.hid (HB0.out.trans (b1.mono HB0.out.size))
      have HN1 := Lib.hid ((b1.block _ (Array.getElem?_eq_some_iff.1 HN0.out).1).trans HN0.out)
      clear b1 x0
      go_wp2_with (fail)
      refine (HC1.out _ HB1.out HN1.out).mono ?_
      rintro e w2 ⟨rfl, b2⟩
      have HB2 := Lib.hid (HB1.out.trans (b2.mono HB1.out.size))
      have HN2 := Lib.hid ((b2.block _ (Array.getElem?_eq_some_iff.1 HN1.out).1).trans HN1.out)
      clear b2
      go_wp2_with (fail)
      refine (HC2.out _ HB2.out HN2.out).mono ?_
      rintro e w3 ⟨rfl, b3⟩
      have HB3 := Lib.hid (HB2.out.trans (b3.mono HB2.out.size))
      clear b3
      go_wp2_with (fail)
      exact bodyPost_ret (results_tmp rfl _ _ _) rfl ⟨by rw [HR.out]; rfl, HB3.out⟩
    | true =>
      have HR2 := Lib.hid (show R = if (n : Int) + m ≤ x.c then 0 else 12 from HR1.out)
      have hsum : wrap64 ((n : Int) + (m : Int)) = (n : Int) + (m : Int) := IntWalk.wrap64_in _ (by have := HM.out; have := HNN.out; omega)
      have HS := Lib.hid hsum
      clear hsum hm
      go_enter Tryz.func61, Tryz.ntmps61
      go_wp2_with (fail)
      refine (HWH.out _ HB0.out).mono ?_
      rintro e w1 ⟨rfl, b1⟩
      have HB1 := Lib.hid (HB0.out.trans (b1.mono HB0.out.size))
      have HN1 := Lib.hid ((b1.block _ (Array.getElem?_eq_some_iff.1 HN0.out).1).trans HN0.out)
      clear b1 x0
      go_wp2_with (fail)
      refine (HC1.out _ HB1.out HN1.out).mono ?_
      rintro e w2 ⟨rfl, b2⟩
      have HB2 := Lib.hid (HB1.out.trans (b2.mono HB1.out.size))
      have HN2 := Lib.hid ((b2.block _ (Array.getElem?_eq_some_iff.1 HN1.out).1).trans HN1.out)
      clear b2
      go_wp2_with (fail)
      refine (HC2.out _ HB2.out HN2.out).mono ?_
      rintro e w3 ⟨rfl, b3⟩
      have HB3 := Lib.hid (HB2.out.trans (b3.mono HB2.out.size))
      have HN3 := Lib.hid ((b3.block _ (Array.getElem?_eq_some_iff.1 HN2.out).1).trans HN2.out)
      obtain ⟨e0, e1, e2, e3, e4, e5, e6⟩ := seven (Br.stays HH.out HB3.out)
      have x0 := bx0 HN3.out
      have hs := HS.out
      clear b3
      by_cases hc : (n : Int) + m ≤ x.c
      · have HR := Lib.hid (show R = 0 from HR2.out.trans (if_pos hc))
        have t1 : ¬ x.c < (n : Int) + (m : Int) := by omega
        have t2 : decide (x.c < (n : Int) + (m : Int)) = false := decide_eq_false t1
        clear hc
        go_wp2_with (fail)
        exact bodyPost_ret (results_tmp rfl _ _ _) rfl ⟨by rw [HR.out]; rfl, HB3.out⟩
      · have HR := Lib.hid (show R = 12 from HR2.out.trans (if_neg hc))
        have t1 : x.c < (n : Int) + (m : Int) := by omega
        have t2 : decide (x.c < (n : Int) + (m : Int)) = true := decide_eq_true t1
        clear hc
        go_wp2_with (fail)
        exact bodyPost_ret (results_tmp rfl _ _ _) rfl ⟨by rw [HR.out]; rfl, HB3.out⟩
end
end Go.Proofs.YtkdkeokldcehhaaGreatDoor
namespace Go.Proofs.YtkdkeokldcehhaaGreatDoor
open Go.ChangeShapes Go.WideShapes Go.ChangeAt Go.RowKit Nm

namespace Vc
theorem elem_ints : Tryz.prog.elem 45 = 3 := by kernel_rfl
theorem under_ints : Tryz.prog.underlying 45 = some (.slice (Tryz.prog.elem 45)) := by kernel_rfl
theorem size_ints (W : World) : (sizeOf (Tryz.prog.elem 45)).run Tryz.prog W = .ok 1 W := by
  obtain ⟨i0, hi, _, hz1, _⟩ := info_parts info_int
  rw [elem_ints]
  simp [sizeOf, typeInfo, hi, hz1]
section
variable (pa oa n c i j : Nat) (I J : Int)
theorem cut_lh (hI : I = (i : Int)) (hJ : J = (j : Int)) (h1 : i ≤ j) (h2 : j ≤ c) (h3 : i < c) (d : Nat) (hd : d = j - i) (W : World) :
    (Instr.slice 45 (.slice (some ⟨pa, oa, none⟩) n c) (some (.int .i64 I)) (some (.int .i64 J)) none).run Tryz.prog W = .ok (.slice (some ⟨pa, oa + i, none⟩) d (c - i)) W := by
  subst hI hJ hd
  rw [run_slice_lh (P := Tryz.prog) (w := W) 45 _ n c under_ints .i64 .i64 (i : Int) (j : Int) (by omega) (by omega) (by omega), size_ints]
  have e : ¬ c = i := by omega
  simp [Result.andThen, sliced, Addr.add, e]
theorem cut_to (A : Option Addr) (hJ : J = (j : Int)) (h2 : j ≤ c) (W : World) :
    (Instr.slice 45 (.slice A n c) none (some (.int .i64 J)) none).run Tryz.prog W = .ok (.slice A j c) W := by
  subst hJ
  rw [run_slice_h (P := Tryz.prog) (w := W) 45 _ n c under_ints .i64 (j : Int) (by omega) (by omega), size_ints]
  cases A <;> simp [Result.andThen, sliced, Addr.add]
/-- The rest: where the row ends, it stands where it stood. -/
def fromA (A : Option Addr) (c i : Nat) : Option Addr := if c = i then A else A.map (·.add i)
theorem cut_from (A : Option Addr) (hI : I = (i : Int)) (h1 : i ≤ n) (W : World) :
    (Instr.slice 45 (.slice A n c) (some (.int .i64 I)) none none).run Tryz.prog W = .ok (.slice (fromA A c i) (n - i) (c - i)) W := by
  subst hI
  rw [run_slice_l (P := Tryz.prog) (w := W) 45 _ n c under_ints .i64 (i : Int) (by omega) (by omega), size_ints]
  simp only [Result.andThen, sliced, Int.toNat_natCast, Nat.mul_one, fromA]
end
theorem KIn.take {kd : IntKind} {w : World} {A : Option Addr} {zs : List Int} (h : KIn kd w A zs) (k : Nat) : KIn kd w A (zs.take k) := fun h0 => by
  rw [List.length_take] at h0
  obtain ⟨pb, po, rfl, hc⟩ := h (by omega)
  refine ⟨pb, po, rfl, fun i hi => ?_⟩
  rw [List.length_take] at hi
  rw [hc i (by omega), List.getD_eq_getElem?_getD, List.getD_eq_getElem?_getD, List.getElem?_take_of_lt (by omega)]
theorem KIn.from {kd : IntKind} {w : World} {A : Option Addr} {zs : List Int} (h : KIn kd w A zs) {c : Nat} (hc : zs.length ≤ c) (k : Nat) : KIn kd w (fromA A c k) (zs.drop k) := fun h0 => by
  rw [List.length_drop] at h0
  obtain ⟨pb, po, rfl, hx⟩ := h (by omega)
  refine ⟨pb, po + k, ?_, fun i hi => ?_⟩
  · unfold fromA
    rw [if_neg (by omega)]
    simp [Addr.add]
  rw [List.length_drop] at hi
  rw [Nat.add_assoc, hx (k + i) (by omega), List.getD_eq_getElem?_getD, List.getD_eq_getElem?_getD, List.getElem?_drop]
end Vc
end Go.Proofs.YtkdkeokldcehhaaGreatDoor
