/-
  Where pages lie: a pool's block, its row of pages, the rows of entries; what turns, and what stays. No program's function here. No conditions but those of each lemma.
  Package pages: page, free, dropped, Len, Version, Users. Condition: the pool stands in its blocks, or is nil.
  Package pages: free, dropped, Version, Users, Free, the search for a free page. Condition: the pool stands in its blocks, or is nil.
  Package pages: New, the search for a free page, Take. Condition: the pool stands in its blocks, or is nil.
  Package pages: Take. Condition: the pool stands in its blocks, or is nil.
  Package pages: Share. Conditions: the pool stands in its blocks; the list's numbers are there, in none of the pool's blocks; a page has at most a million users.
  Package pages: a copy of a pool's pages, Drop. Conditions: the pool stands in its blocks; the list's numbers are there, in none of the pool's blocks; a page has at most a million users.
  Package pages: Drop. Conditions: the pool stands in its blocks; the list's numbers are there; a page has at most a million users.
-/
import Derived.Test.YtlapinecmiacoaaMe2
import Derived.Test.YtlapinecmiacoaaMe12
import Derived.Test.YtlapinecmiacoaaMe16
import Derived.Test.YtlapinecmiacoaaMe14
import Derived.Lib.LazyBuf
set_option maxRecDepth 100000
namespace Go.Proofs.Ytlapinecmiacoaa
open Go.ChangeShapes Go.WideShapes Go.ChangeAt Go.RowKit Nm Cf Vc Sp

namespace Pg
/-- Entries of few numbers. -/
structure Small (e : Ent) : Prop where
  k : e.ks.length ≤ 1000
  v : e.vs.length ≤ 1000
  ks : ∀ i, i < e.ks.length → (e.ks.getD i []).length ≤ 1000
  vs : ∀ i, i < e.vs.length → (e.vs.getD i []).length ≤ 1000
theorem Small.fit {e : Ent} (h : Small e) : EntFit e := ⟨by have := h.k; omega, by have := h.v; omega, fun i hi => by have := h.ks i hi; omega, fun i hi => by have := h.vs i hi; omega⟩
/-! What turns -/
/-- Of what lay, only blocks of F turn. -/
structure Turn (F : Nat → Prop) (w w' : World) : Prop where
  os : w'.os = w.os
  tape : w'.tape = w.tape
  output : w'.output = w.output
  size : w.heap.size ≤ w'.heap.size
  block : ∀ j, j < w.heap.size → ¬ F j → w'.heap[j]? = w.heap[j]?
/-- What is new, or was there before. -/
def Old (F : Nat → Prop) (w : World) (j : Nat) : Prop := F j ∨ w.heap.size ≤ j
section
variable {F F2 F3 : Nat → Prop} {w w' w2 : World}
theorem Turn.refl (F : Nat → Prop) (w : World) : Turn F w w := ⟨rfl, rfl, rfl, Nat.le_refl _, fun _ _ _ => rfl⟩
theorem Turn.of_below (F : Nat → Prop) (h : Below w.heap.size w w') : Turn F w w' := ⟨h.os, h.tape, h.output, h.size, fun j hj _ => h.block j hj⟩
theorem Turn.trans (h : Turn F w w') (k : Turn F2 w' w2) (hF : ∀ j, F2 j → F j ∨ w.heap.size ≤ j) : Turn F w w2 :=
  ⟨k.os.trans h.os, k.tape.trans h.tape, k.output.trans h.output, Nat.le_trans h.size k.size, fun j hj hn => (k.block j (Nat.lt_of_lt_of_le hj h.size) fun h2 => by
    rcases hF j h2 with h3 | h3
    · exact hn h3
    · omega).trans (h.block j hj hn)⟩
theorem Turn.both (h : Turn F w w') (k : Turn F w' w2) : Turn F w w2 := h.trans k fun _ => .inl
theorem Turn.more (h : Turn F w w') (hF : ∀ j, F j → j < w.heap.size → F2 j) : Turn F2 w w' := ⟨h.os, h.tape, h.output, h.size, fun j hj hn => h.block j hj fun hf => hn (hF j hf hj)⟩
theorem Turn.then (h : Turn F w w') (hb : Below w'.heap.size w' w2) : Turn F w w2 := h.both (.of_below F hb)
theorem Turn.below (h : Turn F w w') {B : Nat} (hF : ∀ j, F j → B ≤ j) (hB : B ≤ w.heap.size) : Below B w w' := ⟨h.os, h.tape, h.output, h.size, fun j hj => h.block j (by omega) fun hf => by have := hF j hf; omega⟩
theorem Turn.set (h : Turn F w w') {g : Nat} (hg : F g ∨ w.heap.size ≤ g) (i : Nat) (v : Value) : Turn F w (w'.setCell ⟨g, i, none⟩ v) :=
  ⟨h.os, h.tape, h.output, by simpa using h.size, fun j hj hn => (heap_setCell_other _ ⟨g, i, none⟩ j v (show j ≠ g from fun e => by
    subst e
    rcases hg with hg | hg
    · exact hn hg
    · omega)).trans (h.block j hj hn)⟩
theorem Turn.grown (h : Turn F w w') {row : Option Nat} (hg : w'.grownBy w2 row) (hr : ∀ k, row = some k → F k ∨ w.heap.size ≤ k) : Turn F w w2 :=
  ⟨hg.os.trans h.os, hg.tape.trans h.tape, hg.output.trans h.output, Nat.le_trans h.size hg.size, fun j hj hn => (hg.block j (Nat.lt_of_lt_of_le hj h.size) fun e => by
    rcases hr j e.symm with h3 | h3
    · exact hn h3
    · omega).trans (h.block j hj hn)⟩
theorem Old.trans (h : ∀ j, F2 j → Old F w j) (k : ∀ j, F3 j → Old F2 w' j) (hs : w.heap.size ≤ w'.heap.size) : ∀ j, F3 j → Old F w j := fun j hj => by
  rcases k j hj with h1 | h1
  · exact h j h1
  · exact .inr (Nat.le_trans hs h1)
end

/-! Rows of one's own -/
theorem own_slice {e : TypeId} {N size n : Nat} {v : Value} {W : World} {xs : List Value} (h : W.ownsRow N e size v n xs) : ∃ A c, v = .slice A n c := by
  rcases h.2 with ⟨rfl, rfl⟩ | ⟨g, cap, _, rfl, _⟩
  · exact ⟨none, 0, rfl⟩
  · exact ⟨_, cap, rfl⟩
theorem own_base {e : TypeId} {N size n : Nat} {v : Value} {W : World} {xs : List Value} (h : W.ownsRow N e size v n xs) : W.ownsRow 0 e size v n xs := by
  refine ⟨h.1, ?_⟩
  rcases h.2 with h2 | ⟨g, cap, cur, rfl, h3, h5⟩
  · exact .inl h2
  · exact .inr ⟨g, cap, cur, rfl, Nat.zero_le _, h5⟩
theorem own_es {t : TypeId} {N n c : Nat} {A : Option Addr} {W : World} {Q : List (Er × Ent)} (h : W.ownsRow N t 2 (.slice A n c) Q.length (eCs Q)) : EsAt W A Q := fun h0 => by
  rcases h.2 with ⟨_, h1⟩ | ⟨g, cap, cur, e, _, hb, _, _, _, ht⟩
  · omega
  · injection e with e1 e2 e3
    subst e1
    refine ⟨g, 0, rfl, fun j u hj => ?_⟩
    rw [cell_of_row W g _ _ _ _ hb, Nat.zero_add]
    rw [← ht] at hj
    have hj2 : j < (cur.toList.take (Q.length * 2)).length := (List.getElem?_eq_some_iff.1 hj).1
    rw [List.getElem?_take_of_lt (by rw [List.length_take] at hj2; omega)] at hj
    rw [← Array.getElem?_toList]
    exact hj

/-! A row of pages -/
/-- Pages' cells in a block: version, users, entries. -/
def PRow {α : Type} (w : World) (g : Nat) (t : TypeId) (n : Nat) (P : Nat → Page α) (G : Nat → Value) : Prop :=
  ∃ cs, w.heap[g]? = some (.cells cs t (0, 0)) ∧ n * 3 ≤ cs.size ∧ ∀ i, i < n → cs[i * 3]? = some (.int .i64 (P i).v) ∧ cs[i * 3 + 1]? = some (.int .i64 ((P i).u : Int)) ∧ cs[i * 3 + 2]? = some (G i)
def updG (G : Nat → Value) (k : Nat) (v : Value) (i : Nat) : Value := if i = k then v else G i
theorem updG_at (G : Nat → Value) (k : Nat) (v : Value) : updG G k v k = v := if_pos rfl
theorem updG_off (G : Nat → Value) {k i : Nat} (v : Value) (h : i ≠ k) : updG G k v i = G i := if_neg h
section
variable {α : Type} {w w' : World} {g n : Nat} {t : TypeId} {P P' : Nat → Page α} {G G' : Nat → Value}
theorem PRow.lt (h : PRow w g t n P G) : g < w.heap.size := by obtain ⟨cs, h, _⟩ := h; exact (Array.getElem?_eq_some_iff.1 h).1
theorem PRow.kept (h : PRow w g t n P G) (e : w'.heap[g]? = w.heap[g]?) : PRow w' g t n P G := by
  obtain ⟨cs, h, r⟩ := h
  exact ⟨cs, e.trans h, r⟩
theorem PRow.congr (h : PRow w g t n P G) (hP : ∀ i, i < n → (P' i).v = (P i).v ∧ (P' i).u = (P i).u) (hG : ∀ i, i < n → G' i = G i) : PRow w g t n P' G' := by
  obtain ⟨cs, h, hs, r⟩ := h
  exact ⟨cs, h, hs, fun i hi => by rw [(hP i hi).1, (hP i hi).2, hG i hi]; exact r i hi⟩
theorem PRow.c0 (h : PRow w g t n P G) {i : Nat} (hi : i < n) : w.cell? ⟨g, i * 3, none⟩ = some (.int .i64 (P i).v) := by
  obtain ⟨cs, h, _, r⟩ := h
  rw [cell_of_row w g _ _ _ _ h]
  exact (r i hi).1
theorem PRow.c1 (h : PRow w g t n P G) {i : Nat} (hi : i < n) : w.cell? ⟨g, i * 3 + 1, none⟩ = some (.int .i64 ((P i).u : Int)) := by
  obtain ⟨cs, h, _, r⟩ := h
  rw [cell_of_row w g _ _ _ _ h]
  exact (r i hi).2.1
theorem PRow.c2 (h : PRow w g t n P G) {i : Nat} (hi : i < n) : w.cell? ⟨g, i * 3 + 2, none⟩ = some (G i) := by
  obtain ⟨cs, h, _, r⟩ := h
  rw [cell_of_row w g _ _ _ _ h]
  exact (r i hi).2.2
theorem PRow.fz (h : PRow w g t n P G) (i : Nat) : w.frozen? ⟨g, i, none⟩ = false := by
  obtain ⟨cs, h, _⟩ := h
  exact frozen_of_row w g i _ _ h
theorem PRow.setU (h : PRow w g t n P G) {k : Nat} (u : Nat) : PRow (w.setCell ⟨g, k * 3 + 1, none⟩ (.int .i64 (u : Int))) g t n (updP P k { P k with u := u }) G := by
  obtain ⟨cs, h, hs, r⟩ := h
  refine ⟨_, heap_setCell_same w g _ _ _ _ h, by rw [Array.size_setIfInBounds]; exact hs, fun i hi => ?_⟩
  obtain ⟨r0, r1, r2⟩ := r i hi
  rw [Array.getElem?_setIfInBounds, Array.getElem?_setIfInBounds, Array.getElem?_setIfInBounds, if_neg (show ¬ k * 3 + 1 = i * 3 by omega), if_neg (show ¬ k * 3 + 1 = i * 3 + 2 by omega), r0, r2]
  by_cases e : i = k
  · subst e
    rw [if_pos rfl, if_pos (by omega), upd_at]
    exact ⟨rfl, rfl, rfl⟩
  · rw [if_neg (show ¬ k * 3 + 1 = i * 3 + 1 by omega), upd_off _ e]
    exact ⟨rfl, r1, rfl⟩
theorem PRow.setG (h : PRow w g t n P G) {k : Nat} (v : Value) : PRow (w.setCell ⟨g, k * 3 + 2, none⟩ v) g t n P (updG G k v) := by
  obtain ⟨cs, h, hs, r⟩ := h
  refine ⟨_, heap_setCell_same w g _ _ _ _ h, by rw [Array.size_setIfInBounds]; exact hs, fun i hi => ?_⟩
  obtain ⟨r0, r1, r2⟩ := r i hi
  rw [Array.getElem?_setIfInBounds, Array.getElem?_setIfInBounds, Array.getElem?_setIfInBounds, if_neg (show ¬ k * 3 + 2 = i * 3 by omega), if_neg (show ¬ k * 3 + 2 = i * 3 + 1 by omega), r0, r1]
  by_cases e : i = k
  · subst e
    rw [if_pos rfl, if_pos (by omega), updG_at]
    exact ⟨rfl, rfl, rfl⟩
  · rw [if_neg (show ¬ k * 3 + 2 = i * 3 + 2 by omega), updG_off _ _ e]
    exact ⟨rfl, rfl, r2⟩
theorem PRow.setV (h : PRow w g t n P G) {k : Nat} (v : Int) : PRow (w.setCell ⟨g, k * 3, none⟩ (.int .i64 v)) g t n (updP P k { P k with v := v }) G := by
  obtain ⟨cs, h, hs, r⟩ := h
  refine ⟨_, heap_setCell_same w g _ _ _ _ h, by rw [Array.size_setIfInBounds]; exact hs, fun i hi => ?_⟩
  obtain ⟨r0, r1, r2⟩ := r i hi
  rw [Array.getElem?_setIfInBounds, Array.getElem?_setIfInBounds, Array.getElem?_setIfInBounds, if_neg (show ¬ k * 3 = i * 3 + 1 by omega), if_neg (show ¬ k * 3 = i * 3 + 2 by omega), r1, r2]
  by_cases e : i = k
  · subst e
    rw [if_pos rfl, if_pos (by omega), upd_at]
    exact ⟨rfl, rfl, rfl⟩
  · rw [if_neg (by omega), upd_off _ e]
    exact ⟨r0, rfl, rfl⟩
/-- A whole page is stored. -/
theorem PRow.setAll (h : PRow w g t n P G) {k : Nat} (v : Int) (u : Nat) (l : List α) (s : Value) : PRow (((w.setCell ⟨g, k * 3, none⟩ (.int .i64 v)).setCell ⟨g, k * 3 + 1, none⟩ (.int .i64 (u : Int))).setCell ⟨g, k * 3 + 2, none⟩ s) g t n (updP P k ⟨v, u, l⟩) (updG G k s) := by
  refine (((h.setV (k := k) v).setU (k := k) u).setG (k := k) s).congr (fun i _ => ?_) fun _ _ => rfl
  by_cases e : i = k
  · subst e
    rw [upd_at, upd_at, upd_at]
    exact ⟨rfl, rfl⟩
  · rw [upd_off _ e, upd_off _ e, upd_off _ e]
    exact ⟨rfl, rfl⟩
end

/-! The pages' entries -/
structure EsG (t : TypeId) (F : Nat → Prop) (O : Nat → Prop) (w : World) (n : Nat) (G : Nat → Value) (Q : Nat → List (Er × Ent)) : Prop where
  own : ∀ i, i < n → w.ownsRow 0 t 2 (G i) (Q i).length (eCs (Q i))
  inF : ∀ i, i < n → ∀ k, (G i).ownBlock = some k → F k ∧ ¬ O k
  apart : ∀ i j, i < n → j < n → i ≠ j → ∀ k, (G i).ownBlock = some k → (G j).ownBlock ≠ some k
  all : ∀ i, i < n → ∀ q ∈ Q i, EOn (fun k => (F k ∧ ¬ O k) ∧ ∀ j, j < n → (G j).ownBlock ≠ some k) w q.1 q.2
def updQ (Q : Nat → List (Er × Ent)) (k : Nat) (l : List (Er × Ent)) (i : Nat) : List (Er × Ent) := if i = k then l else Q i
theorem updQ_at (Q : Nat → List (Er × Ent)) (k : Nat) (l : List (Er × Ent)) : updQ Q k l k = l := if_pos rfl
theorem updQ_off (Q : Nat → List (Er × Ent)) {k i : Nat} (l : List (Er × Ent)) (h : i ≠ k) : updQ Q k l i = Q i := if_neg h
section
variable {t : TypeId} {F F2 O O2 : Nat → Prop} {w w' wz : World} {n : Nat} {G G' : Nat → Value} {Q Q' : Nat → List (Er × Ent)}
theorem EsG.kept (h : EsG t F O w n G Q) (hb : ∀ k, F k → ¬ O k → k < w.heap.size → w'.heap[k]? = w.heap[k]?) : EsG t F O w' n G Q :=
  ⟨fun i hi => own_moved (h.own i hi) fun k hk => hb k (h.inF i hi k hk).1 (h.inF i hi k hk).2 ((h.own i hi).lt k hk).2, h.inF, h.apart, fun i hi q hq => (((h.all i hi q hq).new.also (h.all i hi q hq)).moved fun j hj => hb j hj.2.1.1 hj.2.1.2 hj.1).mono fun _ hj => hj.2⟩
theorem EsG.weak (h : EsG t F O w n G Q) (hF : ∀ k, F k → ¬ O k → k < w.heap.size → F2 k ∧ ¬ O2 k) : EsG t F2 O2 w n G Q :=
  ⟨h.own, fun i hi k hk => hF k (h.inF i hi k hk).1 (h.inF i hi k hk).2 ((h.own i hi).lt k hk).2, h.apart, fun i hi q hq => ((h.all i hi q hq).new.also (h.all i hi q hq)).mono fun k hk => ⟨hF k hk.2.1.1 hk.2.1.2 hk.1, hk.2.2⟩⟩
/-- Some pages are cleared. -/
theorem EsG.less (h : EsG t F O w n G Q) (c : Nat → Bool) (hG : ∀ i, i < n → G' i = if c i = true then .slice none 0 0 else G i) (hQ : ∀ i, i < n → Q' i = if c i = true then [] else Q i) : EsG t F O w n G' Q' := by
  have hk : ∀ i, i < n → ∀ k, (G' i).ownBlock = some k → c i = false ∧ (G i).ownBlock = some k := fun i hi k hk => by
    rw [hG i hi] at hk
    cases hc : c i with
    | true => rw [hc, if_pos rfl] at hk; cases hk
    | false => rw [hc, if_neg (by decide)] at hk; exact ⟨rfl, hk⟩
  refine ⟨fun i hi => ?_, fun i hi k e => h.inF i hi k (hk i hi k e).2, fun i j hi hj hne k e e2 => h.apart i j hi hj hne k (hk i hi k e).2 (hk j hj k e2).2, fun i hi q hq => ?_⟩
  · rw [hG i hi, hQ i hi]
    cases hc : c i with
    | true => exact World.ownsRow_nil w 0 t 2
    | false => exact h.own i hi
  · rw [hQ i hi] at hq
    cases hc : c i with
    | true => rw [hc, if_pos rfl] at hq; exact absurd hq (by simp)
    | false =>
      rw [hc, if_neg (by decide)] at hq
      exact (h.all i hi q hq).mono fun k hk2 => ⟨hk2.1, fun j hj e => hk2.2 j hj (hk j hj k e).2⟩
theorem EsG.congr (h : EsG t F O w n G Q) (hG : ∀ i, i < n → G' i = G i) (hQ : ∀ i, i < n → Q' i = Q i) : EsG t F O w n G' Q' :=
  h.less (fun _ => false) (fun i hi => by rw [hG i hi]; rfl) (fun i hi => by rw [hQ i hi]; rfl)
/-- One entry more: its page's row grows, or is a new one. -/
theorem EsG.put (h : EsG t F O w n G Q) {i : Nat} (hi : i < n) {r : Er} {e : Ent} {g cap : Nat} {p : Nat → Prop} (he : EOn p w r e) (hp : ∀ k, p k → k < w.heap.size → (F k ∧ ¬ O k) ∧ ∀ j, j < n → (G j).ownBlock ≠ some k)
    (hown : wz.ownsRow 0 t 2 (.slice (some ⟨g, 0, none⟩) ((Q i).length + 1) cap) ((Q i).length + 1) (eCs (Q i) ++ eC r e)) (hb : ∀ k, k < w.heap.size → (F k ∧ ¬ O k) → (G i).ownBlock ≠ some k → wz.heap[k]? = w.heap[k]?) (hat : (G i).ownBlock = some g ∨ w.heap.size ≤ g) (hg : F g ∧ ¬ O g) :
    EsG t F O wz n (updG G i (.slice (some ⟨g, 0, none⟩) ((Q i).length + 1) cap)) (updQ Q i (Q i ++ [(r, e)])) := by
  have hoff : ∀ j, j < n → j ≠ i → ∀ k, (G j).ownBlock = some k → k ≠ g := fun j hj hne k hk e => by
    subst e
    rcases hat with ha | ha
    · exact h.apart i j hi hj (fun e => hne e.symm) k ha hk
    · have := ((h.own j hj).lt k hk).2
      omega
  have hnew : ∀ k, k < w.heap.size → (∀ j, j < n → (G j).ownBlock ≠ some k) → ∀ j, j < n → (updG G i (.slice (some ⟨g, 0, none⟩) ((Q i).length + 1) cap) j).ownBlock ≠ some k := fun k hk hne j hj e => by
    by_cases hji : j = i
    · rw [hji, updG_at] at e
      have e' : g = k := Option.some.inj e
      rcases hat with ha | ha
      · exact hne i hi (e' ▸ ha)
      · omega
    · rw [updG_off _ _ hji] at e
      exact hne j hj e
  refine ⟨fun j hj => ?_, fun j hj k hk => ?_, fun j j' hj hj' hne k hk hk' => ?_, fun j hj q hq => ?_⟩
  · by_cases hji : j = i
    · subst hji
      rw [updG_at, updQ_at, List.length_append, eCs_append]
      show wz.ownsRow 0 t 2 _ _ (eCs (Q j) ++ eCs [(r, e)])
      rw [show eCs [(r, e)] = eC r e by simp [eCs]]
      exact hown
    · rw [updG_off _ _ hji, updQ_off _ _ hji]
      refine own_moved (h.own j hj) fun k hk => hb k ((h.own j hj).lt k hk).2 (h.inF j hj k hk) fun e => h.apart i j hi hj (fun e => hji e.symm) k e hk
  · by_cases hji : j = i
    · rw [hji, updG_at] at hk
      rw [← (show g = k from Option.some.inj hk)]
      exact hg
    · rw [updG_off _ _ hji] at hk
      exact h.inF j hj k hk
  · by_cases hji : j = i
    · rw [hji, updG_at] at hk
      have e : g = k := Option.some.inj hk
      rw [updG_off _ _ (fun e2 => hne (hji.trans e2.symm))] at hk'
      exact hoff j' hj' (fun e2 => hne (hji.trans e2.symm)) k hk' e.symm
    · rw [updG_off _ _ hji] at hk
      by_cases hji' : j' = i
      · rw [hji', updG_at] at hk'
        exact hoff j hj hji k hk (Option.some.inj hk').symm
      · rw [updG_off _ _ hji'] at hk'
        exact h.apart j j' hj hj' hne k hk hk'
  · have hm : EOn (fun k => k < w.heap.size ∧ (F k ∧ ¬ O k) ∧ ∀ j, j < n → (G j).ownBlock ≠ some k) w q.1 q.2 := by
      by_cases hji : j = i
      · rw [hji, updQ_at, List.mem_append, List.mem_singleton] at hq
        rcases hq with hq | rfl
        · exact (h.all i hi q hq).new.also (h.all i hi q hq)
        · exact (he.new.also he).mono fun k hk => ⟨hk.1, hp k hk.2 hk.1⟩
      · rw [updQ_off _ _ hji] at hq
        exact (h.all j hj q hq).new.also (h.all j hj q hq)
    exact (hm.moved fun k hk => hb k hk.1 hk.2.1 (hk.2.2 i hi)).mono fun k hk => ⟨hk.2.1, hnew k hk.1 hk.2.2⟩
end

/-! A pool -/
structure PlX (tP tG tE : TypeId) (F : Nat → Prop) (w : World) (D b cap n : Nat) (P : Nat → Page Ent) (G : Nat → Value) (Q : Nat → List (Er × Ent)) : Prop where
  pool : w.heap[D]? = some (.cells #[.slice (some ⟨b, 0, none⟩) n cap] tP (0, 0))
  row : PRow w b tG n P G
  es : EsG tE F (fun k => k = D ∨ k = b) w n G Q
  same : ∀ i, i < n → (P i).l = (Q i).map (·.2)
  ne : D ≠ b
  FD : F D
  Fb : F b
  lt : ∀ k, F k → k < w.heap.size
  few : 1 ≤ n ∧ n ≤ 64
  inv : Inv n P
  sized : ∀ i, i < n → ∀ e ∈ (P i).l, Small e
section
variable {tP tG tE : TypeId} {F : Nat → Prop} {w w' : World} {D b cap n : Nat} {P : Nat → Page Ent} {G : Nat → Value} {Q : Nat → List (Er × Ent)}
theorem PlX.kept (h : PlX tP tG tE F w D b cap n P G Q) (hs : w.heap.size ≤ w'.heap.size) (hb : ∀ k, F k → w'.heap[k]? = w.heap[k]?) : PlX tP tG tE F w' D b cap n P G Q :=
  ⟨(hb D h.FD).trans h.pool, h.row.kept (hb b h.Fb), h.es.kept fun k hk _ _ => hb k hk, h.same, h.ne, h.FD, h.Fb, fun k hk => Nat.lt_of_lt_of_le (h.lt k hk) hs, h.few, h.inv, h.sized⟩
theorem PlX.step (h : PlX tP tG tE F w D b cap n P G Q) (hb : Below w.heap.size w w') : PlX tP tG tE F w' D b cap n P G Q := h.kept hb.size fun k hk => hb.block k (h.lt k hk)
theorem PlX.cD (h : PlX tP tG tE F w D b cap n P G Q) : w.cell? ⟨D, 0, none⟩ = some (.slice (some ⟨b, 0, none⟩) n cap) := by rw [cell_of_row _ _ _ _ _ _ h.pool]; rfl
theorem PlX.fD (h : PlX tP tG tE F w D b cap n P G Q) (i : Nat) : w.frozen? ⟨D, i, none⟩ = false := frozen_of_row w D i _ _ h.pool
theorem PlX.slice (h : PlX tP tG tE F w D b cap n P G Q) {i : Nat} (hi : i < n) : ∃ A c, G i = .slice A (P i).l.length c := by
  obtain ⟨A, c, e⟩ := own_slice (h.es.own i hi)
  exact ⟨A, c, by rw [e, h.same i hi, List.length_map]⟩
end
/-- A program's pool; the document's. -/
def Pl (F : Nat → Prop) (w : World) (D n : Nat) (P : Nat → Page Ent) : Prop := ∃ b cap G Q, PlX 67 69 36 F w D b cap n P G Q
def Rl (F : Nat → Prop) (w : World) (D n : Nat) (P : Nat → Page Ent) : Prop := ∃ b cap G Q, PlX 52 49 41 F w D b cap n P G Q
section
variable {F : Nat → Prop} {w w' : World} {D n : Nat} {P : Nat → Page Ent}
theorem Pl.kept (h : Pl F w D n P) (hs : w.heap.size ≤ w'.heap.size) (hb : ∀ k, F k → w'.heap[k]? = w.heap[k]?) : Pl F w' D n P := by
  obtain ⟨b, cap, G, Q, h⟩ := h
  exact ⟨b, cap, G, Q, h.kept hs hb⟩
theorem Rl.kept (h : Rl F w D n P) (hs : w.heap.size ≤ w'.heap.size) (hb : ∀ k, F k → w'.heap[k]? = w.heap[k]?) : Rl F w' D n P := by
  obtain ⟨b, cap, G, Q, h⟩ := h
  exact ⟨b, cap, G, Q, h.kept hs hb⟩
theorem Pl.lt (h : Pl F w D n P) : ∀ k, F k → k < w.heap.size := by obtain ⟨b, cap, G, Q, h⟩ := h; exact h.lt
theorem Rl.lt (h : Rl F w D n P) : ∀ k, F k → k < w.heap.size := by obtain ⟨b, cap, G, Q, h⟩ := h; exact h.lt
theorem Pl.step (h : Pl F w D n P) (hb : Below w.heap.size w w') : Pl F w' D n P := h.kept hb.size fun k hk => hb.block k (h.lt k hk)
theorem Rl.step (h : Rl F w D n P) (hb : Below w.heap.size w w') : Rl F w' D n P := h.kept hb.size fun k hk => hb.block k (h.lt k hk)
theorem Pl.inv (h : Pl F w D n P) : Inv n P := by obtain ⟨b, cap, G, Q, h⟩ := h; exact h.inv
theorem Pl.few (h : Pl F w D n P) : 1 ≤ n ∧ n ≤ 64 := by obtain ⟨b, cap, G, Q, h⟩ := h; exact h.few
theorem Rl.few (h : Rl F w D n P) : 1 ≤ n ∧ n ≤ 64 := by obtain ⟨b, cap, G, Q, h⟩ := h; exact h.few
end
/-- What a call that turns a pool leaves. -/
def TurnsP (F : Nat → Prop) (w : World) (D n : Nat) (P : Nat → Page Ent) (w' : World) : Prop := ∃ F', Pl F' w' D n P ∧ (∀ j, F' j → Old F w j) ∧ Turn F w w'
def TurnsR (F : Nat → Prop) (w : World) (D n : Nat) (P : Nat → Page Ent) (w' : World) : Prop := ∃ F', Rl F' w' D n P ∧ (∀ j, F' j → Old F w j) ∧ Turn F w w'
end Pg
end Go.Proofs.Ytlapinecmiacoaa
namespace Go.Proofs.Ytlapinecmiacoaa
open Go.ChangeShapes Go.WideShapes Go.ChangeAt Go.RowKit Nm Cf Vc Sp Pg

namespace Pg
/-- What a page's number finds; a free page, if there is none. -/
def atP {α : Type} (n : Nat) (P : Nat → Page α) (x : Int) : Page α := if 0 ≤ x ∧ x < (n : Int) then P x.toNat else fr
def atG (n : Nat) (G : Nat → Value) (x : Int) : Value := if 0 ≤ x ∧ x < (n : Int) then G x.toNat else .slice none 0 0
theorem at_in {α : Type} {n i : Nat} {P : Nat → Page α} (h : i < n) : atP n P (i : Int) = P i := if_pos ⟨by omega, by omega⟩
theorem atG_in {n i : Nat} {G : Nat → Value} (h : i < n) : atG n G (i : Int) = G i := if_pos ⟨by omega, by omega⟩
theorem at_out {α : Type} {n : Nat} {P : Nat → Page α} {x : Int} (h : ¬ (0 ≤ x ∧ x < (n : Int))) : atP n P x = fr := if_neg h
theorem atG_out {n : Nat} {G : Nat → Value} {x : Int} (h : ¬ (0 ≤ x ∧ x < (n : Int))) : atG n G x = .slice none 0 0 := if_neg h
def pgA (v u : Int) (s : Value) : Array Value := #[.int .i64 v, .int .i64 u, s]
def pgO (v u : Int) (s : Value) : Obj := .cells (pgA v u s) 69 (0, 0)
theorem pgI (v u : Int) (s : Value) : (Try.prog.info? 69).map (·.size) = some (pgA v u s).size := by
  show _ = some 3
  kernel_rfl
section
variable {W : World} {b : Nat} {v u : Int} {s : Value} (h : W.heap[b]? = some (pgO v u s))
include h
theorem pg0 : W.cell? ⟨b, 0, none⟩ = some (.int .i64 v) := by rw [cell_of_row _ _ _ _ _ _ h]; rfl
theorem pg1 : W.cell? ⟨b, 1, none⟩ = some (.int .i64 u) := by rw [cell_of_row _ _ _ _ _ _ h]; rfl
theorem pg2 : W.cell? ⟨b, 2, none⟩ = some s := by rw [cell_of_row _ _ _ _ _ _ h]; rfl
theorem pgFz (i : Nat) : W.frozen? ⟨b, i, none⟩ = false := frozen_of_row W b i _ _ h
theorem pg_set (v2 u2 : Int) (s2 : Value) : (((W.setCell ⟨b, 0, none⟩ (.int .i64 v2)).setCell ⟨b, 1, none⟩ (.int .i64 u2)).setCell ⟨b, 2, none⟩ s2).heap[b]? = some (pgO v2 u2 s2) := heap_setCell_same _ b 2 _ _ _ (heap_setCell_same _ b 1 _ _ _ (heap_setCell_same W b 0 _ _ _ h))
theorem pg_stays {w2 : World} (hb : Below W.heap.size W w2) : w2.heap[b]? = some (pgO v u s) := (hb.block b (Array.getElem?_eq_some_iff.1 h).1).trans h
end
theorem pg_new (w : World) (v u : Int) (s : Value) : (w.alloc (pgO v u s)).heap[w.heap.size]? = some (pgO v u s) := heap_alloc_new w _
theorem at_u {n : Nat} {P : Nat → Page Ent} {x : Int} : decide ((atP n P x).u = 0) = !isP n P x := by
  unfold atP
  by_cases h : 0 ≤ x ∧ x < (n : Int)
  · rw [if_pos h]
    unfold isP
    rw [decide_eq_true h.1, decide_eq_true h.2, Bool.true_and, Bool.true_and]
    by_cases h0 : (P x.toNat).u = 0
    · rw [decide_eq_true h0, decide_eq_false (by omega)]; rfl
    · rw [decide_eq_false h0, decide_eq_true (by omega)]; rfl
  · rw [if_neg h]
    unfold isP
    by_cases h1 : 0 ≤ x
    · rw [decide_eq_true h1, decide_eq_false (show ¬ x < (n : Int) by omega)]; rfl
    · rw [decide_eq_false h1]; rfl
theorem at_usr {n : Nat} {P : Nat → Page Ent} {x : Int} : (atP n P x).u = usrI n P x := by
  unfold usrI
  by_cases hp : isP n P x = true
  · rw [if_pos hp]
    have := is_iff.1 hp
    unfold atP
    rw [if_pos ⟨this.1, this.2.1⟩]
  · rw [if_neg hp]
    have := at_u (n := n) (P := P) (x := x)
    rw [Bool.eq_false_iff.2 hp] at this
    exact of_decide_eq_true this
theorem at_ver {n : Nat} {P : Nat → Page Ent} (hi : Inv n P) {x : Int} : (atP n P x).v = verI n P x := by
  unfold verI
  by_cases hp : isP n P x = true
  · rw [if_pos hp]
    have := is_iff.1 hp
    unfold atP
    rw [if_pos ⟨this.1, this.2.1⟩]
  · rw [if_neg hp]
    have h0 := at_u (n := n) (P := P) (x := x)
    rw [Bool.eq_false_iff.2 hp] at h0
    have h0 := of_decide_eq_true h0
    unfold atP at h0 ⊢
    split at h0 <;> rename_i h
    · rw [if_pos h, hi.free _ (by omega) h0]; rfl
    · rw [if_neg h]; rfl
end Pg
set_option maxRecDepth 100000 in
theorem pages_len {tG tE : TypeId} {F : Nat → Prop} {w : World} {D b cap n : Nat} {P : Nat → Page Ent} {G : Nat → Value} {Q : Nat → List (Er × Ent)} (h : PlX 67 tG tE F w D b cap n P G Q) :
    Calls Try.prog 24 #[.pointer (some ⟨D, 0, none⟩)] w fun e w' => e = .returned (.int .i64 (n : Int)) ∧ w = w' := by
  have k0 := h.cD
  clear h
  go_enter Try.func24, Try.ntmps24
  go_wp2_with (fail)
  exact bodyPost_ret (results_tmp rfl _ _ _) rfl ⟨rfl, rfl⟩
set_option maxRecDepth 100000 in
theorem pages_len_nil (w : World) : Calls Try.prog 24 #[.pointer none] w fun e w' => e = .returned (.int .i64 0) ∧ w = w' := by
  go_enter Try.func24, Try.ntmps24
  go_wp2_with (fail)
  exact bodyPost_ret (results_tmp rfl _ _ _) rfl ⟨rfl, rfl⟩
set_option maxRecDepth 100000 in
set_option maxHeartbeats 800000 in
theorem pages_page {tG tE : TypeId} {F : Nat → Prop} {w : World} {D b cap n : Nat} {P : Nat → Page Ent} {G : Nat → Value} {Q : Nat → List (Er × Ent)} (h : PlX 67 tG tE F w D b cap n P G Q) (x : Int) :
    Calls Try.prog 29 #[.pointer (some ⟨D, 0, none⟩), .int .i64 x] w fun e w' => e = .returned (.agg (pgA (atP n P x).v ((atP n P x).u : Int) (atG n G x))) ∧ Below w.heap.size w w' := by
  have hb0 : Below w.heap.size w (w.alloc (pgO 0 0 (.slice none 0 0))) := (Below.refl _ _).alloc (Nat.le_refl _) _
  have HN := Lib.hid (pg_new w 0 0 (.slice none 0 0))
  have HX := Lib.hid (h.step hb0)
  have HL := Lib.hid (pages_len (h.step hb0))
  have HB := Lib.hid hb0
  clear hb0
  by_cases hx0 : x < 0
  · have t0 : decide (x < 0) = true := decide_eq_true hx0
    rw [at_out (by omega), atG_out (by omega)]
    have g0 := pg0 HN.out
    have g1 := pg1 HN.out
    have g2 := pg2 HN.out
    have f0 := pgFz HN.out
    clear h
    go_enter Try.func29, Try.ntmps29
    go_wp2_with (fail)
    exact bodyPost_ret (results_cell_row rfl _ _ _ 69 _ _ _ rfl HN.out Try.underlying69 rfl (pgI _ _ _)) rfl ⟨rfl, HB.out⟩
  · have t0 : decide (x < 0) = false := decide_eq_false hx0
    obtain ⟨i, rfl⟩ : ∃ i : Nat, x = (i : Int) := ⟨x.toNat, by omega⟩
    by_cases hxn : i < n
    · obtain ⟨sA, sc, hG⟩ := h.slice hxn
      rw [at_in hxn, atG_in hxn, hG]
      have t1 : decide (n ≤ i) = false := decide_eq_false (by omega)
      have k0 := HX.out.cD
      have k1 := HX.out.row.c0 hxn
      have k2 := HX.out.row.c1 hxn
      have k3 := HX.out.row.c2 hxn
      have g0 := pg0 HN.out
      have g1 := pg1 HN.out
      have g2 := pg2 HN.out
      have f0 := pgFz HN.out
      have x0 : (i : Int) < (n : Int) := by omega
      have x2 : 0 ≤ (i : Int) := by omega
      generalize (P i).v = v at *
      generalize (P i).u = u at *
      rw [hG] at k3
      generalize (P i).l.length = sn at *
      clear h hx0
      go_enter Try.func29, Try.ntmps29
      go_wp2_with (go_at_call 24; refine HL.out.mono ?_; rintro e w1 ⟨rfl, rfl⟩)
      refine bodyPost_ret (results_cell_row rfl _ _ _ 69 _ _ _ rfl (pg_set HN.out _ _ _) Try.underlying69 rfl (pgI _ _ _)) rfl ?_
      exact ⟨rfl, ((HB.out.setCell (p := ⟨w.heap.size, 0, none⟩) (Nat.le_refl _) _).setCell (p := ⟨w.heap.size, 1, none⟩) (Nat.le_refl _) _).setCell (p := ⟨w.heap.size, 2, none⟩) (Nat.le_refl _) _⟩
    · rw [at_out (by omega), atG_out (by omega)]
      have t1 : decide (n ≤ i) = true := decide_eq_true (by omega)
      have g0 := pg0 HN.out
      have g1 := pg1 HN.out
      have g2 := pg2 HN.out
      have f0 := pgFz HN.out
      clear h hx0
      go_enter Try.func29, Try.ntmps29
      go_wp2_with (go_at_call 24; refine HL.out.mono ?_; rintro e w1 ⟨rfl, rfl⟩)
      refine bodyPost_ret (results_cell_row rfl _ _ _ 69 _ _ _ rfl (pg_set HN.out _ _ _) Try.underlying69 rfl (pgI _ _ _)) rfl ?_
      exact ⟨rfl, ((HB.out.setCell (p := ⟨w.heap.size, 0, none⟩) (Nat.le_refl _) _).setCell (p := ⟨w.heap.size, 1, none⟩) (Nat.le_refl _) _).setCell (p := ⟨w.heap.size, 2, none⟩) (Nat.le_refl _) _⟩
end Go.Proofs.Ytlapinecmiacoaa
namespace Go.Proofs.Ytlapinecmiacoaa
open Go.ChangeShapes Go.WideShapes Go.ChangeAt Go.RowKit Nm Cf Vc Sp Pg

set_option maxRecDepth 100000 in
theorem page_free (w : World) (v : Int) (u : Nat) (A : Option Addr) (l c : Nat) : Calls Try.prog 30 #[.agg (pgA v (u : Int) (.slice A l c))] w fun e w' => e = .returned (.bool (decide (u = 0))) ∧ Below w.heap.size w w' := by
  have HN := Lib.hid (pg_new w v u (.slice A l c))
  have hb : Below w.heap.size w (w.alloc (pgO v u (.slice A l c))) := (Below.refl _ _).alloc (Nat.le_refl _) _
  have HB := Lib.hid hb
  have k1 := pg1 HN.out
  have HE := Lib.hid (show ((u : Int) == 0) = decide (u = 0) by by_cases h : u = 0 <;> simp [h])
  clear hb
  unfold pgA
  go_enter Try.func30, Try.ntmps30
  go_wp2_with (fail)
  refine bodyPost_ret (results_tmp rfl _ _ _) rfl ?_
  exact ⟨by first | rfl | (rw [← HE.out]; rfl) | (simp), HB.out⟩
namespace Pg
/-- A page with one user less. -/
def lessP {α : Type} (g : Page α) : Page α := if g.u = 1 then fr else { g with u := g.u - 1 }
def lessG {α : Type} (g : Page α) (s : Value) : Value := if g.u = 1 then .slice none 0 0 else s
theorem two_new (w : World) (o : Obj) (v u : Int) (s : Value) : ((w.alloc o).alloc (pgO v u s)).heap[w.heap.size + 1]? = some (pgO v u s) := by
  have h2 := pg_new (w.alloc o) v u s
  rwa [World.size_alloc] at h2
theorem two_below (w : World) (o o2 : Obj) : Below w.heap.size w ((w.alloc o).alloc o2) := ((Below.refl _ _).alloc (Nat.le_refl _) _).alloc (by simp) _
end Pg
set_option maxRecDepth 100000 in
set_option maxHeartbeats 800000 in
theorem page_dropped (w : World) (g : Page Ent) (A : Option Addr) (l c : Nat) (hu : 1 ≤ g.u) (hm : g.u ≤ 1000000) : Calls Try.prog 33 #[.agg (pgA g.v (g.u : Int) (.slice A l c))] w fun e w' => e = .returned (.agg (pgA (lessP g).v ((lessP g).u : Int) (lessG g (.slice A l c)))) ∧ Below w.heap.size w w' := by
  have hb : Below w.heap.size w ((w.alloc (pgO g.v g.u (.slice A l c))).alloc (pgO 0 0 (.slice none 0 0))) := ((Below.refl _ _).alloc (Nat.le_refl _) _).alloc (by simp) _
  have h1 := (heap_alloc_old (w.alloc (pgO g.v g.u (.slice A l c))) (pgO 0 0 (.slice none 0 0)) (by simp)).trans (pg_new w g.v g.u (.slice A l c))
  have h2 := pg_new (w.alloc (pgO g.v g.u (.slice A l c))) 0 0 (.slice none 0 0)
  rw [World.size_alloc] at h2
  have HB := Lib.hid hb
  have H1 := Lib.hid h1
  have H2 := Lib.hid h2
  have a0 := pg0 h1
  have a1 := pg1 h1
  have a2 := pg2 h1
  have af := pgFz h1
  have b0 := pg0 h2
  have b1 := pg1 h2
  have b2 := pg2 h2
  have bf := pgFz h2
  clear hb h1 h2
  by_cases hu1 : g.u = 1
  · have t0 : ((g.u : Int) == 1) = true := by rw [hu1]; rfl
    rw [show lessP g = fr from if_pos hu1, show lessG g (.slice A l c) = .slice none 0 0 from if_pos hu1]
    generalize g.v = v at *
    generalize g.u = u at *
    subst hu1
    unfold pgA
    go_enter Try.func33, Try.ntmps33
    go_wp2_with (fail)
    refine bodyPost_ret (results_cell_row rfl _ _ _ 69 _ _ _ rfl (two_new w _ _ _ _) Try.underlying69 rfl (pgI _ _ _)) rfl ?_
    exact ⟨rfl, two_below _ _ _⟩
  · have t0 : ((g.u : Int) == 1) = false := by simpa using (show ¬ (g.u : Int) = 1 by omega)
    have HW := IntWalk.wrap64_in ((g.u : Int) - 1) (by omega)
    have HU := Lib.hid (show (((lessP g).u : Nat) : Int) = (g.u : Int) - 1 by rw [show lessP g = { g with u := g.u - 1 } from if_neg hu1]; show ((g.u - 1 : Nat) : Int) = _; omega)
    have HV := Lib.hid (show (lessP g).v = g.v by rw [show lessP g = { g with u := g.u - 1 } from if_neg hu1])
    rw [HU.out, HV.out, show lessG g (.slice A l c) = .slice A l c from if_neg hu1]
    generalize g.v = v at *
    generalize g.u = u at *
    clear HU HV
    unfold pgA
    go_enter Try.func33, Try.ntmps33
    go_wp2_with (fail)
    refine bodyPost_ret (results_cell_row rfl _ _ _ 69 _ _ _ rfl (two_new w _ _ _ _) Try.underlying69 rfl (pgI _ _ _)) rfl ?_
    exact ⟨rfl, two_below _ _ _⟩

namespace Pg
theorem atG_slice {tP tG tE : TypeId} {F : Nat → Prop} {w : World} {D b cap n : Nat} {P : Nat → Page Ent} {G : Nat → Value} {Q : Nat → List (Er × Ent)} (h : PlX tP tG tE F w D b cap n P G Q) (x : Int) : ∃ A c, atG n G x = .slice A (atP n P x).l.length c := by
  by_cases hx : 0 ≤ x ∧ x < (n : Int)
  · obtain ⟨A, c, e⟩ := h.slice (i := x.toNat) (by omega)
    exact ⟨A, c, by rw [show atG n G x = G x.toNat from if_pos hx, show atP n P x = P x.toNat from if_pos hx, e]⟩
  · exact ⟨none, 0, by rw [atG_out hx, at_out hx]; rfl⟩
/-- What a number finds, and whether it is free. -/
theorem page_at {F : Nat → Prop} {w : World} {D n : Nat} {P : Nat → Page Ent} (h : Pl F w D n P) (x : Int) : ∃ A c, (∀ W, Below w.heap.size w W → Calls Try.prog 29 #[.pointer (some ⟨D, 0, none⟩), .int .i64 x] W fun e w' => e = .returned (.agg #[.int .i64 (atP n P x).v, .int .i64 ((atP n P x).u : Int), .slice A (atP n P x).l.length c]) ∧ Below W.heap.size W w') ∧
    ∀ W, Calls Try.prog 30 #[.agg #[.int .i64 (atP n P x).v, .int .i64 ((atP n P x).u : Int), .slice A (atP n P x).l.length c]] W fun e w' => e = .returned (.bool (!isP n P x)) ∧ Below W.heap.size W w' := by
  obtain ⟨b, cap, G, Q, h⟩ := h
  obtain ⟨A, c, e⟩ := atG_slice h x
  refine ⟨A, c, fun W hW => ?_, fun W => ?_⟩
  · have := pages_page (h.step hW) x
    rw [e] at this
    exact this
  · have := page_free W (atP n P x).v (atP n P x).u A (atP n P x).l.length c
    rw [at_u] at this
    exact this
end Pg
section
variable (v u : Value) (A : Option Addr) (l c : Nat) (W : World)
theorem fld0 : (Instr.field 69 (.agg #[v, u, .slice A l c]) 0).run Try.prog W = .ok v W := by
  simp [Instr.field, run_underlying Try.underlying69, run_underlying Try.underlying3, asAgg, part, isAgg]
theorem fld1 : (Instr.field 69 (.agg #[v, u, .slice A l c]) 1).run Try.prog W = .ok u W := by
  simp [Instr.field, run_underlying Try.underlying69, run_underlying Try.underlying3, asAgg, part, isAgg]
theorem fld2 : (Instr.field 69 (.agg #[v, u, .slice A l c]) 2).run Try.prog W = .ok (.slice A l c) W := by
  simp [Instr.field, run_underlying Try.underlying69, run_underlying Try.underlying53, asAgg, part, isAgg]
end
set_option maxRecDepth 100000 in
set_option maxHeartbeats 400000 in
theorem pages_version {F : Nat → Prop} {w : World} {D n : Nat} {P : Nat → Page Ent} (h : Pl F w D n P) (x : Int) : Calls Try.prog 20 #[.pointer (some ⟨D, 0, none⟩), .int .i64 x] w fun e w' => e = .returned (.int .i64 (verI n P x)) ∧ Below w.heap.size w w' := by
  obtain ⟨A, c, h1, _⟩ := page_at h x
  have HC := Lib.hid (h1 w (Below.refl _ _))
  rw [at_ver h.inv] at HC
  have q0 := fld0 (.int .i64 (verI n P x)) (.int .i64 ((atP n P x).u : Int)) A (atP n P x).l.length c
  clear h1 h
  go_enter Try.func20, Try.ntmps20
  go_wp2_with (fail)
  refine HC.out.mono ?_
  rintro e w1 ⟨rfl, b1⟩
  have B1 := Lib.hid b1
  clear b1
  go_wp2_with (fail)
  exact bodyPost_ret (results_tmp rfl _ _ _) rfl ⟨rfl, B1.out⟩
set_option maxRecDepth 100000 in
set_option maxHeartbeats 400000 in
theorem pages_users {F : Nat → Prop} {w : World} {D n : Nat} {P : Nat → Page Ent} (h : Pl F w D n P) (x : Int) : Calls Try.prog 21 #[.pointer (some ⟨D, 0, none⟩), .int .i64 x] w fun e w' => e = .returned (.int .i64 (usrI n P x : Nat)) ∧ Below w.heap.size w w' := by
  obtain ⟨A, c, h1, _⟩ := page_at h x
  have HC := Lib.hid (h1 w (Below.refl _ _))
  rw [at_usr] at HC
  have q0 := fld1 (.int .i64 (atP n P x).v) (.int .i64 ((usrI n P x : Nat) : Int)) A (atP n P x).l.length c
  clear h1 h
  go_enter Try.func21, Try.ntmps21
  go_wp2_with (fail)
  refine HC.out.mono ?_
  rintro e w1 ⟨rfl, b1⟩
  have B1 := Lib.hid b1
  clear b1
  go_wp2_with (fail)
  exact bodyPost_ret (results_tmp rfl _ _ _) rfl ⟨rfl, B1.out⟩
namespace Pg
theorem free_next {n j : Nat} {P : Nat → Page Ent} (h : j < n) : freeN P (j + 1) = if isP n P (j : Int) = true then freeN P j else freeN P j + 1 := by
  rw [is_nat h, freeN]
  by_cases h0 : (P j).u = 0
  · rw [if_pos h0, if_neg (by simp [h0])]
  · rw [if_neg h0, if_pos (decide_eq_true (by omega)), Nat.add_zero]
end Pg
set_option maxRecDepth 100000 in
set_option maxHeartbeats 800000 in
theorem pages_Free {F : Nat → Prop} {w : World} {D n : Nat} {P : Nat → Page Ent} (h : Pl F w D n P) : Calls Try.prog 22 #[.pointer (some ⟨D, 0, none⟩)] w fun e w' => e = .returned (.int .i64 (freeN P n : Nat)) ∧ Below w.heap.size w w' := by
  have hn := h.few
  have HL := Lib.hid (by obtain ⟨b, cap, G, Q, h⟩ := h; exact pages_len h)
  have HP := Lib.hid (page_at h)
  clear h
  go_enter Try.func22, Try.ntmps22
  go_wp2_with (go_at_call 24; refine HL.out.mono ?_; rintro e w1 ⟨rfl, rfl⟩)
  go_loopw [3, 7] (fun s i wr => ∃ j : Nat, i = .int .i64 (j : Int) ∧ j ≤ n ∧ s = .int .i64 (freeN P j : Nat) ∧ Below w.heap.size w wr) (fun _ i _ => match i with | .int _ k => n - k.toNat | _ => 0)
  case atStart => exact ⟨0, rfl, Nat.zero_le _, rfl, Below.refl _ _⟩
  case round =>
    obtain ⟨j, rfl, hj, rfl, hb⟩ := hrel
    have HB := Lib.hid hb
    have hf := free_le P j
    clear hb
    by_cases hlt : j < n
    · have x0 : (j : Int) < (n : Int) := by omega
      have x1 : decide ((j : Int) < (n : Int)) = true := decide_eq_true x0
      have HJ := Lib.hid (show j + 1 ≤ n by omega)
      obtain ⟨A, c, c1, c2⟩ := HP.out (j : Int)
      have HC1 := Lib.hid (c1 wr HB.out)
      have HC2 := Lib.hid c2
      have HN := Lib.hid (free_next (P := P) hlt)
      clear c1 c2
      have x3 := IntWalk.wrap64_in ((j : Int) + 1) (by omega)
      have x4 := IntWalk.wrap64_in (((freeN P j : Nat) : Int) + 1) (by omega)
      generalize (atP n P (j : Int)).l.length = l1 at *
      generalize (atP n P (j : Int)).v = v1 at *
      generalize (atP n P (j : Int)).u = u1 at *
      cases hp : isP n P (j : Int) with
      | true =>
        rw [hp] at HC2 HN
        have HN2 := Lib.hid (show freeN P (j + 1) = freeN P j from HN.out)
        clear hp hlt
        go_wp2_with (first
          | (go_at_call 29; refine HC1.out.mono ?_; rintro e w1 ⟨rfl, b1⟩; have B1 := Lib.hid (HB.out.trans (b1.mono HB.out.size)); clear b1)
          | (go_at_call 30; refine (HC2.out _).mono ?_; rintro e w2 ⟨rfl, b2⟩; have B2 := Lib.hid (B1.out.trans (b2.mono B1.out.size)); clear b2))
        exact ⟨⟨j + 1, rfl, HJ.out, by rw [HN2.out], B2.out⟩, vc_less j n HJ.out⟩
      | false =>
        rw [hp] at HC2 HN
        have HN2 := Lib.hid (show freeN P (j + 1) = freeN P j + 1 from HN.out)
        clear hp hlt
        go_wp2_with (first
          | (go_at_call 29; refine HC1.out.mono ?_; rintro e w1 ⟨rfl, b1⟩; have B1 := Lib.hid (HB.out.trans (b1.mono HB.out.size)); clear b1)
          | (go_at_call 30; refine (HC2.out _).mono ?_; rintro e w2 ⟨rfl, b2⟩; have B2 := Lib.hid (B1.out.trans (b2.mono B1.out.size)); clear b2))
        exact ⟨⟨j + 1, rfl, HJ.out, by rw [HN2.out]; rfl, B2.out⟩, vc_less j n HJ.out⟩
    · have hke : j = n := by omega
      subst hke
      have x0 : ¬ (j : Int) < (j : Int) := by omega
      have x1 : decide ((j : Int) < (j : Int)) = false := decide_eq_false x0
      go_wp2_with (fail)
      refine bodyPost_ret (results_tmp rfl _ _ _) rfl ?_
      exact ⟨rfl, HB.out⟩
end Go.Proofs.Ytlapinecmiacoaa
namespace Go.Proofs.Ytlapinecmiacoaa
open Go.ChangeShapes Go.WideShapes Go.ChangeAt Go.RowKit Nm Cf Vc Sp Pg

namespace Pg
/-- The lowest free page's number; -1: there is none. -/
def lowI (P : Nat → Page Ent) (n : Nat) : Int := if lowP P n < n then (lowP P n : Int) else -1
theorem made_page (n : Nat) {i : Nat} (h : i < n) : (madeCells #[.int .i64 0, .int .i64 0, .slice none 0 0] (n * 3))[i * 3]? = some (.int .i64 0) ∧ (madeCells #[.int .i64 0, .int .i64 0, .slice none 0 0] (n * 3))[i * 3 + 1]? = some (.int .i64 0) ∧ (madeCells #[.int .i64 0, .int .i64 0, .slice none 0 0] (n * 3))[i * 3 + 2]? = some (.slice none 0 0) := by
  have key : ∀ k, k < 3 → (madeCells #[.int .i64 0, .int .i64 0, .slice none 0 0] (n * 3))[i * 3 + k]? = (#[.int .i64 0, .int .i64 0, .slice none 0 0] : Array Value)[k]? := fun k hk => by
    have h1 : i * 3 + k < (madeCells #[.int .i64 0, .int .i64 0, .slice none 0 0] (n * 3)).size := by rw [size_madeCells]; omega
    rw [Array.getElem?_eq_getElem h1]
    simp only [madeCells, Array.getElem_ofFn]
    have h2 : (i * 3 + k) % 3 = k := by omega
    match k, hk with
    | 0, _ => simp [h2]
    | 1, _ => simp [h2]
    | 2, _ => simp [h2]
  exact ⟨key 0 (by omega), key 1 (by omega), key 2 (by omega)⟩
theorem plx_new (tP tG tE : TypeId) (w : World) (n : Nat) (h1 : 1 ≤ n) (h2 : n ≤ 64) : PlX tP tG tE (fun k => k = w.heap.size ∨ k = w.heap.size + 1) ((w.alloc (.cells (madeCells #[.int .i64 0, .int .i64 0, .slice none 0 0] (n * 3)) tG)).alloc (.cells #[.slice (some ⟨w.heap.size, 0, none⟩) n n] tP)) (w.heap.size + 1) w.heap.size n n (fun _ => fr) (fun _ => .slice none 0 0) (fun _ => []) := by
  have hp := heap_alloc_new (w.alloc (.cells (madeCells #[.int .i64 0, .int .i64 0, .slice none 0 0] (n * 3)) tG)) (.cells #[.slice (some ⟨w.heap.size, 0, none⟩) n n] tP)
  rw [World.size_alloc] at hp
  refine ⟨hp, ⟨_, (heap_alloc_old _ _ (by simp)).trans (heap_alloc_new w _), by rw [size_madeCells]; exact Nat.le_refl _, fun i hi => made_page n hi⟩, ⟨fun i _ => World.ownsRow_nil _ 0 tE 2, fun i _ k hk => (by cases hk), fun i j _ _ _ k hk => (by cases hk), fun i _ q hq => absurd hq (by simp)⟩, fun i _ => rfl, by omega, .inr rfl, .inl rfl, fun k hk => ?_, ⟨h1, h2⟩, inv_new, fun i _ e he => absurd he (by simp [fr])⟩
  simp
  omega
end Pg
theorem info_page : (Try.prog.info? 69).map (fun i => (i.zero, i.size, i.bytes)) = some (some (.agg #[.int .i64 0, .int .i64 0, .slice none 0 0]), 3, 40) := by kernel_rfl
set_option maxRecDepth 100000 in
set_option maxHeartbeats 400000 in
theorem pages_new (w : World) (n : Nat) (h1 : 1 ≤ n) (h2 : n ≤ 64) : Calls Try.prog 7 #[.int .i64 (n : Int)] w fun e w' => ∃ D F, e = .returned (.pointer (some ⟨D, 0, none⟩)) ∧ Pl F w' D n (fun _ => fr) ∧ (∀ k, F k → w.heap.size ≤ k) ∧ Below w.heap.size w w' := by
  have t0 : decide ((n : Int) < 1) = false := decide_eq_false (by omega)
  have t1 : decide ((n : Int) > 64) = false := decide_eq_false (by omega)
  have t2 : decide (64 < (n : Int)) = false := decide_eq_false (by omega)
  obtain ⟨i0, hi0, hz0, hz1, hz2⟩ := info_parts info_page
  have hmk : ∀ W, (Instr.makeSlice 65 (.int .i64 (n : Int)) (.int .i64 (n : Int))).run Try.prog W = .ok (.slice (some ⟨W.heap.size, 0, none⟩) n n) (W.alloc (.cells (madeCells #[.int .i64 0, .int .i64 0, .slice none 0 0] (n * 3)) 69)) := fun W => by
    have h := run_make (P := Try.prog) W 65 69 i0 (.agg #[.int .i64 0, .int .i64 0, .slice none 0 0]) Try.underlying65 hi0 hz0 .i64 .i64 (n : Int) (n : Int) (by omega) (by omega) (by rw [hz2]; omega) (by omega)
    rw [hz1, Int.toNat_natCast] at h
    exact h
  clear hi0 hz0 hz1 hz2
  go_enter Try.func7, Try.ntmps7
  go_wp2_with (fail)
  refine bodyPost_ret (results_tmp rfl _ _ _) rfl ?_
  exact ⟨w.heap.size + 1, _, rfl, ⟨w.heap.size, n, _, _, plx_new _ _ _ w n h1 h2⟩, fun k hk => by omega, ((Below.refl _ _).alloc (Nat.le_refl _) _).alloc (by simp) _⟩
set_option maxRecDepth 100000 in
theorem pages_new_not (w : World) (x : Int) (h : x < 1 ∨ 64 < x) : Calls Try.prog 7 #[.int .i64 x] w fun e w' => e = .returned (.pointer none) ∧ w = w' := by
  by_cases hx : x < 1
  · have t0 : decide (x < 1) = true := decide_eq_true hx
    go_enter Try.func7, Try.ntmps7
    go_wp2_with (fail)
    exact bodyPost_ret (results_tmp rfl _ _ _) rfl ⟨rfl, rfl⟩
  · have t0 : decide (x < 1) = false := decide_eq_false hx
    have t2 : decide (64 < x) = true := decide_eq_true (by omega)
    go_enter Try.func7, Try.ntmps7
    go_wp2_with (fail)
    exact bodyPost_ret (results_tmp rfl _ _ _) rfl ⟨rfl, rfl⟩
theorem eg_free : ∀ args w, (callFunc 30 args).run Try.prog w = .ok (.enter 30 args) w := Go.Proofs.enters_of Try.func30 (by kernel_rfl) rfl
set_option maxRecDepth 100000 in
set_option maxHeartbeats 800000 in
theorem idx_free {F : Nat → Prop} {w : World} {D b cap n : Nat} {P : Nat → Page Ent} {G : Nat → Value} {Q : Nat → List (Er × Ent)} (h : PlX 67 69 36 F w D b cap n P G Q) :
    Calls Try.prog 35 #[.slice (some ⟨b, 0, none⟩) n cap, .func (.func 30) #[] #[]] w fun e w' => e = .returned (.int .i64 (lowI P n)) ∧ Below w.heap.size w w' := by
  have hn := h.few
  have H := Lib.hid h
  have eg := eg_free
  clear h
  go_enter Try.func35, Try.ntmps35
  go_wp2_with (fail)
  go_loopw [8] (fun i wr => ∃ j : Nat, i = .int .i64 (j : Int) ∧ j ≤ n ∧ Below w.heap.size w wr ∧ ∀ i, i < j → (P i).u ≠ 0) (fun i _ => match i with | .int _ k => n - k.toNat | _ => 0)
  case atStart => exact ⟨0, rfl, Nat.zero_le _, Below.refl _ _, fun i hi => absurd hi (Nat.not_lt_zero _)⟩
  case round =>
    obtain ⟨j, rfl, hj, hb, hno⟩ := hrel
    have HB := Lib.hid hb
    have HNO := Lib.hid hno
    clear hb hno
    have x2 : 0 ≤ (j : Int) := by omega
    by_cases hlt : j < n
    · have x0 : (j : Int) < (n : Int) := by omega
      have x1 : decide ((j : Int) < (n : Int)) = true := decide_eq_true x0
      have HJ := Lib.hid (show j + 1 ≤ n by omega)
      have HX := Lib.hid (H.out.step HB.out)
      have k0 := HX.out.row.c0 hlt
      have k1 := HX.out.row.c1 hlt
      have k2 := HX.out.row.c2 hlt
      obtain ⟨A, c, hG⟩ := H.out.slice hlt
      rw [hG] at k2
      have HC := Lib.hid (page_free wr (P j).v (P j).u A (P j).l.length c)
      have x3 := IntWalk.wrap64_in ((j : Int) + 1) (by omega)
      unfold pgA at HC
      generalize (P j).v = v at *
      generalize (P j).l.length = l at *
      by_cases hu : (P j).u = 0
      · rw [decide_eq_true hu] at HC
        have HR := Lib.hid (low_at hlt hu HNO.out)
        generalize (P j).u = u at *
        have HLT := Lib.hid hlt
        clear hu hlt hG
        go_wp2_with (go_at_fn 30; refine HC.out.mono ?_; rintro e w2 ⟨rfl, b2⟩; have HB2 := Lib.hid (HB.out.trans (b2.mono HB.out.size)); clear b2)
        refine bodyPost_ret (results_tmp rfl _ _ _) rfl ?_
        rw [show lowI P n = (j : Int) from by unfold lowI; rw [HR.out, if_pos HLT.out]]
        exact ⟨rfl, HB2.out⟩
      · rw [decide_eq_false hu] at HC
        have HN2 := Lib.hid (show ∀ i, i < j + 1 → (P i).u ≠ 0 from fun i hi => by
          by_cases e : i = j
          · rw [e]; exact hu
          · exact HNO.out i (by omega))
        generalize (P j).u = u at *
        clear hu hlt hG
        go_wp2_with (go_at_fn 30; refine HC.out.mono ?_; rintro e w2 ⟨rfl, b2⟩; have HB2 := Lib.hid (HB.out.trans (b2.mono HB.out.size)); clear b2)
        exact ⟨⟨j + 1, rfl, HJ.out, HB2.out, HN2.out⟩, vc_less j n HJ.out⟩
    · have hke : j = n := by omega
      subst hke
      have x0 : ¬ (j : Int) < (j : Int) := by omega
      have x1 : decide ((j : Int) < (j : Int)) = false := decide_eq_false x0
      have HR := Lib.hid (low_none HNO.out)
      go_wp2_with (fail)
      refine bodyPost_ret (results_tmp rfl _ _ _) rfl ?_
      rw [show lowI P j = -1 from by unfold lowI; rw [HR.out, if_neg (Nat.lt_irrefl _)]]
      exact ⟨rfl, HB.out⟩
end Go.Proofs.Ytlapinecmiacoaa
namespace Go.Proofs.Ytlapinecmiacoaa
open Go.ChangeShapes Go.WideShapes Go.ChangeAt Go.RowKit Nm Cf Vc Sp Pg

namespace Pg
section
variable {tP tG tE : TypeId} {F : Nat → Prop} {w w' : World} {D b cap n : Nat} {P P' : Nat → Page Ent} {G : Nat → Value} {Q : Nat → List (Er × Ent)}
theorem plx_congr (h : PlX tP tG tE F w D b cap n P G Q) (hP : ∀ i, i < n → P' i = P i) : PlX tP tG tE F w D b cap n P' G Q :=
  ⟨h.pool, h.row.congr (fun i hi => by rw [hP i hi]; exact ⟨rfl, rfl⟩) fun _ _ => rfl, h.es, fun i hi => by rw [hP i hi]; exact h.same i hi, h.ne, h.FD, h.Fb, h.lt, h.few, ⟨fun i hi hu => by rw [hP i hi] at hu ⊢; exact h.inv.free i hi hu, fun i hi hu => by rw [hP i hi] at hu ⊢; exact h.inv.ver i hi hu, fun i hi => by rw [hP i hi]; exact h.inv.few i hi⟩, fun i hi => by rw [hP i hi]; exact h.sized i hi⟩
/-- A page without entries is stored. -/
theorem plx_page (h : PlX tP tG tE F w D b cap n P G Q) {i : Nat} (v : Int) (u : Nat) (hi : Inv n (updP P i ⟨v, u, []⟩)) :
    PlX tP tG tE F (((w.setCell ⟨b, i * 3, none⟩ (.int .i64 v)).setCell ⟨b, i * 3 + 1, none⟩ (.int .i64 (u : Int))).setCell ⟨b, i * 3 + 2, none⟩ (.slice none 0 0)) D b cap n (updP P i ⟨v, u, []⟩) (updG G i (.slice none 0 0)) (updQ Q i []) ∧
    Turn F w (((w.setCell ⟨b, i * 3, none⟩ (.int .i64 v)).setCell ⟨b, i * 3 + 1, none⟩ (.int .i64 (u : Int))).setCell ⟨b, i * 3 + 2, none⟩ (.slice none 0 0)) := by
  have ho : ∀ j, j ≠ b → (((w.setCell ⟨b, i * 3, none⟩ (.int .i64 v)).setCell ⟨b, i * 3 + 1, none⟩ (.int .i64 (u : Int))).setCell ⟨b, i * 3 + 2, none⟩ (.slice none 0 0)).heap[j]? = w.heap[j]? := fun j hj => ((heap_setCell_other _ ⟨b, i * 3 + 2, none⟩ j _ hj).trans (heap_setCell_other _ ⟨b, i * 3 + 1, none⟩ j _ hj)).trans (heap_setCell_other _ ⟨b, i * 3, none⟩ j _ hj)
  refine ⟨⟨(ho D h.ne).trans h.pool, h.row.setAll v u [] (.slice none 0 0), ?_, fun j hj => ?_, h.ne, h.FD, h.Fb, fun k hk => by simpa using h.lt k hk, h.few, hi, fun j hj e he => ?_⟩, (((Turn.refl F w).set (.inl h.Fb) _ _).set (.inl h.Fb) _ _).set (.inl h.Fb) _ _⟩
  · refine (h.es.kept (w' := (((w.setCell ⟨b, i * 3, none⟩ (.int .i64 v)).setCell ⟨b, i * 3 + 1, none⟩ (.int .i64 (u : Int))).setCell ⟨b, i * 3 + 2, none⟩ (.slice none 0 0))) fun k _ hk _ => ho k fun e => hk (.inr e)).less (fun j => decide (j = i)) (fun j _ => ?_) fun j _ => ?_
    · unfold updG
      simp only [decide_eq_true_iff]
    · unfold updQ
      simp only [decide_eq_true_iff]
  · by_cases e : j = i
    · rw [e, upd_at, updQ_at]; rfl
    · rw [upd_off _ e, updQ_off _ _ e]; exact h.same j hj
  · by_cases e2 : j = i
    · rw [e2, upd_at] at he; exact absurd he (by simp)
    · rw [upd_off _ e2] at he; exact h.sized j hj e he
end
end Pg
set_option maxRecDepth 100000 in
set_option maxHeartbeats 800000 in
theorem pages_take {F : Nat → Prop} {w : World} {D n : Nat} {P : Nat → Page Ent} (h : Pl F w D n P) (v : Int) :
    Calls Try.prog 15 #[.pointer (some ⟨D, 0, none⟩), .int .i64 v] w fun e w' => e = .returned (.tuple #[.int .i64 (takeI n P v), .int .i64 (takeE n P v)]) ∧ TurnsP F w D n (takeS n P v) w' := by
  have HIT := Lib.hid (inv_take h.inv v)
  by_cases hv : verP v = true
  case neg =>
    have HI := Lib.hid (show takeI n P v = 0 from if_neg fun h => hv h.1)
    have HE := Lib.hid (show takeE n P v = 1 from if_neg hv)
    have HS := Lib.hid (show takeS n P v = P from if_neg fun h => hv h.1)
    have HL := Lib.hid (show TurnsP F w D n P w from ⟨F, h, fun _ => .inl, Turn.refl _ _⟩)
    rw [HI.out, HE.out, HS.out]
    have hv2 : ¬ (1 ≤ v ∧ v ≤ 2147483647) := fun h => hv (ver_iff.2 h)
    clear HI HE HS HIT h
    by_cases h1 : v < 1
    · have t0 : decide (v < 1) = true := decide_eq_true h1
      go_enter Try.func15, Try.ntmps15
      go_wp2_with (fail)
      exact bodyPost_ret (results_tmp2 rfl _ _ _) rfl ⟨rfl, HL.out⟩
    · have t0 : decide (v < 1) = false := decide_eq_false h1
      have t1 : decide (2147483647 < v) = true := decide_eq_true (by omega)
      go_enter Try.func15, Try.ntmps15
      go_wp2_with (fail)
      exact bodyPost_ret (results_tmp2 rfl _ _ _) rfl ⟨rfl, HL.out⟩
  obtain ⟨b, cap, G, Q, hX⟩ := h
  have hv2 := ver_iff.1 hv
  have t0 : decide (v < 1) = false := decide_eq_false (by omega)
  have t1 : decide (2147483647 < v) = false := decide_eq_false (by omega)
  have HF := Lib.hid (idx_free hX)
  have HX := Lib.hid hX
  have k0 := hX.cD
  by_cases hl : lowP P n < n
  · have HLI := Lib.hid (show lowI P n = (lowP P n : Int) from if_pos hl)
    have HI := Lib.hid (show takeI n P v = (lowP P n : Int) from if_pos ⟨hv, hl⟩)
    have HE := Lib.hid (show takeE n P v = 0 from (if_pos hv).trans (if_pos hl))
    have HS := Lib.hid (show takeS n P v = updP P (lowP P n) ⟨v, 1, []⟩ from if_pos ⟨hv, hl⟩)
    rw [HS.out] at HIT
    rw [HI.out, HE.out, HS.out]
    rw [HLI.out] at HF
    clear HLI HI HE HS
    generalize lowP P n = i at *
    have x0 : (i : Int) < (n : Int) := by omega
    have x2 : 0 ≤ (i : Int) := by omega
    have x3 : decide ((i : Int) < 0) = false := decide_eq_false (by omega)
    clear hX hv
    go_enter Try.func15, Try.ntmps15
    go_wp2_with (fail)
    refine HF.out.mono ?_
    rintro e w1 ⟨rfl, b1⟩
    have HX1 := Lib.hid (HX.out.step b1)
    have B1 := Lib.hid b1
    clear b1 k0
    have k0 := HX1.out.cD
    have k1 := HX1.out.row.c0 hl
    have k2 := HX1.out.row.c1 hl
    have k3 := HX1.out.row.c2 hl
    have f0 := HX1.out.row.fz
    go_wp2_with (fail)
    refine bodyPost_ret (results_tmp2 rfl _ _ _) rfl ?_
    obtain ⟨p1, p2⟩ := plx_page HX1.out v 1 HIT.out
    exact ⟨rfl, F, ⟨b, cap, _, _, p1⟩, fun _ => .inl, (Turn.of_below F B1.out).both p2⟩
  · have HLI := Lib.hid (show lowI P n = -1 from if_neg hl)
    have HI := Lib.hid (show takeI n P v = 0 from if_neg fun h => hl h.2)
    have HE := Lib.hid (show takeE n P v = 11 from (if_pos hv).trans (if_neg hl))
    have HS := Lib.hid (show takeS n P v = P from if_neg fun h => hl h.2)
    rw [HLI.out] at HF
    rw [HI.out, HE.out, HS.out]
    clear HLI HI HE HS HIT hX hv hl
    go_enter Try.func15, Try.ntmps15
    go_wp2_with (fail)
    refine HF.out.mono ?_
    rintro e w1 ⟨rfl, b1⟩
    have HX1 := Lib.hid (HX.out.step b1)
    have B1 := Lib.hid b1
    clear b1
    go_wp2_with (fail)
    refine bodyPost_ret (results_tmp2 rfl _ _ _) rfl ?_
    exact ⟨rfl, F, ⟨b, cap, G, Q, HX1.out⟩, fun _ => .inl, .of_below _ B1.out⟩
end Go.Proofs.Ytlapinecmiacoaa
namespace Go.Proofs.Ytlapinecmiacoaa
open Go.ChangeShapes Go.WideShapes Go.ChangeAt Go.RowKit Nm Cf Vc Sp Pg

namespace Pg
section
variable {tP tG tE : TypeId} {F : Nat → Prop} {w w' : World} {D b cap n : Nat} {P P' : Nat → Page Ent} {G : Nat → Value} {Q : Nat → List (Er × Ent)}
/-- A page has other users. -/
theorem plx_users (h : PlX tP tG tE F w D b cap n P G Q) {i : Nat} (u : Nat) (hi : Inv n (updP P i { P i with u := u })) :
    PlX tP tG tE F (w.setCell ⟨b, i * 3 + 1, none⟩ (.int .i64 (u : Int))) D b cap n (updP P i { P i with u := u }) G Q ∧ Turn F w (w.setCell ⟨b, i * 3 + 1, none⟩ (.int .i64 (u : Int))) := by
  have ho : ∀ j, j ≠ b → (w.setCell ⟨b, i * 3 + 1, none⟩ (.int .i64 (u : Int))).heap[j]? = w.heap[j]? := fun j hj => heap_setCell_other _ ⟨b, i * 3 + 1, none⟩ j _ hj
  have hl : ∀ j, (updP P i { P i with u := u } j).l = (P j).l := fun j => by
    by_cases e : j = i
    · rw [e, upd_at]
    · rw [upd_off _ e]
  exact ⟨⟨(ho D h.ne).trans h.pool, h.row.setU u, h.es.kept fun k _ hk _ => ho k fun e => hk (.inr e), fun j hj => (hl j).trans (h.same j hj), h.ne, h.FD, h.Fb, fun k hk => by simpa using h.lt k hk, h.few, hi, fun j hj e he => h.sized j hj e (by rwa [hl j] at he)⟩, (Turn.refl F w).set (.inl h.Fb) _ _⟩
end
theorem more_next {P : Nat → Page Ent} {xs : List Int} {j i : Nat} (hj : j < xs.length) (hx : xs[j] = (i : Int)) : moreS P (xs.take (j + 1)) = updP (moreS P (xs.take j)) i { moreS P (xs.take j) i with u := (moreS P (xs.take j) i).u + 1 } := by
  funext k
  show moreS P (xs.take (j + 1)) k = _
  by_cases e : k = i
  · rw [e, upd_at]
    unfold moreS
    rw [cnt_take hj, if_pos hx]
    rfl
  · rw [upd_off _ e]
    unfold moreS
    rw [cnt_take hj, if_neg (by rw [hx]; omega), Nat.add_zero]
theorem more_none (P : Nat → Page Ent) : moreS P [] = P := by
  funext k
  show ({ P k with u := (P k).u + 0 } : Page Ent) = P k
  rfl
theorem share_some {n : Nat} {P : Nat → Page Ent} {xs : List Int} {m : Nat} (hm : xs.length = m) : ((List.range m).any fun j => !isP n P (xs.getD j 0)) = !shareB n P xs := by
  subst hm
  unfold shareB
  rw [Bool.eq_iff_iff]
  simp only [List.any_eq_true, List.mem_range, Bool.not_eq_true', List.all_eq_false]
  constructor
  · rintro ⟨j, hj, h⟩
    refine ⟨xs[j], List.getElem_mem hj, ?_⟩
    rw [List.getD_eq_getElem?_getD, List.getElem?_eq_getElem hj] at h
    simpa using h
  · rintro ⟨x, hx, h⟩
    obtain ⟨j, hj, rfl⟩ := List.getElem_of_mem hx
    refine ⟨j, hj, ?_⟩
    rw [List.getD_eq_getElem?_getD, List.getElem?_eq_getElem hj]
    simpa using h
end Pg
theorem eg_share1 : ∀ args w, (callFunc 28 args).run Try.prog w = .ok (.enter 28 args) w := Go.Proofs.enters_of Try.func28 (by kernel_rfl) rfl
set_option maxRecDepth 100000 in
set_option maxHeartbeats 400000 in
theorem share_fn {F : Nat → Prop} {W : World} {D n : Nat} {P : Nat → Page Ent} (h : Pl F W D n P) {g : Nat} (hg : W.cell? ⟨g, 0, none⟩ = some (.pointer (some ⟨D, 0, none⟩))) (x : Int) :
    Calls Try.prog 28 #[.int .i64 x, .pointer (some ⟨g, 0, none⟩)] W fun e w' => e = .returned (.bool (!isP n P x)) ∧ Below W.heap.size W w' := by
  obtain ⟨A, c, h1, h2⟩ := page_at h x
  have HC1 := Lib.hid (h1 W (Below.refl _ _))
  have HC2 := Lib.hid h2
  clear h1 h2 h
  go_enter Try.func28, Try.ntmps28
  go_wp2_with (first
    | (go_at_call 29; refine HC1.out.mono ?_; rintro e w1 ⟨rfl, b1⟩; have B1 := Lib.hid b1; clear b1)
    | (go_at_call 30; refine (HC2.out _).mono ?_; rintro e w2 ⟨rfl, b2⟩; have B2 := Lib.hid (B1.out.trans (b2.mono B1.out.size)); clear b2))
  exact bodyPost_ret (results_tmp rfl _ _ _) rfl ⟨rfl, B2.out⟩
set_option maxRecDepth 100000 in
set_option maxHeartbeats 1600000 in
theorem pages_share {F : Nat → Prop} {w : World} {D n : Nat} {P : Nat → Page Ent} (h : Pl F w D n P) (B : Option Addr) (m c0 : Nat) (xs : List Int) (hm : xs.length = m) (hm2 : m ≤ 1000) (hX : KIn .i64 w B xs) (hF : Ft (fun k => ¬ F k) B m) (hu : ∀ i, i < n → (P i).u ≤ 1000000) :
    Calls Try.prog 9 #[.pointer (some ⟨D, 0, none⟩), .slice B m c0] w fun e w' => e = .returned (.int .i64 (shareE n P xs)) ∧ TurnsP F w D n (shareS n P xs) w' := by
  have hb0 : Below w.heap.size w (w.alloc (.cells #[.pointer (some ⟨D, 0, none⟩)] 24)) := (Below.refl _ _).alloc (Nat.le_refl _) _
  have hbx : (w.alloc (.cells #[.pointer (some ⟨D, 0, none⟩)] 24)).heap[w.heap.size]? = some (.cells #[.pointer (some ⟨D, 0, none⟩)] 24 (0, 0)) := heap_alloc_new w _
  have k0 : (w.alloc (.cells #[.pointer (some ⟨D, 0, none⟩)] 24)).cell? ⟨w.heap.size, 0, none⟩ = some (.pointer (some ⟨D, 0, none⟩)) := by rw [cell_of_row _ _ _ _ _ _ hbx]; rfl
  have HCF := Lib.hid (any_ints (w.alloc (.cells #[.pointer (some ⟨D, 0, none⟩)] 24)) B m c0 28 #[.pointer (some ⟨w.heap.size, 0, none⟩)] (fun j => !isP n P (xs.getD j 0)) xs hm (by omega) (hX.below hb0 (Nat.le_refl _)) eg_share1 (fun W hW j _ => share_fn (h.step (hb0.trans (hW.mono hb0.size))) ((hW.cell (p := ⟨w.heap.size, 0, none⟩) (by simp)).trans k0) (xs.getD j 0)))
  rw [share_some hm] at HCF
  have HB0 := Lib.hid hb0
  have K0 := Lib.hid k0
  clear hbx
  cases hs : shareB n P xs with
  | false =>
    have HE := Lib.hid (show shareE n P xs = 8 from if_neg (by rw [hs]; decide))
    have HS := Lib.hid (show shareS n P xs = P from if_neg (by rw [hs]; decide))
    have H := Lib.hid h
    rw [hs] at HCF
    rw [HE.out, HS.out]
    clear hs h HE HS hb0 hX hF hu hm
    go_enter Try.func9, Try.ntmps9
    go_wp2_with (fail)
    refine HCF.out.mono ?_
    rintro e w1 ⟨rfl, b1⟩
    have B1 := Lib.hid (HB0.out.trans (b1.mono HB0.out.size))
    clear b1
    go_wp2_with (fail)
    refine bodyPost_ret (results_tmp rfl _ _ _) rfl ?_
    exact ⟨rfl, F, H.out.step B1.out, fun _ => .inl, .of_below _ B1.out⟩
  | true =>
    have HE := Lib.hid (show shareE n P xs = 0 from if_pos hs)
    have HS := Lib.hid (show shareS n P xs = moreS P xs from if_pos hs)
    have HIN := Lib.hid (show ∀ j, j ≤ m → Inv n (moreS P (xs.take j)) from fun j _ => by
      have h1 : shareB n P (xs.take j) = true := share_iff.2 fun x hx => share_iff.1 hs x (List.mem_of_mem_take hx)
      have h2 := inv_share h.inv (xs.take j)
      rwa [show shareS n P (xs.take j) = moreS P (xs.take j) from if_pos h1] at h2)
    have HIS := Lib.hid (show ∀ j (hj : j < xs.length), isP n P xs[j] = true from fun j hj => share_iff.1 hs _ (List.getElem_mem hj))
    obtain ⟨b, cap, G, Q, hPX⟩ := h
    have HPX := Lib.hid hPX
    have HX := Lib.hid hX
    have HF := Lib.hid hF
    have HU := Lib.hid hu
    have HM := Lib.hid hm
    rw [hs] at HCF
    rw [HE.out, HS.out]
    clear hs hPX HE HS hb0 hX hF hu hm
    go_enter Try.func9, Try.ntmps9
    go_wp2_with (fail)
    refine HCF.out.mono ?_
    rintro e w1 ⟨rfl, b1⟩
    have K1 := Lib.hid ((b1.cell (p := ⟨w.heap.size, 0, none⟩) (by simp)).trans K0.out)
    have B1 := Lib.hid (HB0.out.trans (b1.mono HB0.out.size))
    have hlt := b1.size
    have HSZ := Lib.hid (show w.heap.size < w1.heap.size by simp at hlt; omega)
    clear b1 k0 hlt
    go_wp2_with (fail)
    go_loopw [16] (fun i wr => ∃ j : Nat, i = .int .i64 (j : Int) ∧ j ≤ m ∧ PlX 67 69 36 F wr D b cap n (moreS P (xs.take j)) G Q ∧ Turn F w1 wr) (fun i _ => match i with | .int _ k => m - k.toNat | _ => 0)
    case atStart => exact ⟨0, rfl, Nat.zero_le _, by rw [List.take_zero, more_none]; exact HPX.out.step B1.out, Turn.refl _ _⟩
    case round =>
      obtain ⟨j, rfl, hj, hp, ht⟩ := hrel
      have HP := Lib.hid hp
      have HT := Lib.hid ht
      have x2 : 0 ≤ (j : Int) := by omega
      clear hp ht
      have HNF := Lib.hid (show ¬ F w.heap.size from fun hf => absurd (HPX.out.lt _ hf) (Nat.lt_irrefl _))
      have kb : wr.cell? ⟨w.heap.size, 0, none⟩ = some (.pointer (some ⟨D, 0, none⟩)) := (World.cell?_of_block (w := w1) (a := ⟨w.heap.size, 0, none⟩) (HT.out.block _ HSZ.out HNF.out)).trans K1.out
      by_cases hlt : j < m
      · have x0 : (j : Int) < (m : Int) := by omega
        have x1 : decide ((j : Int) < (m : Int)) = true := decide_eq_true x0
        have HJ := Lib.hid (show j + 1 ≤ m by omega)
        have hjl : j < xs.length := by rw [HM.out]; exact hlt
        have hin := is_iff.1 (HIS.out j hjl)
        obtain ⟨i, hi⟩ : ∃ i : Nat, xs[j] = (i : Int) := ⟨xs[j].toNat, by omega⟩
        rw [hi] at hin
        have hin2 : i < n := by omega
        have hkx : KIn .i64 wr B xs := KIn.moved (p := fun k => k < w1.heap.size ∧ ¬ F k) (HX.out.below B1.out (Nat.le_refl _)) (((KIn.low' (HX.out.below B1.out (Nat.le_refl _)))).both (by rw [HM.out]; exact HF.out)) fun k hk => HT.out.block k hk.1 hk.2
        obtain ⟨pa, oa, rfl, hc1⟩ := hkx.at hjl
        rw [List.getD_eq_getElem?_getD, List.getElem?_eq_getElem hjl, show (some xs[j]).getD 0 = (i : Int) from hi] at hc1
        have HN := Lib.hid (more_next (P := P) hjl hi)
        have hum : (moreS P (xs.take j) i).u ≤ 1001000 := by
          have h1 := HU.out i hin2
          have h2 := cnt_le (xs.take j) i
          rw [List.length_take] at h2
          show (P i).u + cntI (xs.take j) i ≤ _
          omega
        have HIN2 := Lib.hid (HIN.out (j + 1) HJ.out)
        have HUP := Lib.hid (plx_users HP.out ((moreS P (xs.take j) i).u + 1) (HN.out ▸ HIN2.out))
        have x3 := IntWalk.wrap64_in ((j : Int) + 1) (by omega)
        have x4 := IntWalk.wrap64_in (((moreS P (xs.take j) i).u : Int) + 1) (by omega)
        have x5 : (i : Int) < (n : Int) := by omega
        have x6 : 0 ≤ (i : Int) := by omega
        have k1 := HP.out.cD
        have k2 := HP.out.row.c1 hin2
        have f2 := HP.out.row.fz (i * 3 + 1)
        have HC := Lib.hid (show (((moreS P (xs.take j) i).u + 1 : Nat) : Int) = ((moreS P (xs.take j) i).u : Int) + 1 by omega)
        rw [HC.out, ← HN.out] at HUP
        clear hlt hjl hin hi hkx HN HC HIN2 hum
        go_wp2_with (fail)
        exact ⟨⟨j + 1, rfl, HJ.out, HUP.out.1, HT.out.both HUP.out.2⟩, vc_less j m HJ.out⟩
      · have hke : j = m := by omega
        subst hke
        have x0 : ¬ (j : Int) < (j : Int) := by omega
        have x1 : decide ((j : Int) < (j : Int)) = false := decide_eq_false x0
        have HTK := Lib.hid (show xs.take j = xs from List.take_of_length_le (by rw [HM.out]; exact Nat.le_refl _))
        rw [HTK.out] at HP
        go_wp2_with (fail)
        refine bodyPost_ret (results_tmp rfl _ _ _) rfl ?_
        exact ⟨rfl, F, ⟨b, cap, G, Q, HP.out⟩, fun _ => .inl, (Turn.of_below F B1.out).both HT.out⟩
end Go.Proofs.Ytlapinecmiacoaa
namespace Go.Proofs.Ytlapinecmiacoaa
open Go.ChangeShapes Go.WideShapes Go.ChangeAt Go.RowKit Nm Cf Vc Sp Pg

namespace Pg
/-- The cells of a row of pages. -/
def cellP (P : Nat → Page Ent) (G : Nat → Value) (j : Nat) : Value := if j % 3 = 0 then .int .i64 (P (j / 3)).v else if j % 3 = 1 then .int .i64 ((P (j / 3)).u : Int) else G (j / 3)
def pcs (P : Nat → Page Ent) (G : Nat → Value) (n : Nat) : List Value := (List.range (n * 3)).map (cellP P G)
section
variable {w w' : World} {g n : Nat} {t : TypeId} {P : Nat → Page Ent} {G : Nat → Value}
theorem pcs_length : (pcs P G n).length = n * 3 := by simp [pcs]
theorem pcs_at {j : Nat} (h : j < n * 3) : (pcs P G n)[j]? = some (cellP P G j) := by
  unfold pcs
  rw [List.getElem?_map, List.getElem?_range h]
  rfl
theorem cell0P (i : Nat) : cellP P G (i * 3) = .int .i64 (P i).v := by unfold cellP; rw [if_pos (by omega), show i * 3 / 3 = i by omega]
theorem cell1P (i : Nat) : cellP P G (i * 3 + 1) = .int .i64 ((P i).u : Int) := by unfold cellP; rw [if_neg (by omega), if_pos (by omega), show (i * 3 + 1) / 3 = i by omega]
theorem cell2P (i : Nat) : cellP P G (i * 3 + 2) = G i := by unfold cellP; rw [if_neg (by omega), if_neg (by omega), show (i * 3 + 2) / 3 = i by omega]
theorem PRow.src (h : PRow w g t n P G) : ∀ j u, (pcs P G n)[j]? = some u → w.cell? ((⟨g, 0, none⟩ : Addr).add j) = some u := fun j u hj => by
  have hl := (List.getElem?_eq_some_iff.1 hj).1
  rw [pcs_length] at hl
  rw [pcs_at hl] at hj
  rw [Addr.add_lit, Nat.zero_add, ← hj]
  have hi : j / 3 < n := by omega
  rcases (show j % 3 = 0 ∨ j % 3 = 1 ∨ j % 3 = 2 by omega) with e | e | e
  · rw [show j = j / 3 * 3 by omega, cell0P]; exact h.c0 hi
  · rw [show j = j / 3 * 3 + 1 by omega, cell1P]; exact h.c1 hi
  · rw [show j = j / 3 * 3 + 2 by omega, cell2P]; exact h.c2 hi
theorem prow_of {N c : Nat} (h : w.ownsRow N t 3 (.slice (some ⟨g, 0, none⟩) n c) n (pcs P G n)) : PRow w g t n P G ∧ N ≤ g := by
  rcases h.2 with ⟨e, _⟩ | ⟨g', cap, cur, e, hN, hb, hc, _, hs, ht⟩
  · cases e
  · injection e with e1 e2 e3
    injection e1 with e1
    injection e1 with e1
    subst e1
    have key : ∀ j, j < n * 3 → cur[j]? = some (cellP P G j) := fun j hj => by
      have h1 := pcs_at (P := P) (G := G) hj
      rw [← ht, List.getElem?_take_of_lt hj] at h1
      rw [← Array.getElem?_toList]
      exact h1
    refine ⟨⟨cur, hb, by rw [hs]; exact Nat.mul_le_mul_right 3 hc, fun i hi => ⟨?_, ?_, ?_⟩⟩, hN⟩
    · rw [key _ (by omega), cell0P]
    · rw [key _ (by omega), cell1P]
    · rw [key _ (by omega), cell2P]
theorem pcs_one (h : ∀ i, i < n → ∃ A l c, G i = .slice A l c) : ∀ u ∈ pcs P G n, u.oneCell' = true := fun u hu => by
  unfold pcs at hu
  obtain ⟨j, hj, rfl⟩ := List.mem_map.1 hu
  have hj := List.mem_range.1 hj
  unfold cellP
  split
  · rfl
  · split
    · rfl
    · obtain ⟨A, l, c, e⟩ := h (j / 3) (by omega)
      rw [e]
      rfl
end
/-- Whether a block is a pool's, but neither its own nor its row. -/
def In (F : Nat → Prop) (D b k : Nat) : Prop := F k ∧ k ≠ D ∧ k ≠ b
section
variable {tP tG tE : TypeId} {F : Nat → Prop} {w w' : World} {D b cap n : Nat} {P P' : Nat → Page Ent} {G : Nat → Value} {Q : Nat → List (Er × Ent)}
/-- A copy of its row, in a pool of its own: the entries are shared. -/
theorem plx_copy (h : PlX tP tG tE F w D b cap n P G Q) (hb : Below w.heap.size w w') {g H c : Nat} (hr : PRow w' g tG n P G) (hg : w.heap.size ≤ g) (hp : w'.heap[H]? = some (.cells #[.slice (some ⟨g, 0, none⟩) n c] tP (0, 0))) (hH : w.heap.size ≤ H) (hne : H ≠ g) :
    PlX tP tG tE (fun k => In F D b k ∨ k = H ∨ k = g) w' H g c n P G Q := by
  have hs := h.step hb
  have hl := hb.size
  refine ⟨hp, hr, hs.es.weak fun k hk hO _ => ⟨.inl ⟨hk, fun e => hO (.inl e), fun e => hO (.inr e)⟩, fun e => ?_⟩, h.same, hne, .inr (.inl rfl), .inr (.inr rfl), fun k hk => ?_, h.few, h.inv, h.sized⟩
  · have := h.lt k hk
    omega
  · rcases hk with hk | rfl | rfl
    · exact hs.lt k hk.1
    · exact (Array.getElem?_eq_some_iff.1 hp).1
    · exact hr.lt
/-- What one user less leaves in a row. -/
theorem plx_less (h : PlX tP tG tE F w D b cap n P G Q) {i : Nat} (hi : i < n) (hinv : Inv n (updP P i (lessP (P i)))) :
    ∃ G' Q', PlX tP tG tE F (((w.setCell ⟨b, i * 3, none⟩ (.int .i64 (lessP (P i)).v)).setCell ⟨b, i * 3 + 1, none⟩ (.int .i64 ((lessP (P i)).u : Int))).setCell ⟨b, i * 3 + 2, none⟩ (lessG (P i) (G i))) D b cap n (updP P i (lessP (P i))) G' Q' ∧
    Turn (· = b) w (((w.setCell ⟨b, i * 3, none⟩ (.int .i64 (lessP (P i)).v)).setCell ⟨b, i * 3 + 1, none⟩ (.int .i64 ((lessP (P i)).u : Int))).setCell ⟨b, i * 3 + 2, none⟩ (lessG (P i) (G i))) := by
  have ho : ∀ j, j ≠ b → (((w.setCell ⟨b, i * 3, none⟩ (.int .i64 (lessP (P i)).v)).setCell ⟨b, i * 3 + 1, none⟩ (.int .i64 ((lessP (P i)).u : Int))).setCell ⟨b, i * 3 + 2, none⟩ (lessG (P i) (G i))).heap[j]? = w.heap[j]? := fun j hj => ((heap_setCell_other _ ⟨b, i * 3 + 2, none⟩ j _ hj).trans (heap_setCell_other _ ⟨b, i * 3 + 1, none⟩ j _ hj)).trans (heap_setCell_other _ ⟨b, i * 3, none⟩ j _ hj)
  have ht := (((Turn.refl (· = b) w).set (.inl rfl) (i * 3) (.int .i64 (lessP (P i)).v)).set (.inl rfl) (i * 3 + 1) (.int .i64 ((lessP (P i)).u : Int))).set (.inl rfl) (i * 3 + 2) (lessG (P i) (G i))
  have hl : (lessP (P i)).l = if (P i).u = 1 then [] else (P i).l := by
    unfold lessP
    split <;> rfl
  refine ⟨updG G i (lessG (P i) (G i)), updQ Q i (if (P i).u = 1 then [] else Q i), ⟨(ho D h.ne).trans h.pool, h.row.setAll (lessP (P i)).v (lessP (P i)).u (lessP (P i)).l _, ?_, fun j hj => ?_, h.ne, h.FD, h.Fb, fun k hk => by simpa using h.lt k hk, h.few, hinv, fun j hj e he => ?_⟩, ht⟩
  · refine (h.es.kept (w' := (((w.setCell ⟨b, i * 3, none⟩ (.int .i64 (lessP (P i)).v)).setCell ⟨b, i * 3 + 1, none⟩ (.int .i64 ((lessP (P i)).u : Int))).setCell ⟨b, i * 3 + 2, none⟩ (lessG (P i) (G i)))) fun k _ hk _ => ho k fun e => hk (.inr e)).less (fun j => decide (j = i) && decide ((P i).u = 1)) (fun j _ => ?_) fun j _ => ?_
    · unfold updG lessG
      by_cases e : j = i <;> by_cases e2 : (P i).u = 1 <;> simp [e, e2]
    · unfold updQ
      by_cases e : j = i <;> by_cases e2 : (P i).u = 1 <;> simp [e, e2]
  · by_cases e : j = i
    · rw [e, upd_at, updQ_at, hl]
      split
      · rfl
      · exact h.same i hi
    · rw [upd_off _ e, updQ_off _ _ e]; exact h.same j hj
  · by_cases e2 : j = i
    · rw [e2, upd_at, hl] at he
      split at he
      · exact absurd he (by simp)
      · exact h.sized i hi e he
    · rw [upd_off _ e2] at he; exact h.sized j hj e he
/-- A pool takes another one's row. -/
theorem plx_swap {D2 b2 c2 : Nat} {G2 : Nat → Value} {Q2 : Nat → List (Er × Ent)} (h : PlX tP tG tE F w D b cap n P G Q) (k : PlX tP tG tE (fun k => In F D b k ∨ k = D2 ∨ k = b2) w D2 b2 c2 n P' G2 Q2) (hne : D ≠ b2) :
    PlX tP tG tE (fun k => F k ∨ k = D2 ∨ k = b2) (w.setCell ⟨D, 0, none⟩ (.slice (some ⟨b2, 0, none⟩) n c2)) D b2 c2 n P' G2 Q2 := by
  have ho : ∀ j, j ≠ D → (w.setCell ⟨D, 0, none⟩ (.slice (some ⟨b2, 0, none⟩) n c2)).heap[j]? = w.heap[j]? := fun j hj => heap_setCell_other _ ⟨D, 0, none⟩ j _ hj
  have hoff : ∀ k, (In F D b k ∨ k = D2 ∨ k = b2) → ¬ (k = D2 ∨ k = b2) → k ≠ D := fun k hk hn => by
    rcases hk with hk | hk
    · exact hk.2.1
    · exact absurd hk hn
  refine ⟨heap_setCell_same w D 0 _ _ _ h.pool, k.row.kept (ho b2 fun e => hne e.symm), (k.es.kept fun j hj hn _ => ho j (hoff j hj hn)).weak fun j hj hn _ => ⟨?_, fun e => ?_⟩, k.same, hne, .inl h.FD, .inr (.inr rfl), fun j hj => ?_, h.few, k.inv, k.sized⟩
  · rcases hj with hj | hj
    · exact .inl hj.1
    · exact .inr hj
  · rcases e with e | e
    · exact hoff j hj hn e
    · exact hn (.inr e)
  · have h1 : j < w.heap.size := by
      rcases hj with hj | hj
      · exact h.lt j hj
      · exact k.lt j (.inr hj)
    simpa using h1
end
end Pg
set_option maxRecDepth 100000 in
set_option maxHeartbeats 800000 in
theorem clone_pages {F : Nat → Prop} {w : World} {D b cap n : Nat} {P : Nat → Page Ent} {G : Nat → Value} {Q : Nat → List (Er × Ent)} (h : PlX 67 69 36 F w D b cap n P G Q) :
    Calls Try.prog 32 #[.slice (some ⟨b, 0, none⟩) n cap] w fun e w' => ∃ g c, e = .returned (.slice (some ⟨g, 0, none⟩) n c) ∧ PRow w' g 69 n P G ∧ w.heap.size ≤ g ∧ Below w.heap.size w w' := by
  obtain ⟨i0, hi, hz0, hz1, hz2⟩ := info_parts info_page
  have HI := Lib.hid hi
  have HZ0 := Lib.hid hz0
  have HZ1 := Lib.hid hz1
  have HZ2 := Lib.hid hz2
  have hn := h.few
  have HLN := Lib.hid (pcs_length (P := P) (G := G) (n := n))
  have HO1 := Lib.hid (pcs_one (P := P) (n := n) fun i hi => by
    obtain ⟨A, c, e⟩ := h.slice hi
    exact ⟨A, _, c, e⟩)
  have HSRC := Lib.hid ((h.step ((Below.refl w.heap.size w).alloc (Nat.le_refl _) (.cells #[] 69))).row.src)
  have HOWN := Lib.hid (show (w.alloc (.cells #[] 69)).ownsRow w.heap.size 69 3 (.slice (some ⟨w.heap.size, 0, none⟩) 0 0) 0 [] from World.ownsRow_made w #[] 0 (Nat.le_refl _) (Nat.zero_le _) rfl)
  have heq : ∀ W : World, (binOp .eql 65 (.slice (some ⟨b, 0, none⟩) n cap) (.slice none 0 0)).run Try.prog W = .ok (.bool false) W := fun W => run_eql_slice_nil W _ _ _ _ cap Try.underlying65
  clear hi hz0 hz1 hz2 h
  go_enter Try.func32, Try.ntmps32
  go_wp2_with (first
    | (with_reducible refine wpList_buildNone rfl 65 69 rfl i0 Try.underlying65 HI.out ?_)
    | (at_builtin; refine wpList_append_lies _ rfl (.tmp 5) (.tmp 6) 65 rfl w.heap.size 69 i0 _ 3 40 Try.underlying65 HI.out HZ0.out HZ1.out HZ2.out rfl (by omega) (.slice (some ⟨w.heap.size, 0, none⟩) 0 0) 0 [] rfl HOWN.out ⟨b, 0, none⟩ n cap (pcs P G n) rfl HLN.out HSRC.out HO1.out (by omega) (by unfold maxLen; omega) (by omega) (by simp) _ rfl ?_; intro g9 c9 w9 hown9 hg9 _ _))
  rw [Nat.zero_add, List.nil_append] at hown9
  have hb := ((Below.refl w.heap.size w).alloc (Nat.le_refl _) (.cells #[] 69)).grown hg9 (by simp) (fun k hk => by
    have : k = w.heap.size := by simpa [Value.ownBlock] using hk.symm
    omega)
  refine bodyPost_ret (results_tmp rfl _ _ _) rfl ?_
  obtain ⟨h1, h2⟩ := prow_of hown9
  exact ⟨g9, c9, rfl, h1, h2, hb⟩
end Go.Proofs.Ytlapinecmiacoaa
namespace Go.Proofs.Ytlapinecmiacoaa
open Go.ChangeShapes Go.WideShapes Go.ChangeAt Go.RowKit Nm Cf Vc Sp Pg

namespace Pg
section
variable {n : Nat} {P : Nat → Page Ent} {xs : List Int}
/-- The pages while a list is walked. -/
def dropJ (P : Nat → Page Ent) (xs : List Int) : Nat → Page Ent := clrS (fewS P xs)
theorem dropJ_u (xs : List Int) (i : Nat) : (dropJ P xs i).u = (P i).u - cntI xs i := by
  unfold dropJ clrS
  split
  · rename_i h
    exact (show 0 = (P i).u - cntI xs i from h.symm)
  · rfl
theorem dropJ_none (h : Inv n P) {i : Nat} (hi : i < n) : dropJ P [] i = P i := by
  unfold dropJ clrS
  have e : fewS P [] i = P i := rfl
  rw [e]
  split
  · rename_i hu
    exact (h.free i hi hu).symm
  · rfl
theorem inv_dropJ (h : Inv n P) (xs : List Int) : Inv n (dropJ P xs) := by
  refine ⟨fun i hi hu => ?_, fun i hi hu => ?_, fun i hi => ?_⟩
  all_goals unfold dropJ clrS at *
  · split
    · rfl
    · rename_i h0
      rw [if_neg h0] at hu
      exact absurd hu h0
  · by_cases h0 : (fewS P xs i).u = 0
    · rw [if_pos h0] at hu
      cases hu
    · rw [if_neg h0]
      have h1 : (P i).u - cntI xs i ≠ 0 := h0
      exact h.ver i hi (by omega)
  · split
    · exact Nat.zero_le _
    · exact h.few i hi
theorem dropJ_next {j i : Nat} (hj : j < xs.length) (hx : xs[j] = (i : Int)) (hu : 0 < (dropJ P (xs.take j) i).u) : dropJ P (xs.take (j + 1)) = updP (dropJ P (xs.take j)) i (lessP (dropJ P (xs.take j) i)) := by
  funext k
  by_cases e : k = i
  · subst e
    rw [upd_at]
    rw [dropJ_u] at hu
    have h1 : dropJ P (xs.take j) k = { P k with u := (P k).u - cntI (xs.take j) k } := by
      unfold dropJ clrS
      rw [if_neg (by show ¬ (P k).u - cntI (xs.take j) k = 0; omega)]
      rfl
    rw [h1]
    unfold dropJ clrS lessP fewS
    rw [cnt_take hj, if_pos hx]
    by_cases h2 : (P k).u - cntI (xs.take j) k = 1
    · rw [if_pos (by show (P k).u - (cntI (xs.take j) k + 1) = 0; omega), if_pos h2]
    · rw [if_neg (by show ¬ (P k).u - (cntI (xs.take j) k + 1) = 0; omega), if_neg h2]
      show ({ P k with u := (P k).u - (cntI (xs.take j) k + 1) } : Page Ent) = { P k with u := (P k).u - cntI (xs.take j) k - 1 }
      rw [show (P k).u - (cntI (xs.take j) k + 1) = (P k).u - cntI (xs.take j) k - 1 by omega]
  · have hc : cntI (xs.take (j + 1)) k = cntI (xs.take j) k := by rw [cnt_take hj, if_neg (by rw [hx]; omega), Nat.add_zero]
    rw [upd_off _ e]
    unfold dropJ clrS fewS
    rw [hc]
theorem dropJ_is {xs : List Int} {x : Int} (h : isP n (dropJ P xs) x = true) : isP n P x = true ∧ cntI xs x.toNat < (P x.toNat).u := by
  obtain ⟨h1, h2, h3⟩ := is_iff.1 h
  rw [dropJ_u] at h3
  exact ⟨is_iff.2 ⟨h1, h2, by omega⟩, by omega⟩
theorem dropJ_not {xs : List Int} {x : Int} (h : isP n (dropJ P xs) x = false) : isP n P x = false ∨ (0 ≤ x ∧ (P x.toNat).u ≤ cntI xs x.toNat) := by
  by_cases hp : isP n P x = true
  · right
    obtain ⟨h1, h2, h3⟩ := is_iff.1 hp
    refine ⟨h1, ?_⟩
    have h4 : ¬ (0 ≤ x ∧ x < (n : Int) ∧ 0 < (dropJ P xs x.toNat).u) := fun hh => by rw [is_iff.2 hh] at h; cases h
    rw [dropJ_u] at h4
    omega
  · exact .inl (Bool.eq_false_iff.2 hp)
end
/-- What a drop's copy is told of while it is turned. -/
structure Dj (F : Nat → Prop) (D b : Nat) (w2 : World) (H g gc n : Nat) (P : Nat → Page Ent) (xs : List Int) (j : Nat) (wr : World) : Prop where
  ok : dropB n P (xs.take j) = true
  pl : ∃ G Q, PlX 67 69 36 (fun k => In F D b k ∨ k = H ∨ k = g) wr H g gc n (dropJ P (xs.take j)) G Q
  turn : Turn (· = g) w2 wr
end Pg
set_option maxRecDepth 100000 in
set_option maxHeartbeats 3200000 in
theorem pages_drop {F : Nat → Prop} {w : World} {D n : Nat} {P : Nat → Page Ent} (h : Pl F w D n P) (B : Option Addr) (m c0 : Nat) (xs : List Int) (hm : xs.length = m) (hm2 : m ≤ 1000) (hX : KIn .i64 w B xs) (hu : ∀ i, i < n → (P i).u ≤ 1000000) :
    Calls Try.prog 11 #[.pointer (some ⟨D, 0, none⟩), .slice B m c0] w fun e w' => e = .returned (.int .i64 (dropE n P xs)) ∧ TurnsP F w D n (dropS n P xs) w' := by
  obtain ⟨b, cap, G, Q, hPX⟩ := h
  have HPX := Lib.hid hPX
  have HCL := Lib.hid (clone_pages hPX)
  have HX := Lib.hid hX
  have HU := Lib.hid hu
  have HM := Lib.hid hm
  have k0 := hPX.cD
  clear hPX hX hu hm
  go_enter Try.func11, Try.ntmps11
  go_wp2_with (fail)
  refine HCL.out.mono ?_
  rintro e w1 ⟨g, gc, rfl, row1, hg1, b1⟩
  have hb2 : Below w.heap.size w (w1.alloc (.cells #[.slice (some ⟨g, 0, none⟩) n gc] 67)) := b1.alloc b1.size _
  have hlg := row1.lt
  have hp2 := heap_alloc_new w1 (.cells #[.slice (some ⟨g, 0, none⟩) n gc] 67)
  have HC := Lib.hid (plx_copy HPX.out hb2 (row1.kept (heap_alloc_old w1 _ hlg)) hg1 hp2 b1.size (by omega))
  have B2 := Lib.hid hb2
  have HG := Lib.hid hg1
  have HLG := Lib.hid hlg
  have HW1 := Lib.hid b1.size
  clear row1 hg1 b1 hb2 hlg hp2 k0
  go_wp2_with (fail)
  generalize hw2 : w1.alloc (.cells #[.slice (some ⟨g, 0, none⟩) n gc] 67) = w2 at HC B2 ⊢
  have HS2 := Lib.hid (show w2.heap.size = w1.heap.size + 1 by rw [← hw2]; simp)
  clear hw2
  generalize hH : w1.heap.size = H at HC HW1 HLG HS2 ⊢
  clear hH
  go_loopw [18] (fun i wr => ∃ j : Nat, i = .int .i64 (j : Int) ∧ j ≤ m ∧ Dj F D b w2 H g gc n P xs j wr) (fun i _ => match i with | .int _ k => m - k.toNat | _ => 0)
  case atStart => exact ⟨0, rfl, Nat.zero_le _, ⟨rfl, ⟨G, Q, plx_congr HC.out fun i hi => dropJ_none HPX.out.inv hi⟩, Turn.refl _ _⟩⟩
  case round =>
    obtain ⟨j, rfl, hj, hd⟩ := hrel
    have HD := Lib.hid hd
    have x2 : 0 ≤ (j : Int) := by omega
    clear hd
    have HFK := Lib.hid (show ∀ k, k < w.heap.size → wr.heap[k]? = w.heap[k]? from fun k hk => by
      have h1 := HG.out
      have h2 := HW1.out
      have h3 := HS2.out
      exact (HD.out.turn.block k (by omega) (by omega)).trans (B2.out.block k hk))
    have HKX := Lib.hid (show KIn .i64 wr B xs from KIn.moved HX.out (KIn.low' HX.out) fun k hk => HFK.out k hk)
    have HTW := Lib.hid (show Turn F w wr from (Turn.of_below F B2.out).trans HD.out.turn fun k hk => .inr (by have := HG.out; omega))
    by_cases hlt : j < m
    · have x0 : (j : Int) < (m : Int) := by omega
      have x1 : decide ((j : Int) < (m : Int)) = true := decide_eq_true x0
      have HJ := Lib.hid (show j + 1 ≤ m by omega)
      have hjl : j < xs.length := by rw [HM.out]; exact hlt
      obtain ⟨pa, oa, rfl, hc1⟩ := HKX.out.at hjl
      rw [List.getD_eq_getElem?_getD, List.getElem?_eq_getElem hjl, show (some xs[j]).getD 0 = xs[j] from rfl] at hc1
      obtain ⟨GN, QN, hN⟩ := HD.out.pl
      obtain ⟨pA, pc, c1, c2⟩ := page_at ⟨g, gc, GN, QN, hN⟩ xs[j]
      have HC1 := Lib.hid (c1 wr (Below.refl _ _))
      have HC2 := Lib.hid c2
      clear c1 c2
      cases hp : isP n (dropJ P (xs.take j)) xs[j] with
      | false =>
        have hdn := drop_not hjl (dropJ_not hp)
        have HE := Lib.hid (show dropE n P xs = 8 from if_neg (by rw [hdn]; decide))
        have HS := Lib.hid (show dropS n P xs = P from if_neg (by rw [hdn]; decide))
        rw [hp] at HC2
        generalize (atP n (dropJ P (xs.take j)) xs[j]).l.length = l1 at *
        generalize (atP n (dropJ P (xs.take j)) xs[j]).v = v1 at *
        generalize (atP n (dropJ P (xs.take j)) xs[j]).u = u1 at *
        generalize xs[j] = x at *
        clear hdn hp hlt hjl hN
        go_wp2_with (first
          | (go_at_call 29; refine HC1.out.mono ?_; rintro e w3 ⟨rfl, b3⟩; have B3 := Lib.hid b3; clear b3)
          | (go_at_call 30; refine (HC2.out _).mono ?_; rintro e w4 ⟨rfl, b4⟩; have B4 := Lib.hid (B3.out.trans (b4.mono B3.out.size)); clear b4))
        refine bodyPost_ret (results_tmp rfl _ _ _) rfl ?_
        have ht := HTW.out.then B4.out
        rw [HE.out, HS.out]
        exact ⟨rfl, F, ⟨b, cap, G, Q, (HPX.out.kept HTW.out.size fun k hk => HFK.out k (HPX.out.lt k hk)).step B4.out⟩, fun _ => .inl, ht⟩
      | true =>
        obtain ⟨hq1, hq2⟩ := dropJ_is hp
        have HND := Lib.hid (drop_next hjl HD.out.ok hq1 hq2)
        obtain ⟨h1, h2, h3⟩ := is_iff.1 hp
        obtain ⟨i, hi⟩ : ∃ i : Nat, xs[j] = (i : Int) := ⟨xs[j].toNat, by omega⟩
        rw [hi, Int.toNat_natCast] at h3
        rw [hi] at h2 hc1 HC1 HC2 hp
        have hin : i < n := by omega
        have HNX := Lib.hid (dropJ_next hjl hi h3)
        rw [hp] at HC2
        have hum : (dropJ P (xs.take j) i).u ≤ 1000000 := by rw [dropJ_u]; have := HU.out i hin; omega
        obtain ⟨sA, sc, hG⟩ := hN.slice hin
        have HDR := Lib.hid (fun W => page_dropped W (dropJ P (xs.take j) i) sA (dropJ P (xs.take j) i).l.length sc h3 hum)
        have HK := Lib.hid (show ∀ W, Below wr.heap.size wr W → (W.cell? ⟨H, 0, none⟩ = some (.slice (some ⟨g, 0, none⟩) n gc) ∧ W.cell? ⟨g, i * 3, none⟩ = some (.int .i64 (dropJ P (xs.take j) i).v) ∧ W.cell? ⟨g, i * 3 + 1, none⟩ = some (.int .i64 ((dropJ P (xs.take j) i).u : Int)) ∧ W.cell? ⟨g, i * 3 + 2, none⟩ = some (.slice sA (dropJ P (xs.take j) i).l.length sc)) ∧ ∀ k, W.frozen? ⟨g, k, none⟩ = false from fun W hW => by
          have h4 := hN.step hW
          exact ⟨⟨h4.cD, h4.row.c0 hin, h4.row.c1 hin, by rw [h4.row.c2 hin, hG]⟩, h4.row.fz⟩)
        have HLS := Lib.hid (fun W (hW : Below wr.heap.size wr W) => plx_less (hN.step hW) hin (HNX.out ▸ inv_dropJ HPX.out.inv (xs.take (j + 1))))
        rw [hG, ← HNX.out] at HLS
        have x3 := IntWalk.wrap64_in ((j : Int) + 1) (by omega)
        have x5 : (i : Int) < (n : Int) := by omega
        have x6 : 0 ≤ (i : Int) := by omega
        rw [at_in hin] at HC1 HC2
        have HSL := Lib.hid (show ∃ A l c, lessG (dropJ P (xs.take j) i) (.slice sA (dropJ P (xs.take j) i).l.length sc) = .slice A l c by
          unfold lessG
          split
          · exact ⟨_, _, _, rfl⟩
          · exact ⟨_, _, _, rfl⟩)
        obtain ⟨zA, zl, zc, hz⟩ := HSL.out
        rw [hz] at HDR HLS
        clear h1 h2 h3 hum hi hp hq1 hq2 hlt hjl hN hG hz HSL HNX
        generalize (dropJ P (xs.take j) i).l.length = l1 at *
        generalize (dropJ P (xs.take j) i).v = v1 at *
        generalize (dropJ P (xs.take j) i).u = u1 at *
        generalize (lessP (dropJ P (xs.take j) i)).v = v2 at *
        generalize (lessP (dropJ P (xs.take j) i)).u = u2 at *
        unfold pgA at HDR
        go_upto_region 9 with (first
          | (go_at_call 29; refine HC1.out.mono ?_; rintro e w3 ⟨rfl, b3⟩; have B3 := Lib.hid b3; clear b3)
          | (go_at_call 30; refine (HC2.out _).mono ?_; rintro e w4 ⟨rfl, b4⟩; have B4 := Lib.hid (B3.out.trans (b4.mono B3.out.size)); clear b4))
        have BD := Lib.hid (below_drewN B4.out 1)
        have k0 := (HK.out _ BD.out).1
        -- HANDV 0
        refine wp_region_noPanic ?_
        refine wp_region_heldV (S := (fun W : World => W.cell? ⟨H, 0, none⟩ = some (.slice (some ⟨g, 0, none⟩) n gc) ∧ W.cell? ⟨g, i * 3, none⟩ = some (.int .i64 v1) ∧ W.cell? ⟨g, i * 3 + 1, none⟩ = some (.int .i64 (u1 : Int)) ∧ W.cell? ⟨g, i * 3 + 2, none⟩ = some (.slice sA l1 sc))) 10 (by kernel_rfl) (by kernel_rfl) (by kernel_rfl) (by kernel_rfl) (by decide) k0 (fun hHeld => ?_)
        refine wpAnyV_take (i := 0) (v := .pointer (some ⟨H, 0, none⟩)) 25 rfl rfl (by decide) (by kernel_rfl) (by kernel_rfl) (fun _ _ _ h => h) (Or.inl ⟨by rfl, ?_⟩) hHeld ?_
        · intro W hW
          try dsimp only at hW
          go_simp
        simp only [Act.put, List.setIfInBounds_toArray, List.set_cons_succ, List.set_cons_zero]
        refine wpAnyV_take (i := 1) (v := .slice (some ⟨g, 0, none⟩) n gc) 26 rfl rfl (by decide) (by kernel_rfl) (by kernel_rfl) (fun _ _ _ h => h) (Or.inl ⟨by rfl, ?_⟩) hHeld ?_
        · intro W hW
          try dsimp only at hW
          go_simp
        simp only [Act.put, List.setIfInBounds_toArray, List.set_cons_succ, List.set_cons_zero]
        refine wpAnyV_take (i := 2) (v := .int .i64 (i : Int)) 27 rfl rfl (by decide) (by kernel_rfl) (by kernel_rfl) (fun _ _ _ h => h) (Or.inl ⟨by rfl, ?_⟩) hHeld ?_
        · intro W hW
          try dsimp only at hW
          go_simp
        simp only [Act.put, List.setIfInBounds_toArray, List.set_cons_succ, List.set_cons_zero]
        refine wpAnyV_take (i := 3) (v := .pointer (some ⟨H, 0, none⟩)) 28 rfl rfl (by decide) (by kernel_rfl) (by kernel_rfl) (fun _ _ _ h => h) (Or.inl ⟨by rfl, ?_⟩) hHeld ?_
        · intro W hW
          try dsimp only at hW
          go_simp
        simp only [Act.put, List.setIfInBounds_toArray, List.set_cons_succ, List.set_cons_zero]
        refine wpAnyV_take (i := 4) (v := .slice (some ⟨g, 0, none⟩) n gc) 29 rfl rfl (by decide) (by kernel_rfl) (by kernel_rfl) (fun _ _ _ h => h) (Or.inl ⟨by rfl, ?_⟩) hHeld ?_
        · intro W hW
          try dsimp only at hW
          go_simp
        simp only [Act.put, List.setIfInBounds_toArray, List.set_cons_succ, List.set_cons_zero]
        refine wpAnyV_take (i := 5) (v := .int .i64 (i : Int)) 30 rfl rfl (by decide) (by kernel_rfl) (by kernel_rfl) (fun _ _ _ h => h) (Or.inl ⟨by rfl, ?_⟩) hHeld ?_
        · intro W hW
          try dsimp only at hW
          go_simp
        simp only [Act.put, List.setIfInBounds_toArray, List.set_cons_succ, List.set_cons_zero]
        refine wpAnyV_take (i := 6) (v := .pointer (some ⟨g, i * 3, none⟩)) 31 rfl rfl (by decide) (by kernel_rfl) (by kernel_rfl) (fun _ _ _ h => h) (Or.inl ⟨by rfl, ?_⟩) hHeld ?_
        · intro W hW
          try dsimp only at hW
          go_simp
        simp only [Act.put, List.setIfInBounds_toArray, List.set_cons_succ, List.set_cons_zero]
        refine wpAnyV_take (i := 7) (v := .agg #[.int .i64 v1, .int .i64 (u1 : Int), .slice sA l1 sc]) 32 rfl rfl (by decide) (by kernel_rfl) (by kernel_rfl) (fun _ _ _ h => h) (Or.inl ⟨by rfl, ?_⟩) hHeld ?_
        · intro W hW
          try dsimp only at hW
          go_simp
        simp only [Act.put, List.setIfInBounds_toArray, List.set_cons_succ, List.set_cons_zero]
        refine wpAnyV_one (i := 8) (by kernel_rfl) rfl (by decide) (fun K hK => ?_)
        go_simp
        refine (HDR.out _).mono ?_
        rintro e w5 ⟨rfl, b5⟩
        have B5 := Lib.hid (BD.out.trans (b5.mono BD.out.size))
        have k5 := HK.out _ B5.out
        clear b5
        refine hK.out _ _ k5.1 (fun hHeld2 => ?_)
        clear hK K hHeld
        have hHeld := hHeld2
        clear hHeld2
        try simp only [Act.put, List.setIfInBounds_toArray, List.set_cons_succ, List.set_cons_zero]
        refine wpAnyV_take (i := 9) (v := .pointer (some ⟨g, i * 3, none⟩)) 34 rfl rfl (by decide) (by kernel_rfl) (by kernel_rfl) (fun _ _ _ h => h) (Or.inl ⟨by rfl, ?_⟩) hHeld ?_
        · intro W hW
          try dsimp only at hW
          go_simp
        simp only [Act.put, List.setIfInBounds_toArray, List.set_cons_succ, List.set_cons_zero]
        obtain ⟨⟨k51, k52, k53, k54⟩, k55⟩ := k5
        refine wpAnyV_last (by kernel_rfl) rfl (by kernel_rfl) (fun K hK => ?_)
        go_simp
        refine hK.out _ _ ?_
        refine NoPanic.normal ?_
        -- VDNAH 0
        go_wp2_with (fail)
        obtain ⟨G2, Q2, p1, p2⟩ := HLS.out _ B5.out
        exact ⟨⟨j + 1, rfl, HJ.out, ⟨HND.out, ⟨G2, Q2, p1⟩, (HD.out.turn.then B5.out).both p2⟩⟩, vc_less j m HJ.out⟩
    · have hke : j = m := by omega
      subst hke
      have x0 : ¬ (j : Int) < (j : Int) := by omega
      have x1 : decide ((j : Int) < (j : Int)) = false := decide_eq_false x0
      have HT := Lib.hid (show xs.take j = xs from List.take_of_length_le (by rw [HM.out]; exact Nat.le_refl _))
      have hok := HD.out.ok
      rw [HT.out] at hok
      have HE := Lib.hid (show dropE n P xs = 0 from if_pos hok)
      have HS := Lib.hid (show dropS n P xs = dropJ P xs from if_pos hok)
      have hpl := HD.out.pl
      rw [HT.out] at hpl
      obtain ⟨GN, QN, hN⟩ := hpl
      have HNE := Lib.hid (show D ≠ g from fun e => by have := HPX.out.lt D HPX.out.FD; have := HG.out; omega)
      have HP2 := Lib.hid (HPX.out.kept HTW.out.size fun k hk => HFK.out k (HPX.out.lt k hk))
      have HSW := Lib.hid (plx_swap HP2.out hN HNE.out)
      have k1 := hN.cD
      have k2 := HP2.out.cD
      have f2 := HP2.out.fD 0
      clear hok hlt hN
      go_wp2_with (fail)
      refine bodyPost_ret (results_tmp rfl _ _ _) rfl ?_
      rw [HE.out, HS.out]
      refine ⟨rfl, _, ⟨g, gc, GN, QN, HSW.out⟩, fun k hk => ?_, HTW.out.set (.inl HPX.out.FD) 0 _⟩
      have h1 := HG.out
      have h2 := HW1.out
      rcases hk with hk | hk | hk
      · exact .inl hk
      · exact .inr (by omega)
      · exact .inr (by omega)
end Go.Proofs.Ytlapinecmiacoaa
