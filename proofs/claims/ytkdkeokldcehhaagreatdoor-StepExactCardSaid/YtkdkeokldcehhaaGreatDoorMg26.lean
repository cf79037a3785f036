/-
  What the reference says, while it is said: what was said, in a row of its own; the entries, in a row of their own. No program's function here. No conditions but those of each lemma.
-/
import Derived.Test.YtkdkeokldcehhaaGreatDoorMg22
import Derived.Test.YtkdkeokldcehhaaGreatDoorMg24
import Derived.Test.YtkdkeokldcehhaaGreatDoorMg17
set_option maxRecDepth 100000
namespace Go.Proofs.YtkdkeokldcehhaaGreatDoor
open Go.ChangeShapes Go.WideShapes Go.ChangeAt Go.RowKit Cf Vc Br Sf Sp
open Gn (own_two)

theorem info_entryR : (Tryz.prog.info? 42).map (fun i => (i.zero, i.size, i.bytes)) = some (some (.agg #[.slice none 0 0, .slice none 0 0]), 2, 48) := by kernel_rfl
theorem entryROne (A B : Option Addr) (n m c d : Nat) : Tryz.prog.builtSlice 42 1 [(0, .agg #[.slice A n c, .slice B m d])] = some #[.slice A n c, .slice B m d] := by kernel_rfl
namespace Gr
/-- Entries that a law gathers: in a row of its own, their rows elsewhere. -/
structure Gath (B : Nat) (w : World) (v : Value) (R : List (Er × Ent)) : Prop where
  own : w.ownsRow B 42 2 v R.length (eCs R)
  all : ∀ q ∈ R, EOn (fun j => v.ownBlock ≠ some j) w q.1 q.2
theorem Gath.slice {B : Nat} {w : World} {v : Value} {R : List (Er × Ent)} (h : Gath B w v R) : ∃ A c, v = .slice A R.length c := by
  rcases h.own.2 with ⟨e, h0⟩ | ⟨g, cap, cur, e, _⟩
  · exact ⟨none, 0, by rw [e, h0]⟩
  · exact ⟨_, _, e⟩
theorem Gath.es {B : Nat} {w : World} {A : Option Addr} {n c : Nat} {R : List (Er × Ent)} (h : Gath B w (.slice A n c) R) : EsIn w A R := by
  refine ⟨fun h0 => ?_, fun q hq => (h.all q hq).mono fun _ _ => trivial⟩
  rcases h.own.2 with ⟨_, h1⟩ | ⟨g, cap, cur, e, _, hb, _, _, _, ht⟩
  · omega
  · injection e with e1 e2 e3
    subst e1
    refine ⟨g, 0, rfl, fun j u hj => ?_⟩
    rw [cell_of_row w g _ _ _ _ hb, Nat.zero_add]
    rw [← ht] at hj
    have hj2 : j < (cur.toList.take (R.length * 2)).length := (List.getElem?_eq_some_iff.1 hj).1
    rw [List.getElem?_take_of_lt (by rw [List.length_take] at hj2; omega)] at hj
    rw [← Array.getElem?_toList]
    exact hj
theorem Gath.step {B : Nat} {w w' : World} {v : Value} {R : List (Er × Ent)} (h : Gath B w v R) (hb : Below w.heap.size w w') : Gath B w' v R :=
  ⟨own_moved h.own fun k hk => hb.block k (h.own.lt k hk).2, fun q hq => (h.all q hq).below hb⟩
theorem Gath.more {B M : Nat} {w wz : World} {v : Value} {R : List (Er × Ent)} {r : Er} {e : Ent} {g cap : Nat} (h : Gath B w v R) (he : EOn (fun _ => True) w r e) (hf : Fr M r e) (hM : ∀ k, v.ownBlock = some k → k < M)
    (hown : wz.ownsRow B 42 2 (.slice (some ⟨g, 0, none⟩) (R.length + 1) cap) (R.length + 1) (eCs R ++ eC r e)) (hgrow : w.grownBy wz v.ownBlock) (hat : v.ownBlock = some g ∨ g = w.heap.size) :
    Gath B wz (.slice (some ⟨g, 0, none⟩) (R.length + 1) cap) (R ++ [(r, e)]) := by
  have hs : ∀ j, j < w.heap.size → v.ownBlock ≠ some j → wz.heap[j]? = w.heap[j]? := fun j hj hne => hgrow.block j hj fun e => hne e.symm
  have hg : ∀ j, j < w.heap.size ∧ v.ownBlock ≠ some j → (Value.slice (some ⟨g, 0, none⟩) (R.length + 1) cap).ownBlock ≠ some j := fun j hj e => by
    have e' : g = j := Option.some.inj e
    rcases hat with hat | hat
    · exact hj.2 (by rw [hat, e'])
    · omega
  have hm : ∀ q ∈ R ++ [(r, e)], EOn (fun j => j < w.heap.size ∧ v.ownBlock ≠ some j) w q.1 q.2 := fun q hq => by
    rcases List.mem_append.1 hq with hq | hq
    · exact (h.all q hq).new.also (h.all q hq)
    · rw [List.mem_singleton.1 hq]
      exact ((he.new).also ((hf.on he).mono (q := fun j => v.ownBlock ≠ some j) fun j hj e => by have := hM j e; omega))
  refine ⟨?_, fun q hq => ((hm q hq).moved fun j hj => hs j hj.1 hj.2).mono hg⟩
  have e1 : (R ++ [(r, e)]).length = R.length + 1 := by simp
  have e2 : eCs (R ++ [(r, e)]) = eCs R ++ eC r e := by rw [eCs_append]; simp [eCs]
  rw [e1, e2]
  exact hown
theorem int_entry : 3 ≠ 42 := by decide
/-- Neither where what was said lies, nor the entries' row. -/
def neither (sv pv : Value) (j : Nat) : Prop := sv.ownBlock ≠ some j ∧ pv.ownBlock ≠ some j
structure Saying (w0 : World) (sv pv : Value) (S : List Int) (R F : List (Er × Ent)) (W : World) : Prop where
  own : Own W w0.heap.size sv S
  ga : Gath w0.heap.size W pv R
  rows : ∀ q ∈ R, EOn (fun j => sv.ownBlock ≠ some j) W q.1 q.2
  fresh : ∀ q ∈ F, EOn (neither sv pv) W q.1 q.2
  below : Below w0.heap.size w0 W
section
variable {w0 W W' wz : World} {sv pv : Value} {S : List Int} {R F : List (Er × Ent)}
theorem Saying.step (h : Saying w0 sv pv S R F W) (hb : Below W.heap.size W W') : Saying w0 sv pv S R F W' :=
  ⟨h.own.below hb (Nat.le_refl _), h.ga.step hb, fun q hq => (h.rows q hq).below hb, fun q hq => (h.fresh q hq).below hb, h.below.trans (hb.mono h.below.size)⟩
theorem Saying.start (w0 : World) : Saying w0 (.slice none 0 0) (.slice none 0 0) [] [] [] w0 :=
  ⟨⟨rfl, .inl ⟨rfl, rfl⟩⟩, ⟨⟨rfl, .inl ⟨rfl, rfl⟩⟩, fun q hq => absurd hq (by simp)⟩, fun q hq => absurd hq (by simp), fun q hq => absurd hq (by simp), Below.refl _ _⟩
theorem Saying.lt (h : Saying w0 sv pv S R F W) : (∀ k, sv.ownBlock = some k → k < W.heap.size) ∧ ∀ k, pv.ownBlock = some k → k < W.heap.size := ⟨fun k hk => (World.ownsRow.lt h.own k hk).2, fun k hk => (h.ga.own.lt k hk).2⟩
/-- New entries, whose rows are new. -/
theorem Saying.come (h : Saying w0 sv pv S R [] W) (hb : Below W.heap.size W W') (hF : ∀ q ∈ F, EOn (fun _ => True) W' q.1 q.2) (hN : ∀ q ∈ F, Fr W.heap.size q.1 q.2) : Saying w0 sv pv S R F W' :=
  ⟨h.own.below hb (Nat.le_refl _), h.ga.step hb, fun q hq => (h.rows q hq).below hb, fun q hq => ((hN q hq).on (hF q hq)).mono fun j hj => ⟨fun e => by have := h.lt.1 j e; omega, fun e => by have := h.lt.2 j e; omega⟩, h.below.trans (hb.mono h.below.size)⟩
/-- One token more is said. -/
theorem Saying.said {g cap : Nat} {z : Int} (h : Saying w0 sv pv S R F W) (o : Obj) (hown : wz.ownsRow w0.heap.size 3 1 (.slice (some ⟨g, 0, none⟩) (S.length + 1) cap) (S.length + 1) (icells S ++ [.int .i64 z])) (hgrow : (W.alloc o).grownBy wz sv.ownBlock) (hat : sv.ownBlock = some g ∨ g = (W.alloc o).heap.size) :
    Saying w0 (.slice (some ⟨g, 0, none⟩) (S.length + 1) cap) pv (S ++ [z]) R F wz := by
  have hs : ∀ j, j < W.heap.size → sv.ownBlock ≠ some j → wz.heap[j]? = W.heap[j]? := fun j hj hne => (hgrow.block j (by simp; omega) fun e => hne e.symm).trans (Below.heap_alloc W o j hj)
  have hg : ∀ j, j < W.heap.size ∧ sv.ownBlock ≠ some j → (Value.slice (some ⟨g, 0, none⟩) (S.length + 1) cap).ownBlock ≠ some j := fun j hj e => by
    have e' : g = j := Option.some.inj e
    rcases hat with hat | hat
    · exact hj.2 (by rw [hat, e'])
    · have : (W.alloc o).heap.size = W.heap.size + 1 := by simp
      omega
  have hp : ∀ k, pv.ownBlock = some k → k < W.heap.size ∧ sv.ownBlock ≠ some k := fun k hk => ⟨h.lt.2 k hk, fun e => own_two h.ga.own h.own int_entry.symm k hk e⟩
  refine ⟨Own.grew rfl hown, ⟨own_moved h.ga.own fun k hk => hs k (hp k hk).1 (hp k hk).2, fun q hq => ?_⟩, fun q hq => ?_, fun q hq => ?_, below_grew h.below rfl h.own o hgrow⟩
  · have h1 := ((h.ga.all q hq).also ((h.rows q hq).new.also (h.rows q hq)))
    exact (h1.moved fun j hj => hs j hj.2.1 hj.2.2).mono fun j hj => hj.1
  · have h1 := (h.rows q hq).new.also (h.rows q hq)
    exact (h1.moved fun j hj => hs j hj.1 hj.2).mono hg
  · have h1 := (h.fresh q hq).new.also (h.fresh q hq)
    exact (h1.moved fun j hj => hs j hj.1 hj.2.1).mono fun j hj => ⟨hg j ⟨hj.1, hj.2.1⟩, hj.2.2⟩
/-- The entries are laid behind the others. -/
theorem Saying.laid {g cap : Nat} (h : Saying w0 sv pv S R F W) (hown : wz.ownsRow w0.heap.size 42 2 (.slice (some ⟨g, 0, none⟩) (R.length + F.length) cap) (R.length + F.length) (eCs R ++ eCs F)) (hgrow : W.grownBy wz pv.ownBlock) (hat : pv.ownBlock = some g ∨ g = W.heap.size) :
    Saying w0 sv (.slice (some ⟨g, 0, none⟩) (R.length + F.length) cap) S (R ++ F) [] wz := by
  have hs : ∀ j, j < W.heap.size → pv.ownBlock ≠ some j → wz.heap[j]? = W.heap[j]? := fun j hj hne => hgrow.block j hj fun e => hne e.symm
  have hg : ∀ j, j < W.heap.size ∧ pv.ownBlock ≠ some j → (Value.slice (some ⟨g, 0, none⟩) (R.length + F.length) cap).ownBlock ≠ some j := fun j hj e => by
    have e' : g = j := Option.some.inj e
    rcases hat with hat | hat
    · exact hj.2 (by rw [hat, e'])
    · omega
  have hv : ∀ k, sv.ownBlock = some k → k < W.heap.size ∧ pv.ownBlock ≠ some k := fun k hk => ⟨h.lt.1 k hk, fun e => own_two h.own h.ga.own int_entry k hk e⟩
  have hm : ∀ q ∈ R ++ F, EOn (fun j => (j < W.heap.size ∧ pv.ownBlock ≠ some j) ∧ sv.ownBlock ≠ some j) W q.1 q.2 := fun q hq => by
    rcases List.mem_append.1 hq with hq | hq
    · exact ((h.ga.all q hq).new.also (h.ga.all q hq)).also (h.rows q hq)
    · exact ((h.fresh q hq).new.also (h.fresh q hq)).mono fun j hj => ⟨⟨hj.1, hj.2.2⟩, hj.2.1⟩
  refine ⟨own_moved h.own fun k hk => hs k (hv k hk).1 (hv k hk).2, ⟨?_, fun q hq => ((hm q hq).moved fun j hj => hs j hj.1.1 hj.1.2).mono fun j hj => hg j hj.1⟩, fun q hq => ((hm q hq).moved fun j hj => hs j hj.1.1 hj.1.2).mono fun j hj => hj.2, fun q hq => absurd hq (by simp), ?_⟩
  · rw [List.length_append, eCs_append]
    exact hown
  · exact h.below.grown hgrow h.below.size (fun i hi => (h.ga.own.lt i hi).1)
end
theorem Saying.opens {w0 W : World} {pv : Value} {R : List (Er × Ent)} (h : Saying w0 (.slice none 0 0) pv [] R [] W) : Saying w0 (.slice (some ⟨W.heap.size, 0, none⟩) 0 0) pv [] R [] (W.alloc (.cells #[] 3)) := by
  have hb : Below W.heap.size W (W.alloc (.cells #[] 3)) := (Below.refl _ _).alloc (Nat.le_refl _) _
  have h2 := h.step hb
  refine ⟨Own.new W w0.heap.size h.below.size, h2.ga, fun q hq => ?_, fun q hq => absurd hq (by simp), h2.below⟩
  exact (((h.rows q hq).new).moved fun j hj => hb.block j hj).mono fun j hj e => by
    have : W.heap.size = j := Option.some.inj e
    omega
theorem Saying.begins (w0 W : World) (hb : Below w0.heap.size w0 W) : Saying w0 (.slice none 0 0) (.slice (some ⟨W.heap.size, 0, none⟩) 0 0) [] [] [] (W.alloc (.cells #[] 42)) :=
  ⟨⟨rfl, .inl ⟨rfl, rfl⟩⟩, ⟨World.ownsRow_made (e := 42) (size := 2) W #[] 0 hb.size (Nat.zero_le _) rfl, fun q hq => absurd hq (by simp)⟩, fun q hq => absurd hq (by simp), fun q hq => absurd hq (by simp), hb.alloc hb.size _⟩
/-- A store of two cells into a block that holds nothing of it. -/
theorem Saying.put {w0 W : World} {sv pv : Value} {S : List Int} {R F : List (Er × Ent)} (h : Saying w0 sv pv S R F W) {g : Nat} (hg : w0.heap.size ≤ g) (h1 : sv.ownBlock ≠ some g) (h2 : pv.ownBlock ≠ some g) (hR : ∀ q ∈ R, EOn (· ≠ g) W q.1 q.2) (hF : ∀ q ∈ F, EOn (· ≠ g) W q.1 q.2) (a b : Value) :
    Saying w0 sv pv S R F ((W.setCell ⟨g, 0, none⟩ a).setCell ⟨g, 1, none⟩ b) := by
  have hs : ∀ j, j ≠ g → ((W.setCell ⟨g, 0, none⟩ a).setCell ⟨g, 1, none⟩ b).heap[j]? = W.heap[j]? := fun j hj => (heap_setCell_other _ ⟨g, 1, none⟩ j _ hj).trans (heap_setCell_other _ ⟨g, 0, none⟩ j _ hj)
  refine ⟨own_moved h.own fun k hk => hs k (fun e => h1 (e ▸ hk)), ⟨own_moved h.ga.own fun k hk => hs k (fun e => h2 (e ▸ hk)), fun q hq => ?_⟩, fun q hq => ?_, fun q hq => ?_, (h.below.setCell (p := ⟨g, 0, none⟩) hg a).setCell (p := ⟨g, 1, none⟩) hg b⟩
  · exact (((h.ga.all q hq).also (hR q hq)).moved fun j hj => hs j hj.2).mono fun j hj => hj.1
  · exact (((h.rows q hq).also (hR q hq)).moved fun j hj => hs j hj.2).mono fun j hj => hj.1
  · exact (((h.fresh q hq).also (hF q hq)).moved fun j hj => hs j hj.2).mono fun j hj => hj.1
theorem kin_off {W : World} {A : Option Addr} {zs : List Int} {g : Nat} {B C : Option Addr} {n m c d : Nat} {t : TypeId} (h : KIn .i64 W A zs) (hg : W.heap[g]? = some (.cells #[.slice B n c, .slice C m d] t (0, 0))) : Ft (· ≠ g) A zs.length := fun h0 a ha e => by
  obtain ⟨pb, po, hA, hc⟩ := h h0
  rw [ha] at hA
  injection hA with hA
  subst hA
  have hb : pb = g := e
  subst hb
  have h1 := hc 0 h0
  rw [cell_of_row _ _ _ _ _ _ hg] at h1
  match hp : po + 0, h1 with
  | 0, h1 => cases h1
  | 1, h1 => cases h1
  | n + 2, h1 => simp at h1
end Gr
end Go.Proofs.YtkdkeokldcehhaaGreatDoor
