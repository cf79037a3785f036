/-
  What the reference says, while it is said: what was said, in a row of its own; the entries, in a row of their own. No program's function here. No conditions but those of each lemma.
  The reference of layer 18: Check. Condition: the prompt stands where it looks, a million tokens at most.
-/
import Derived.Test.YtkdkeokldcehhaaGreatDoorMg18
import Derived.Test.YtkdkeokldcehhaaGreatDoorMg20
import Derived.Test.YtkdkeokldcehhaaGreatDoorMg16
import Derived.Test.YtkdkeokldcehhaaGreatDoorMg12
set_option maxRecDepth 100000
namespace Go.Proofs.YtkdkeokldcehhaaGreatDoor
open Go.ChangeShapes Go.WideShapes Go.ChangeAt Go.RowKit Cf Vc Br Sf Sp
open Gn (own_two)

theorem info_entryR : (Tryz.prog.info? 42).map (fun i => (i.zero, i.size, i.bytes)) = some (some (.agg #[.slice none 0 0, .slice none 0 0]), 2, 48) := by kernel_rfl
theorem entryROne (A B : Option Addr) (n m c d : Nat) : Tryz.prog.builtSlice 42 1 [(0, .agg #[.slice A n c, .slice B m d])] = some #[.slice A n c, .slice B m d] := by kernel_rfl
namespace Gr
/-- Entries that a law gathers: in a row of its own, their rows elsewhere. -/
structure Gath (B : Nat) (w : World) (v : Value) (R : List (Er × Ent)) : Prop where
  own : w.ownsRow B 42 2 v R.length (eCs R)
  all : ∀ q ∈ R, EOn (fun j => v.ownBlock ≠ some j) w q.1 q.2
theorem Gath.slice {B : Nat} {w : World} {v : Value} {R : List (Er × Ent)} (h : Gath B w v R) : ∃ A c, v = .slice A R.length c := by
  rcases h.own.2 with ⟨e, h0⟩ | ⟨g, cap, cur, e, _⟩
  · exact ⟨none, 0, by rw [e, h0]⟩
  · exact ⟨_, _, e⟩
theorem Gath.es {B : Nat} {w : World} {A : Option Addr} {n c : Nat} {R : List (Er × Ent)} (h : Gath B w (.slice A n c) R) : EsIn w A R := by
  refine ⟨fun h0 => ?_, fun q hq => (h.all q hq).mono fun _ _ => trivial⟩
  rcases h.own.2 with ⟨_, h1⟩ | ⟨g, cap, cur, e, _, hb, _, _, _, ht⟩
  · omega
  · injection e with e1 e2 e3
    subst e1
    refine ⟨g, 0, rfl, fun j u hj => ?_⟩
    rw [cell_of_row w g _ _ _ _ hb, Nat.zero_add]
    rw [← ht] at hj
    have hj2 : j < (cur.toList.take (R.length * 2)).length := (List.getElem?_eq_some_iff.1 hj).1
    rw [List.getElem?_take_of_lt (by rw [List.length_take] at hj2; omega)] at hj
    rw [← Array.getElem?_toList]
    exact hj
theorem Gath.step {B : Nat} {w w' : World} {v : Value} {R : List (Er × Ent)} (h : Gath B w v R) (hb : Below w.heap.size w w') : Gath B w' v R :=
  ⟨own_moved h.own fun k hk => hb.block k (h.own.lt k hk).2, fun q hq => (h.all q hq).below hb⟩
theorem Gath.more {B M : Nat} {w wz : World} {v : Value} {R : List (Er × Ent)} {r : Er} {e : Ent} {g cap : Nat} (h : Gath B w v R) (he : EOn (fun _ => True) w r e) (hf : Fr M r e) (hM : ∀ k, v.ownBlock = some k → k < M)
    (hown : wz.ownsRow B 42 2 (.slice (some ⟨g, 0, none⟩) (R.length + 1) cap) (R.length + 1) (eCs R ++ eC r e)) (hgrow : w.grownBy wz v.ownBlock) (hat : v.ownBlock = some g ∨ g = w.heap.size) :
    Gath B wz (.slice (some ⟨g, 0, none⟩) (R.length + 1) cap) (R ++ [(r, e)]) := by
  have hs : ∀ j, j < w.heap.size → v.ownBlock ≠ some j → wz.heap[j]? = w.heap[j]? := fun j hj hne => hgrow.block j hj fun e => hne e.symm
  have hg : ∀ j, j < w.heap.size ∧ v.ownBlock ≠ some j → (Value.slice (some ⟨g, 0, none⟩) (R.length + 1) cap).ownBlock ≠ some j := fun j hj e => by
    have e' : g = j := Option.some.inj e
    rcases hat with hat | hat
    · exact hj.2 (by rw [hat, e'])
    · omega
  have hm : ∀ q ∈ R ++ [(r, e)], EOn (fun j => j < w.heap.size ∧ v.ownBlock ≠ some j) w q.1 q.2 := fun q hq => by
    rcases List.mem_append.1 hq with hq | hq
    · exact (h.all q hq).new.also (h.all q hq)
    · rw [List.mem_singleton.1 hq]
      exact ((he.new).also ((hf.on he).mono (q := fun j => v.ownBlock ≠ some j) fun j hj e => by have := hM j e; omega))
  refine ⟨?_, fun q hq => ((hm q hq).moved fun j hj => hs j hj.1 hj.2).mono hg⟩
  have e1 : (R ++ [(r, e)]).length = R.length + 1 := by simp
  have e2 : eCs (R ++ [(r, e)]) = eCs R ++ eC r e := by rw [eCs_append]; simp [eCs]
  rw [e1, e2]
  exact hown
theorem int_entry : 3 ≠ 42 := by decide
/-- Neither where what was said lies, nor the entries' row. -/
def neither (sv pv : Value) (j : Nat) : Prop := sv.ownBlock ≠ some j ∧ pv.ownBlock ≠ some j
structure Saying (w0 : World) (sv pv : Value) (S : List Int) (R F : List (Er × Ent)) (W : World) : Prop where
  own : Own W w0.heap.size sv S
  ga : Gath w0.heap.size W pv R
  rows : ∀ q ∈ R, EOn (fun j => sv.ownBlock ≠ some j) W q.1 q.2
  fresh : ∀ q ∈ F, EOn (neither sv pv) W q.1 q.2
  below : Below w0.heap.size w0 W
section
variable {w0 W W' wz : World} {sv pv : Value} {S : List Int} {R F : List (Er × Ent)}
theorem Saying.step (h : Saying w0 sv pv S R F W) (hb : Below W.heap.size W W') : Saying w0 sv pv S R F W' :=
  ⟨h.own.below hb (Nat.le_refl _), h.ga.step hb, fun q hq => (h.rows q hq).below hb, fun q hq => (h.fresh q hq).below hb, h.below.trans (hb.mono h.below.size)⟩
theorem Saying.start (w0 : World) : Saying w0 (.slice none 0 0) (.slice none 0 0) [] [] [] w0 :=
  ⟨⟨rfl, .inl ⟨rfl, rfl⟩⟩, ⟨⟨rfl, .inl ⟨rfl, rfl⟩⟩, fun q hq => absurd hq (by simp)⟩, fun q hq => absurd hq (by simp), fun q hq => absurd hq (by simp), Below.refl _ _⟩
theorem Saying.lt (h : Saying w0 sv pv S R F W) : (∀ k, sv.ownBlock = some k → k < W.heap.size) ∧ ∀ k, pv.ownBlock = some k → k < W.heap.size := ⟨fun k hk => (World.ownsRow.lt h.own k hk).2, fun k hk => (h.ga.own.lt k hk).2⟩
/-- New entries, whose rows are new. -/
theorem Saying.come (h : Saying w0 sv pv S R [] W) (hb : Below W.heap.size W W') (hF : ∀ q ∈ F, EOn (fun _ => True) W' q.1 q.2) (hN : ∀ q ∈ F, Fr W.heap.size q.1 q.2) : Saying w0 sv pv S R F W' :=
  ⟨h.own.below hb (Nat.le_refl _), h.ga.step hb, fun q hq => (h.rows q hq).below hb, fun q hq => ((hN q hq).on (hF q hq)).mono fun j hj => ⟨fun e => by have := h.lt.1 j e; omega, fun e => by have := h.lt.2 j e; omega⟩, h.below.trans (hb.mono h.below.size)⟩
/-- One token more is said. -/
theorem Saying.said {g cap : Nat} {z : Int} (h : Saying w0 sv pv S R F W) (o : Obj) (hown : wz.ownsRow w0.heap.size 3 1 (.slice (some ⟨g, 0, none⟩) (S.length + 1) cap) (S.length + 1) (icells S ++ [.int .i64 z])) (hgrow : (W.alloc o).grownBy wz sv.ownBlock) (hat : sv.ownBlock = some g ∨ g = (W.alloc o).heap.size) :
    Saying w0 (.slice (some ⟨g, 0, none⟩) (S.length + 1) cap) pv (S ++ [z]) R F wz := by
  have hs : ∀ j, j < W.heap.size → sv.ownBlock ≠ some j → wz.heap[j]? = W.heap[j]? := fun j hj hne => (hgrow.block j (by simp; omega) fun e => hne e.symm).trans (Below.heap_alloc W o j hj)
  have hg : ∀ j, j < W.heap.size ∧ sv.ownBlock ≠ some j → (Value.slice (some ⟨g, 0, none⟩) (S.length + 1) cap).ownBlock ≠ some j := fun j hj e => by
    have e' : g = j := Option.some.inj e
    rcases hat with hat | hat
    · exact hj.2 (by rw [hat, e'])
    · have : (W.alloc o).heap.size = W.heap.size + 1 := by simp
      omega
  have hp : ∀ k, pv.ownBlock = some k → k < W.heap.size ∧ sv.ownBlock ≠ some k := fun k hk => ⟨h.lt.2 k hk, fun e => own_two h.ga.own h.own int_entry.symm k hk e⟩
  refine ⟨Own.grew rfl hown, ⟨own_moved h.ga.own fun k hk => hs k (hp k hk).1 (hp k hk).2, fun q hq => ?_⟩, fun q hq => ?_, fun q hq => ?_, below_grew h.below rfl h.own o hgrow⟩
  · have h1 := ((h.ga.all q hq).also ((h.rows q hq).new.also (h.rows q hq)))
    exact (h1.moved fun j hj => hs j hj.2.1 hj.2.2).mono fun j hj => hj.1
  · have h1 := (h.rows q hq).new.also (h.rows q hq)
    exact (h1.moved fun j hj => hs j hj.1 hj.2).mono hg
  · have h1 := (h.fresh q hq).new.also (h.fresh q hq)
    exact (h1.moved fun j hj => hs j hj.1 hj.2.1).mono fun j hj => ⟨hg j ⟨hj.1, hj.2.1⟩, hj.2.2⟩
/-- The entries are laid behind the others. -/
theorem Saying.laid {g cap : Nat} (h : Saying w0 sv pv S R F W) (hown : wz.ownsRow w0.heap.size 42 2 (.slice (some ⟨g, 0, none⟩) (R.length + F.length) cap) (R.length + F.length) (eCs R ++ eCs F)) (hgrow : W.grownBy wz pv.ownBlock) (hat : pv.ownBlock = some g ∨ g = W.heap.size) :
    Saying w0 sv (.slice (some ⟨g, 0, none⟩) (R.length + F.length) cap) S (R ++ F) [] wz := by
  have hs : ∀ j, j < W.heap.size → pv.ownBlock ≠ some j → wz.heap[j]? = W.heap[j]? := fun j hj hne => hgrow.block j hj fun e => hne e.symm
  have hg : ∀ j, j < W.heap.size ∧ pv.ownBlock ≠ some j → (Value.slice (some ⟨g, 0, none⟩) (R.length + F.length) cap).ownBlock ≠ some j := fun j hj e => by
    have e' : g = j := Option.some.inj e
    rcases hat with hat | hat
    · exact hj.2 (by rw [hat, e'])
    · omega
  have hv : ∀ k, sv.ownBlock = some k → k < W.heap.size ∧ pv.ownBlock ≠ some k := fun k hk => ⟨h.lt.1 k hk, fun e => own_two h.own h.ga.own int_entry k hk e⟩
  have hm : ∀ q ∈ R ++ F, EOn (fun j => (j < W.heap.size ∧ pv.ownBlock ≠ some j) ∧ sv.ownBlock ≠ some j) W q.1 q.2 := fun q hq => by
    rcases List.mem_append.1 hq with hq | hq
    · exact ((h.ga.all q hq).new.also (h.ga.all q hq)).also (h.rows q hq)
    · exact ((h.fresh q hq).new.also (h.fresh q hq)).mono fun j hj => ⟨⟨hj.1, hj.2.2⟩, hj.2.1⟩
  refine ⟨own_moved h.own fun k hk => hs k (hv k hk).1 (hv k hk).2, ⟨?_, fun q hq => ((hm q hq).moved fun j hj => hs j hj.1.1 hj.1.2).mono fun j hj => hg j hj.1⟩, fun q hq => ((hm q hq).moved fun j hj => hs j hj.1.1 hj.1.2).mono fun j hj => hj.2, fun q hq => absurd hq (by simp), ?_⟩
  · rw [List.length_append, eCs_append]
    exact hown
  · exact h.below.grown hgrow h.below.size (fun i hi => (h.ga.own.lt i hi).1)
end
theorem Saying.opens {w0 W : World} {pv : Value} {R : List (Er × Ent)} (h : Saying w0 (.slice none 0 0) pv [] R [] W) : Saying w0 (.slice (some ⟨W.heap.size, 0, none⟩) 0 0) pv [] R [] (W.alloc (.cells #[] 3)) := by
  have hb : Below W.heap.size W (W.alloc (.cells #[] 3)) := (Below.refl _ _).alloc (Nat.le_refl _) _
  have h2 := h.step hb
  refine ⟨Own.new W w0.heap.size h.below.size, h2.ga, fun q hq => ?_, fun q hq => absurd hq (by simp), h2.below⟩
  exact (((h.rows q hq).new).moved fun j hj => hb.block j hj).mono fun j hj e => by
    have : W.heap.size = j := Option.some.inj e
    omega
theorem Saying.begins (w0 W : World) (hb : Below w0.heap.size w0 W) : Saying w0 (.slice none 0 0) (.slice (some ⟨W.heap.size, 0, none⟩) 0 0) [] [] [] (W.alloc (.cells #[] 42)) :=
  ⟨⟨rfl, .inl ⟨rfl, rfl⟩⟩, ⟨World.ownsRow_made (e := 42) (size := 2) W #[] 0 hb.size (Nat.zero_le _) rfl, fun q hq => absurd hq (by simp)⟩, fun q hq => absurd hq (by simp), fun q hq => absurd hq (by simp), hb.alloc hb.size _⟩
/-- A store of two cells into a block that holds nothing of it. -/
theorem Saying.put {w0 W : World} {sv pv : Value} {S : List Int} {R F : List (Er × Ent)} (h : Saying w0 sv pv S R F W) {g : Nat} (hg : w0.heap.size ≤ g) (h1 : sv.ownBlock ≠ some g) (h2 : pv.ownBlock ≠ some g) (hR : ∀ q ∈ R, EOn (· ≠ g) W q.1 q.2) (hF : ∀ q ∈ F, EOn (· ≠ g) W q.1 q.2) (a b : Value) :
    Saying w0 sv pv S R F ((W.setCell ⟨g, 0, none⟩ a).setCell ⟨g, 1, none⟩ b) := by
  have hs : ∀ j, j ≠ g → ((W.setCell ⟨g, 0, none⟩ a).setCell ⟨g, 1, none⟩ b).heap[j]? = W.heap[j]? := fun j hj => (heap_setCell_other _ ⟨g, 1, none⟩ j _ hj).trans (heap_setCell_other _ ⟨g, 0, none⟩ j _ hj)
  refine ⟨own_moved h.own fun k hk => hs k (fun e => h1 (e ▸ hk)), ⟨own_moved h.ga.own fun k hk => hs k (fun e => h2 (e ▸ hk)), fun q hq => ?_⟩, fun q hq => ?_, fun q hq => ?_, (h.below.setCell (p := ⟨g, 0, none⟩) hg a).setCell (p := ⟨g, 1, none⟩) hg b⟩
  · exact (((h.ga.all q hq).also (hR q hq)).moved fun j hj => hs j hj.2).mono fun j hj => hj.1
  · exact (((h.rows q hq).also (hR q hq)).moved fun j hj => hs j hj.2).mono fun j hj => hj.1
  · exact (((h.fresh q hq).also (hF q hq)).moved fun j hj => hs j hj.2).mono fun j hj => hj.1
theorem kin_off {W : World} {A : Option Addr} {zs : List Int} {g : Nat} {B C : Option Addr} {n m c d : Nat} {t : TypeId} (h : KIn .i64 W A zs) (hg : W.heap[g]? = some (.cells #[.slice B n c, .slice C m d] t (0, 0))) : Ft (· ≠ g) A zs.length := fun h0 a ha e => by
  obtain ⟨pb, po, hA, hc⟩ := h h0
  rw [ha] at hA
  injection hA with hA
  subst hA
  have hb : pb = g := e
  subst hb
  have h1 := hc 0 h0
  rw [cell_of_row _ _ _ _ _ _ hg] at h1
  match hp : po + 0, h1 with
  | 0, h1 => cases h1
  | 1, h1 => cases h1
  | n + 2, h1 => simp at h1
end Gr
end Go.Proofs.YtkdkeokldcehhaaGreatDoor
namespace Go.Proofs.YtkdkeokldcehhaaGreatDoor
open Go.ChangeShapes Go.WideShapes Go.ChangeAt Go.RowKit Cf Vc Br Nr Sf Ac Sp Gn Gr Rf

namespace Gr
theorem err_none {x : Cfg} {most : Int} {pr : List Int} (h : ¬ (0 < pr.length ∧ 1 ≤ most ∧ most ≤ 32)) : errG x most pr = 1 := by unfold errG; rw [if_neg h]
theorem err_some {x : Cfg} {most : Int} {pr : List Int} (h : 0 < pr.length ∧ 1 ≤ most ∧ most ≤ 32) : errG x most pr = (if pr.all (tokB x) = true then (if (pr.length : Int) + most ≤ x.c then 0 else 12) else 3) := by unfold errG; rw [if_pos h]
theorem all_take {x : Cfg} {ts : List Int} {j : Nat} (h : j < ts.length) : (ts.take (j + 1)).all (tokB x) = ((ts.take j).all (tokB x) && tokB x (ts.getD j 0)) := by
  rw [List.take_add_one, List.all_append, List.getD_eq_getElem?_getD, List.getElem?_eq_getElem h]
  simp
theorem all_bad {x : Cfg} {ts : List Int} {j : Nat} (h : j < ts.length) (hb : tokB x (ts.getD j 0) = false) : ts.all (tokB x) = false := Bool.eq_false_iff.2 fun ha => by
  have := List.all_eq_true.1 ha (ts.getD j 0) (by rw [List.getD_eq_getElem?_getD, List.getElem?_eq_getElem h]; exact List.getElem_mem h)
  rw [hb] at this
  cases this
end Gr
set_option maxRecDepth 100000 in
set_option maxHeartbeats 6400000 in
theorem ref18_check (w : World) (x : Cfg) (s : ByteArray) (hk : Ok x s) (T : Option Addr) (m d : Nat) (ts : List Int) (most : Int) (hT : ts.length = m) (hm : m ≤ 1000000) (hK : KIn .i64 w T ts) :
    Calls Tryz.prog 46 #[mdV x s, .int .i64 most, .slice T m d] w fun e w' => e = .returned (.int .i64 (errG x most ts)) ∧ Below w.heap.size w w' := by
  have HB0 := Lib.hid (show Below w.heap.size w (w.alloc (mdO x s)) from (Below.refl _ _).alloc (Nat.le_refl _) _)
  have HH0 := Lib.hid (show (w.alloc (mdO x s)).heap[w.heap.size]? = some (mdO x s) from heap_alloc_new w _)
  have HC := Lib.hid (show x.c ≤ 32 ∧ 1 ≤ x.c from ⟨hk.good.is.c32, by have := hk.good.is.c1; omega⟩)
  have HT := Lib.hid hT
  have HM := Lib.hid hm
  have HK := Lib.hid hK
  generalize hr : errG x most ts = r
  have HR := Lib.hid hr
  unfold mdO brA at HB0 HH0
  unfold mdV brA
  clear hk hT hm hK hr
  by_cases h1 : m = 0
  · subst h1
    have HE := Lib.hid (HR.out.symm.trans (err_none (fun h => by have := h.1; have := HT.out; omega)))
    go_enter Tryz.func46, Tryz.ntmps46
    go_wp2_with (fail)
    refine bodyPost_ret (results_tmp rfl _ _ _) rfl ?_
    rw [HE.out]
    exact ⟨rfl, HB0.out⟩
  have y1 : ((m : Int) == 0) = false := beq_eq_false_iff_ne.2 (by omega)
  have y1' : decide ((m : Int) = 0) = false := decide_eq_false (by omega)
  have y1'' : ¬ m = 0 := h1
  by_cases h2 : most < 1
  · have HE := Lib.hid (HR.out.symm.trans (err_none (fun h => by omega)))
    have y2 : decide (most < 1) = true := decide_eq_true h2
    go_enter Tryz.func46, Tryz.ntmps46
    go_wp2_with (fail)
    refine bodyPost_ret (results_tmp rfl _ _ _) rfl ?_
    rw [HE.out]
    exact ⟨rfl, HB0.out⟩
  have y2 : decide (most < 1) = false := decide_eq_false h2
  by_cases h3 : 32 < most
  · have HE := Lib.hid (HR.out.symm.trans (err_none (fun h => by omega)))
    have y3 : decide (32 < most) = true := decide_eq_true h3
    go_enter Tryz.func46, Tryz.ntmps46
    go_wp2_with (fail)
    refine bodyPost_ret (results_tmp rfl _ _ _) rfl ?_
    rw [HE.out]
    exact ⟨rfl, HB0.out⟩
  have y3 : decide (32 < most) = false := decide_eq_false h3
  have HE1 := Lib.hid (HR.out.symm.trans (err_some (by have := HT.out; omega)))
  have HMB := Lib.hid (show 1 ≤ most ∧ most ≤ 32 by omega)
  clear HR
  go_enter Tryz.func46, Tryz.ntmps46
  go_wp2_with (fail)
  go_loopw [7] (fun i wr => ∃ j : Nat, i = .int .i64 (j : Int) ∧ j ≤ m ∧ (ts.take j).all (tokB x) = true ∧ Below w.heap.size w wr ∧ wr.heap[w.heap.size]? = some (mdO x s)) (fun i _ => match i with | .int _ k => m - k.toNat | _ => 0)
  case atStart => exact ⟨0, rfl, Nat.zero_le _, rfl, HB0.out, HH0.out⟩
  case round =>
    clear HB0 HH0
    obtain ⟨j, rfl, hj, hall, hb, hh⟩ := hrel
    have HB := Lib.hid hb
    have HH := Lib.hid hh
    obtain ⟨e0, e1, e2, e3, e4, e5, e6⟩ := Rf.seven hh
    clear hb hh
    have x2 : 0 ≤ (j : Int) := by omega
    by_cases hlt : j < m
    · have x0 : (j : Int) < (m : Int) := by omega
      have x1 : decide ((j : Int) < (m : Int)) = true := decide_eq_true x0
      have hjl : j < ts.length := by rw [HT.out]; exact hlt
      have HBAD := Lib.hid (fun hb => HE1.out.trans (if_neg (by rw [all_bad (x := x) hjl hb]; exact Bool.false_ne_true)))
      have HGD := Lib.hid (fun hb => show (ts.take (j + 1)).all (tokB x) = true from by rw [all_take hjl, hall, Bool.true_and]; exact hb)
      obtain ⟨pa, oa, rfl, hc⟩ := (HK.out.below HB.out (Nat.le_refl _)).at hjl
      have HJ := Lib.hid (show j + 1 ≤ m by omega)
      have HW1 := Lib.hid (IntWalk.wrap64_in ((j : Int) + 1) (by have := HM.out; omega))
      generalize ts.getD j 0 = z at hc HBAD HGD
      clear hjl hall hlt
      by_cases z1 : z < 0
      · have t1 : decide (z < 0) = true := decide_eq_true z1
        have HE := Lib.hid (HBAD.out (by unfold tokB; rw [decide_eq_false (by omega)]; rfl))
        clear HBAD HGD
        go_wp2_with (fail)
        go_quiet (fail)
        have HBQ := Lib.hid (below_drewN HB.out nq)
        go_wp2_with (fail)
        refine bodyPost_ret (results_tmp rfl _ _ _) rfl ?_
        rw [HE.out]
        exact ⟨rfl, HBQ.out⟩
      have t1 : decide (z < 0) = false := decide_eq_false z1
      by_cases z2 : x.v ≤ z
      · have t2 : decide (x.v ≤ z) = true := decide_eq_true z2
        have HE := Lib.hid (HBAD.out (by unfold tokB; rw [decide_eq_false (show ¬ z < x.v by omega), Bool.and_false]))
        clear HBAD HGD
        go_wp2_with (fail)
        go_quiet (fail)
        have HBQ := Lib.hid (below_drewN HB.out nq)
        go_wp2_with (fail)
        refine bodyPost_ret (results_tmp rfl _ _ _) rfl ?_
        rw [HE.out]
        exact ⟨rfl, HBQ.out⟩
      have t2 : decide (x.v ≤ z) = false := decide_eq_false z2
      have HG2 := Lib.hid (HGD.out (by unfold tokB; rw [decide_eq_true (show 0 ≤ z by omega), decide_eq_true (show z < x.v by omega)]; rfl))
      clear HBAD HGD
      go_wp2_with (fail)
      go_quiet (fail)
      have HBQ := Lib.hid (below_drewN HB.out nq)
      have HHQ := Lib.hid (show (wr.drewN nq).heap[w.heap.size]? = some (mdO x s) from HH.out)
      go_wp2_with (fail)
      try rw [HW1.out]
      exact ⟨⟨j + 1, rfl, HJ.out, HG2.out, HBQ.out, HHQ.out⟩, vc_less j m HJ.out⟩
    · have hje : j = m := by omega
      subst hje
      have x0 : ¬ (j : Int) < (j : Int) := by omega
      have x1 : decide ((j : Int) < (j : Int)) = false := decide_eq_false x0
      have hta : ts.all (tokB x) = true := by
        rw [List.take_of_length_le (by rw [HT.out]; exact Nat.le_refl _)] at hall
        exact hall
      have HE2 := Lib.hid (HE1.out.trans (if_pos hta))
      have HWS := IntWalk.wrap64_in (x.c - most) (by have := HC.out; have := HMB.out; omega)
      clear hta hall
      by_cases hl : x.c - most < (j : Int)
      · have t1 : decide (x.c - most < (j : Int)) = true := decide_eq_true hl
        have HE := Lib.hid (HE2.out.trans (if_neg (by rw [HT.out]; omega)))
        go_wp2_with (fail)
        refine bodyPost_ret (results_tmp rfl _ _ _) rfl ?_
        rw [HE.out]
        exact ⟨rfl, HB.out⟩
      · have t1 : decide (x.c - most < (j : Int)) = false := decide_eq_false hl
        have HE := Lib.hid (HE2.out.trans (if_pos (by rw [HT.out]; omega)))
        go_wp2_with (fail)
        refine bodyPost_ret (results_tmp rfl _ _ _) rfl ?_
        rw [HE.out]
        exact ⟨rfl, HB.out⟩
end Go.Proofs.YtkdkeokldcehhaaGreatDoor
