/-
  Law 22's rows of deeds that come in. No conditions.
  A law's deeds, and what they leave of versions. No program's function here, but what the pool's contracts say. No conditions.
  PagesApart's own words: a law's array of rows of numbers, beside a pool; what a put, and a store elsewhere, leave. No program's function here, but what the pool's contracts say. No conditions.
  The reference of layer 22: New, Is, Free, Take. Condition: the pool stands in its blocks.
  The reference of layer 22: Use. Conditions: the pool stands in its blocks; the list's numbers are there; a page has at most a million users.
  The reference of layer 22: Get. Conditions: the pool stands in its blocks; the list's numbers are there.
  The reference of layer 22: Put. Conditions: the pool stands in its blocks; the entry's rows are there, in none of the pool's blocks, and small.
  PagesExact's own words: a program's pool beside the document's. No program's function here, but what the pools' contracts say. No conditions.
-/
import Derived.Test.YtlapinecmiacoaaMe20
import Derived.Test.YtlapinecmiacoaaMe12
import Derived.Test.YtlapinecmiacoaaMe1
import Derived.Test.YtlapinecmiacoaaMe19
import Derived.Test.YtlapinecmiacoaaMe18
import Derived.Test.YtlapinecmiacoaaMe17
import Derived.Test.YtlapinecmiacoaaMe14
import Derived.Deep.Grids
import Derived.Deep.RegionHeld3
set_option maxRecDepth 100000
namespace Go.Proofs.Ytlapinecmiacoaa
open Go.ChangeShapes Go.WideShapes Go.ChangeAt Go.RowKit Nm Vc

namespace Pg
structure Ac where
  k : Int
  id : Int
  n : Int
  A : Option Addr
  c : Nat
  l : List Int
instance : Inhabited Ac := ⟨⟨0, 0, 0, none, 0, []⟩⟩
/-- Deeds behind a slice. -/
structure ActsIn (w : World) (A : Option Addr) (len : Nat) (X : Nat → Ac) : Prop where
  row : 0 < len → ∃ pb po, A = some ⟨pb, po, none⟩ ∧ ∀ i, i < len → w.cell? ⟨pb, po + i * 4, none⟩ = some (.int .i64 (X i).k) ∧ w.cell? ⟨pb, po + i * 4 + 1, none⟩ = some (.int .i64 (X i).id) ∧ w.cell? ⟨pb, po + i * 4 + 2, none⟩ = some (.int .i64 (X i).n) ∧ w.cell? ⟨pb, po + i * 4 + 3, none⟩ = some (.slice (X i).A (X i).l.length (X i).c)
  kin : ∀ i, i < len → KIn .i64 w (X i).A (X i).l
theorem ActsIn.keep {w w' : World} {A : Option Addr} {len : Nat} {X : Nat → Ac} (h : ActsIn w A len X) (hb : Below w.heap.size w w') : ActsIn w' A len X := ⟨fun h0 => by
  obtain ⟨pb, po, e, hc⟩ := h.row h0
  refine ⟨pb, po, e, fun i hi => ?_⟩
  obtain ⟨h1, h2, h3, h4⟩ := hc i hi
  have hl := block_lt_of_cell h1
  exact ⟨(hb.cell (p := ⟨pb, po + i * 4, none⟩) hl).trans h1, (hb.cell (p := ⟨pb, po + i * 4 + 1, none⟩) hl).trans h2, (hb.cell (p := ⟨pb, po + i * 4 + 2, none⟩) hl).trans h3, (hb.cell (p := ⟨pb, po + i * 4 + 3, none⟩) hl).trans h4⟩, fun i hi => (h.kin i hi).below hb (Nat.le_refl _)⟩
theorem ActsIn.keepFrom {w w' : World} {A : Option Addr} {len : Nat} {X : Nat → Ac} (h : ActsIn w A len X) (hb : Below w.heap.size w w') : ActsIn w' A len X := h.keep hb
end Pg
open Pg
section
variable {H : Type} {enc : TypeId × Value → H} {w : World} {base : Nat} {spare : Nat → Bool} {held : Bool}
set_option maxRecDepth 100000 in
theorem open_acts22 {fuel : Nat} {cs : List Value} {x : DataW H × List MemPlace} (h : DataW.trod enc Try.prog w base spare held fuel 22 cs = some x) :
    ∃ (A : Option Addr) (len cap : Nat) (X : Nat → Ac), cs = [.slice A len cap] ∧ len ≤ maxLen ∧ ActsIn w A len X := by
  obtain ⟨fs, hfs, hty⟩ : ∃ fs, Try.prog.underlying 30 = some (.struct fs) ∧ fs.toList.map (fun f => (f.type, f.offset)) = [(3, 0), (3, 1), (3, 2), (28, 3)] := ⟨_, Try.underlying30, by kernel_rfl⟩
  obtain ⟨f0, r, e0, g0, hr⟩ := List.map_eq_cons_iff.1 hty
  obtain ⟨f1, r, rfl, g1, hr⟩ := List.map_eq_cons_iff.1 hr
  obtain ⟨f2, r, rfl, g2, hr⟩ := List.map_eq_cons_iff.1 hr
  obtain ⟨f3, r, rfl, g3, hr⟩ := List.map_eq_cons_iff.1 hr
  obtain rfl := List.map_eq_nil_iff.1 hr
  simp only [Prod.mk.injEq] at g0 g1 g2 g3
  have hf : ∀ (j : Nat) (f : Field), fs[j]? = some f → (j = 0 ∧ f = f0) ∨ (j = 1 ∧ f = f1) ∨ (j = 2 ∧ f = f2) ∨ (j = 3 ∧ f = f3) := fun j f hj => by
    rw [← Array.getElem?_toList, e0] at hj
    match j, hj with
    | 0, hj => exact .inl ⟨rfl, (Option.some.inj hj).symm⟩
    | 1, hj => exact .inr (.inl ⟨rfl, (Option.some.inj hj).symm⟩)
    | 2, hj => exact .inr (.inr (.inl ⟨rfl, (Option.some.inj hj).symm⟩))
    | 3, hj => exact .inr (.inr (.inr ⟨rfl, (Option.some.inj hj).symm⟩))
    | j + 4, hj => simp at hj
  have c3 : Try.prog.cellsOf 3 = 1 := by kernel_rfl
  have c28 : Try.prog.cellsOf 28 = 1 := by kernel_rfl
  have hsz : fs.size = 4 := by rw [← Array.length_toList, e0]; rfl
  obtain ⟨A, len, cap, V, hcs, hl, hm, hV, hC⟩ := open_structs (m := 4) Try.underlying22 hfs (by omega) hsz (by kernel_rfl) (fun j f hj => by
    rcases hf j f hj with ⟨rfl, rfl⟩ | ⟨rfl, rfl⟩ | ⟨rfl, rfl⟩ | ⟨rfl, rfl⟩
    · rw [g0.1, g0.2]; exact ⟨rfl, c3⟩
    · rw [g1.1, g1.2]; exact ⟨rfl, c3⟩
    · rw [g2.1, g2.2]; exact ⟨rfl, c3⟩
    · rw [g3.1, g3.2]; exact ⟨rfl, c28⟩) h
  have get0 : fs[0]? = some f0 := by rw [← Array.getElem?_toList, e0]; rfl
  have get1 : fs[1]? = some f1 := by rw [← Array.getElem?_toList, e0]; rfl
  have get2 : fs[2]? = some f2 := by rw [← Array.getElem?_toList, e0]; rfl
  have get3 : fs[3]? = some f3 := by rw [← Array.getElem?_toList, e0]; rfl
  have each : ∀ i, i < len → ∃ y : Ac, V i 0 = .int .i64 y.k ∧ V i 1 = .int .i64 y.id ∧ V i 2 = .int .i64 y.n ∧ V i 3 = .slice y.A y.l.length y.c ∧ KIn .i64 w y.A y.l := fun i hi => by
    obtain ⟨n0, y0, h0⟩ := hV i hi 0 f0 get0
    obtain ⟨n1, y1, h1⟩ := hV i hi 1 f1 get1
    obtain ⟨n2, y2, h2⟩ := hV i hi 2 f2 get2
    obtain ⟨n3, y3, h3⟩ := hV i hi 3 f3 get3
    rw [g0.1] at h0
    rw [g1.1] at h1
    rw [g2.1] at h2
    rw [g3.1] at h3
    obtain ⟨k, hk, _⟩ := one_int Try.underlying3 h0
    obtain ⟨d, hd, _⟩ := one_int Try.underlying3 h1
    obtain ⟨m, hm, _⟩ := one_int Try.underlying3 h2
    obtain ⟨B, L, C, xs, hB, hLC, _, _, hx⟩ := one_ints Try.underlying28 Try.underlying3 c3 h3
    have hlen : ((List.range L).map xs).length = L := by simp
    refine ⟨⟨k, d, m, B, C, (List.range L).map xs⟩, hk, hd, hm, by show V i 3 = .slice B ((List.range L).map xs).length C; rw [hlen]; exact hB, fun h0 => ?_⟩
    rw [hlen] at h0
    obtain ⟨pb, po, e, hc⟩ := hx h0
    refine ⟨pb, po, e, fun j hj => ?_⟩
    rw [hlen] at hj
    have : ((List.range L).map xs).getD j 0 = xs j := by
      rw [List.getD_eq_getElem?_getD, List.getElem?_map, List.getElem?_range hj]
      rfl
    show w.cell? _ = some (.int .i64 (((List.range L).map xs).getD j 0))
    rw [this]
    exact hc j hj
  obtain ⟨y, hy⟩ := Go.Deep.choose_lt each
  refine ⟨A, len, cap, y, hcs, by omega, ⟨fun h0 => ?_, fun i hi => (hy i hi).2.2.2.2⟩⟩
  obtain ⟨pb, po, hA, hcell⟩ := hC h0
  refine ⟨pb, po, hA, fun i hi => ?_⟩
  obtain ⟨z1, z2, z3, z4, _⟩ := hy i hi
  have q0 := hcell i hi 0 (by omega)
  have q1 := hcell i hi 1 (by omega)
  have q2 := hcell i hi 2 (by omega)
  have q3 := hcell i hi 3 (by omega)
  rw [z1] at q0
  rw [z2] at q1
  rw [z3] at q2
  rw [z4] at q3
  exact ⟨q0, q1, q2, q3⟩
end
end Go.Proofs.Ytlapinecmiacoaa
namespace Go.Proofs.Ytlapinecmiacoaa
open Go.ChangeShapes Go.WideShapes Go.ChangeAt Go.RowKit Nm Cf Vc Sp Pg

namespace Pg
/-- Pages with users are of four versions only. -/
def VIn (P : Nat → Page Ent) (n : Nat) : Prop := ∀ j, j < n → 0 < (P j).u → 1 ≤ (P j).v ∧ (P j).v ≤ 4
section
variable {n : Nat} {P : Nat → Page Ent}
theorem vin_take (h : VIn P n) {v : Int} (hv : 1 ≤ v ∧ v ≤ 4) : VIn (takeS n P v) n := fun j hj hu => by
  unfold takeS at hu ⊢
  split at hu <;> rename_i hc
  · rw [if_pos hc]
    by_cases e : j = lowP P n
    · rw [e, upd_at]; exact hv
    · rw [upd_off _ e] at hu ⊢; exact h j hj hu
  · rw [if_neg hc]; exact h j hj hu
theorem vin_share (h : VIn P n) (xs : List Int) : VIn (shareS n P xs) n := fun j hj hu => by
  unfold shareS at hu ⊢
  split at hu <;> rename_i hc
  · rw [if_pos hc]
    by_cases h0 : (P j).u = 0
    · have hc0 : cntI xs j = 0 := cnt_none fun hm => by
        have := (is_iff.1 (share_iff.1 hc _ hm)).2.2
        rw [Int.toNat_natCast] at this
        omega
      have : 0 < (P j).u + cntI xs j := hu
      omega
    · exact h j hj (by omega)
  · rw [if_neg hc]; exact h j hj hu
theorem vin_drop (h : VIn P n) (xs : List Int) : VIn (dropS n P xs) n := fun j hj hu => by
  unfold dropS at hu ⊢
  split at hu <;> rename_i hc
  · rw [if_pos hc]
    unfold clrS at hu ⊢
    split at hu <;> rename_i h0
    · cases hu
    · rw [if_neg h0]
      have h1 : (P j).u - cntI xs j ≠ 0 := h0
      exact h j hj (by omega)
  · rw [if_neg hc]; exact h j hj hu
theorem vin_put (h : VIn P n) (x : Int) (e : Ent) : VIn (putS n P x e) n := fun j hj hu => by
  unfold putS at hu ⊢
  split at hu <;> rename_i hc
  · rw [if_pos hc]
    by_cases e2 : j = x.toNat
    · rw [e2, upd_at] at hu ⊢
      exact h x.toNat (e2 ▸ hj) hu
    · rw [upd_off _ e2] at hu ⊢; exact h j hj hu
  · rw [if_neg hc]; exact h j hj hu
/-- How many pages the versions up to v have. -/
def useN (P : Nat → Page Ent) (n : Nat) : Nat → Nat
  | 0 => 0
  | v + 1 => useN P n v + (ofI P ((v : Int) + 1) n).length
theorem use_four (h : VIn P n) : useN P n 4 + freeN P n = n := by
  have h1 := all_pages P n h
  show (((0 + (ofI P ((0 : Int) + 1) n).length) + (ofI P ((1 : Int) + 1) n).length) + (ofI P ((2 : Int) + 1) n).length) + (ofI P ((3 : Int) + 1) n).length + freeN P n = n
  rw [ofI_len, ofI_len, ofI_len, ofI_len]
  have e1 : (0 : Int) + 1 = 1 := rfl
  have e2 : (1 : Int) + 1 = 2 := rfl
  have e3 : (2 : Int) + 1 = 3 := rfl
  have e4 : (3 : Int) + 1 = 4 := rfl
  rw [e1, e2, e3, e4]
  omega
theorem use_le (P : Nat → Page Ent) (n v : Nat) : useN P n v ≤ v * n := by
  induction v with
  | zero => exact Nat.zero_le _
  | succ v ih =>
    have h1 := of_le P ((v : Int) + 1) n
    rw [useN, ofI_len, Nat.succ_mul]
    omega
/-- How many users a page has, as memory tells it. -/
def meas (D i : Nat) (w : World) : Nat :=
  match w.cell? ⟨D, 0, none⟩ with
  | some (.slice (some a) _ _) => match w.cell? ⟨a.block, i * 3 + 1, none⟩ with
    | some (.int _ u) => u.toNat
    | _ => 0
  | _ => 0
theorem meas_is {F : Nat → Prop} {w : World} {D i : Nat} (h : Pl F w D n P) (hi : i < n) : meas D i w = (P i).u := by
  obtain ⟨b, cap, G, Q, h⟩ := h
  unfold meas
  rw [h.cD]
  show (match w.cell? ⟨b, i * 3 + 1, none⟩ with | some (.int _ u) => u.toNat | _ => 0) = _
  rw [h.row.c1 hi]
  exact Int.toNat_natCast _
/-- One user less of one page. -/
theorem drop_id {i : Nat} (hi : i < n) (hu : 0 < (P i).u) : dropE n P [(i : Int)] = 0 ∧ (dropS n P [(i : Int)] i).u = (P i).u - 1 ∧ ∀ j, j ≠ i → (dropS n P [(i : Int)] j).u = (P j).u := by
  have hp : isP n P (i : Int) = true := by rw [is_nat hi]; exact decide_eq_true hu
  have hc : cntI [(i : Int)] i = 1 := by unfold cntI; simp
  have hb : dropB n P [(i : Int)] = true := drop_iff.2 fun x hx => by
    rw [List.mem_singleton.1 hx, Int.toNat_natCast, hc]
    exact ⟨hp, hu⟩
  have hs : dropS n P [(i : Int)] = dropJ P [(i : Int)] := if_pos hb
  refine ⟨if_pos hb, ?_, fun j hj => ?_⟩
  · rw [hs, dropJ_u, hc]
  · have h0 : cntI [(i : Int)] j = 0 := cnt_none fun hm => hj (by have := List.mem_singleton.1 hm; omega)
    rw [hs, dropJ_u, h0, Nat.sub_zero]
end
/-- A deed as the law reads it, in a block of its own. -/
def acO (x : Ac) : Obj := .cells #[.int .i64 x.k, .int .i64 x.id, .int .i64 x.n, .slice x.A x.l.length x.c] 30 (0, 0)
section
variable {W : World} {b : Nat} {x : Ac} (h : W.heap[b]? = some (acO x))
include h
theorem ac0 : W.cell? ⟨b, 0, none⟩ = some (.int .i64 x.k) := by rw [cell_of_row _ _ _ _ _ _ h]; rfl
theorem ac1 : W.cell? ⟨b, 1, none⟩ = some (.int .i64 x.id) := by rw [cell_of_row _ _ _ _ _ _ h]; rfl
theorem ac2 : W.cell? ⟨b, 2, none⟩ = some (.int .i64 x.n) := by rw [cell_of_row _ _ _ _ _ _ h]; rfl
theorem ac3 : W.cell? ⟨b, 3, none⟩ = some (.slice x.A x.l.length x.c) := by rw [cell_of_row _ _ _ _ _ _ h]; rfl
end
end Pg
end Go.Proofs.Ytlapinecmiacoaa
namespace Go.Proofs.Ytlapinecmiacoaa
open Go.ChangeShapes Go.WideShapes Go.ChangeAt Go.RowKit Nm Cf Vc Sp Pg

namespace Pg
theorem eV_ent (N : Nat) (x : Int) : eV (entR N) (entX x) = .agg #[.slice (some ⟨N + 1, 0, none⟩) 1 1, .slice (some ⟨N + 3, 0, none⟩) 1 1] := rfl
theorem law_entry' (W : World) (z : Int) : Calls Try.prog 12 #[.int .i64 z] W fun e w' => e = .returned (.agg #[.slice (some ⟨W.heap.size + 1 + 1, 0, none⟩) 1 1, .slice (some ⟨W.heap.size + 1 + 3, 0, none⟩) 1 1]) ∧ EntIs w' (W.heap.size + 1) z ∧ Below W.heap.size W w' := by
  have h := law_entry W z
  unfold EntSays at h
  rw [eV_ent] at h
  exact h
theorem has_put' {w0 W : World} {F : Nat → Prop} {D n : Nat} {P : Nat → Page Ent} (h : Has w0 F W D n P) (x : Int) {N : Nat} {z : Int} (he : EntIs W N z) : Calls Try.prog 13 #[.pointer (some ⟨D, 0, none⟩), .int .i64 x, .agg #[.slice (some ⟨N + 1, 0, none⟩) 1 1, .slice (some ⟨N + 3, 0, none⟩) 1 1]] W fun e w' => e = .returned (.int .i64 (putE n P x)) ∧ HasT w0 F W D n (putS n P x (entX z)) w' := by
  have h := has_put h x he.on (entX_small z)
  rw [eV_ent] at h
  exact h
/-- An array of ten rows of numbers, each in a row of its own. -/
structure Hv (N : Nat) (Fh : Nat → Prop) (W : World) (g : Nat) (G : Nat → Value) (H : Nat → List Int) : Prop where
  arr : ∃ cs, W.heap[g]? = some (.cells cs 61 (0, 0)) ∧ cs.size = 10 ∧ ∀ i, i < 10 → cs[i]? = some (G i)
  own : ∀ i, i < 10 → Own W N (G i) (H i)
  off : ∀ i, i < 10 → ∀ k, (G i).ownBlock = some k → k ≠ g ∧ Fh k
  apart : ∀ i j, i < 10 → j < 10 → i ≠ j → ∀ k, (G i).ownBlock = some k → (G j).ownBlock ≠ some k
  Fg : Fh g
  lt : ∀ k, Fh k → k < W.heap.size
section
variable {N : Nat} {Fh : Nat → Prop} {W W' wz : World} {g : Nat} {G : Nat → Value} {H : Nat → List Int}
theorem Hv.kept (h : Hv N Fh W g G H) (hs : W.heap.size ≤ W'.heap.size) (hb : ∀ k, Fh k → W'.heap[k]? = W.heap[k]?) : Hv N Fh W' g G H := by
  obtain ⟨cs, h1, h2, h3⟩ := h.arr
  exact ⟨⟨cs, (hb g h.Fg).trans h1, h2, h3⟩, fun i hi => Sp.own_moved (h.own i hi) fun k hk => hb k (h.off i hi k hk).2, h.off, h.apart, h.Fg, fun k hk => Nat.lt_of_lt_of_le (h.lt k hk) hs⟩
theorem Hv.step (h : Hv N Fh W g G H) (hb : Below W.heap.size W W') : Hv N Fh W' g G H := h.kept hb.size fun k hk => hb.block k (h.lt k hk)
theorem Hv.cell (h : Hv N Fh W g G H) {i : Nat} (hi : i < 10) : W.cell? ⟨g, i, none⟩ = some (G i) := by
  obtain ⟨cs, h1, _, h3⟩ := h.arr
  rw [cell_of_row _ _ _ _ _ _ h1]
  exact h3 i hi
theorem Hv.fz (h : Hv N Fh W g G H) (i : Nat) : W.frozen? ⟨g, i, none⟩ = false := by
  obtain ⟨cs, h1, _⟩ := h.arr
  exact frozen_of_row _ _ _ _ _ h1
theorem Hv.slice (h : Hv N Fh W g G H) {i : Nat} (hi : i < 10) : ∃ A c, G i = .slice A (H i).length c := (h.own i hi).slice
def updH (H : Nat → List Int) (k : Nat) (l : List Int) (i : Nat) : List Int := if i = k then l else H i
theorem updH_at (H : Nat → List Int) (k : Nat) (l : List Int) : updH H k l k = l := if_pos rfl
theorem updH_off (H : Nat → List Int) {k i : Nat} (l : List Int) (h : i ≠ k) : updH H k l i = H i := if_neg h
/-- One number more in one of the rows. -/
theorem Hv.more (h : Hv N Fh W g G H) {i : Nat} (hi : i < 10) {z : Int} {m g4 c4 : Nat} (hm : (H i).length = m) (hown : Own wz N (.slice (some ⟨g4, 0, none⟩) (m + 1) c4) (H i ++ [z])) (hgrow : W.grownBy wz (G i).ownBlock) (hat : (G i).ownBlock = some g4 ∨ (W.heap.size ≤ g4 ∧ g4 < wz.heap.size)) :
    Hv N (fun k => Fh k ∨ k = g4) (wz.setCell ⟨g, i, none⟩ (.slice (some ⟨g4, 0, none⟩) (m + 1) c4)) g (updG G i (.slice (some ⟨g4, 0, none⟩) (m + 1) c4)) (updH H i (H i ++ [z])) := by
  have hg0 := h.lt g h.Fg
  have hgz : (G i).ownBlock ≠ some g := fun e => (h.off i hi g e).1 rfl
  have hne : g4 ≠ g := by
    rcases hat with ha | ha
    · exact fun e => hgz (e ▸ ha)
    · omega
  have hbg : wz.heap[g]? = W.heap[g]? := hgrow.block g hg0 fun e => hgz e.symm
  obtain ⟨cs, h1, h2, h3⟩ := h.arr
  have ho : ∀ j, j ≠ g → (wz.setCell ⟨g, i, none⟩ (.slice (some ⟨g4, 0, none⟩) (m + 1) c4)).heap[j]? = wz.heap[j]? := fun j hj => heap_setCell_other _ ⟨g, i, none⟩ j _ hj
  have hlt4 : g4 < wz.heap.size := by
    rcases hat with ha | ha
    · have := h.lt g4 (h.off i hi g4 ha).2
      have := hgrow.size
      omega
    · exact ha.2
  have hoff4 : ∀ j, j < 10 → j ≠ i → (G j).ownBlock ≠ some g4 := fun j hj hji e => by
    rcases hat with ha | ha
    · exact h.apart i j hi hj (fun e => hji e.symm) g4 ha e
    · have := h.lt g4 (h.off j hj g4 e).2
      omega
  refine ⟨⟨_, heap_setCell_same wz g i _ _ _ (hbg.trans h1), by rw [Array.size_setIfInBounds]; exact h2, fun j hj => ?_⟩, fun j hj => ?_, fun j hj k hk => ?_, fun j j2 hj hj2 hne2 k hk hk2 => ?_, .inl h.Fg, fun k hk => ?_⟩
  · rw [Array.getElem?_setIfInBounds]
    by_cases e : i = j
    · subst e
      rw [if_pos rfl, if_pos (by omega), updG_at]
    · rw [if_neg e, updG_off _ _ (fun e2 => e e2.symm)]
      exact h3 j hj
  · by_cases e : j = i
    · subst e
      rw [updG_at, updH_at]
      exact Sp.own_moved hown fun k hk => ho k (by rw [← (show g4 = k from Option.some.inj hk)]; exact hne)
    · rw [updG_off _ _ e, updH_off _ _ e]
      refine Sp.own_moved (h.own j hj) fun k hk => ?_
      have h5 := h.off j hj k hk
      exact (ho k h5.1).trans (hgrow.block k (h.lt k h5.2) fun e2 => h.apart i j hi hj (fun e3 => e e3.symm) k e2.symm hk)
  · by_cases e : j = i
    · rw [e, updG_at] at hk
      have e2 : g4 = k := Option.some.inj hk
      rw [← e2]
      exact ⟨hne, .inr rfl⟩
    · rw [updG_off _ _ e] at hk
      have h5 := h.off j hj k hk
      exact ⟨h5.1, .inl h5.2⟩
  · by_cases e : j = i
    · rw [e, updG_at] at hk
      have e2 : g4 = k := Option.some.inj hk
      rw [updG_off _ _ (fun e3 => hne2 (e.trans e3.symm)), ← e2] at hk2
      exact hoff4 j2 hj2 (fun e3 => hne2 (e.trans e3.symm)) hk2
    · rw [updG_off _ _ e] at hk
      by_cases e2 : j2 = i
      · rw [e2, updG_at] at hk2
        have e3 : g4 = k := Option.some.inj hk2
        rw [← e3] at hk
        exact hoff4 j hj e hk
      · rw [updG_off _ _ e2] at hk2
        exact h.apart j j2 hj hj2 hne2 k hk hk2
  · have h6 := hgrow.size
    have : k < wz.heap.size := by
      rcases hk with hk | hk
      · have := h.lt k hk; omega
      · omega
    simpa using this
theorem hv_new (W : World) (cs : Array Value) (hs : cs.size = 10) (hc : ∀ i, i < 10 → cs[i]? = some (.slice none 0 0)) : Hv N (fun k => k = W.heap.size) (W.alloc (.cells cs 61)) W.heap.size (fun _ => .slice none 0 0) (fun _ => []) :=
  ⟨⟨cs, heap_alloc_new W _, hs, hc⟩, fun i _ => ⟨rfl, .inl ⟨rfl, rfl⟩⟩, fun i _ k hk => (by cases hk), fun i j _ _ _ k hk => (by cases hk), rfl, fun k hk => by rw [hk]; simp⟩
end
section
variable {w0 W W' : World} {F F' Fh : Nat → Prop} {D n N g : Nat} {P : Nat → Page Ent} {G : Nat → Value} {H : Nat → List Int}
theorem hv_turn (h : Hv N Fh W g G H) (hd : ∀ k, F k → ¬ Fh k) (t : Turn F W W') : Hv N Fh W' g G H := h.kept t.size fun k hk => t.block k (h.lt k hk) fun hf => hd k hf hk
theorem dis_turn (hd : ∀ k, F k → ¬ Fh k) (hl : ∀ k, Fh k → k < W.heap.size) (ho : ∀ k, F' k → Old F W k) : ∀ k, F' k → ¬ Fh k := fun k hk hf => by
  rcases ho k hk with h | h
  · exact hd k h hf
  · have := hl k hf; omega
theorem has_beside (h : Has w0 F W D n P) (t : Turn Fh W W') (hd : ∀ k, F k → ¬ Fh k) (hn : ∀ k, Fh k → w0.heap.size ≤ k) : Has w0 F W' D n P :=
  ⟨h.pl.kept t.size fun k hk => t.block k (h.pl.lt k hk) (hd k hk), h.new, h.below.trans (t.below hn h.below.size)⟩
theorem turn_store (W : World) (b i : Nat) (v : Value) : Turn (· = b) W (W.setCell ⟨b, i, none⟩ v) := (Turn.refl (· = b) W).set (.inl rfl) i v
end
/-- What the pages are while the law takes them; what they are behind its puts. -/
def apP (i j : Nat) : Page Ent := if j < i then ⟨(j : Int) + 1, 1, []⟩ else fr
def apH (H : Nat → List Int) (j : Nat) : Page Ent := if j < 10 then ⟨(j : Int) + 1, 1, (H j).map entX⟩ else fr
theorem ap_low {i : Nat} (hi : i ≤ 10) : lowP (apP i) 10 = i := by
  by_cases h : i < 10
  · exact low_at h (by unfold apP; rw [if_neg (Nat.lt_irrefl i)]; rfl) fun j hj => by unfold apP; rw [if_pos hj]; exact Nat.one_ne_zero
  · have : i = 10 := by omega
    subst this
    exact low_none fun j hj => by unfold apP; rw [if_pos hj]; exact Nat.one_ne_zero
theorem ap_take {i : Nat} (hi : i < 10) : takeI 10 (apP i) ((i : Int) + 1) = (i : Int) ∧ takeE 10 (apP i) ((i : Int) + 1) = 0 ∧ takeS 10 (apP i) ((i : Int) + 1) = apP (i + 1) := by
  have hv : verP ((i : Int) + 1) = true := ver_iff.2 ⟨by omega, by omega⟩
  have hl := ap_low (Nat.le_of_lt hi)
  refine ⟨?_, ?_, ?_⟩
  · unfold takeI; rw [hl, if_pos ⟨hv, hi⟩]
  · unfold takeE; rw [hl, if_pos hv, if_pos hi]
  · unfold takeS
    rw [hl, if_pos ⟨hv, hi⟩]
    funext j
    unfold updP apP
    by_cases e : j = i
    · rw [if_pos e, if_pos (by omega), e]
    · rw [if_neg e]
      by_cases h : j < i
      · rw [if_pos h, if_pos (by omega)]
      · rw [if_neg h, if_neg (by omega)]
theorem ap_full : takeE 10 (apP 10) 1 = 11 ∧ takeS 10 (apP 10) 1 = apP 10 := by
  have hl := ap_low (Nat.le_refl 10)
  refine ⟨?_, ?_⟩
  · unfold takeE; rw [hl, if_pos (ver_iff.2 ⟨by omega, by omega⟩), if_neg (Nat.lt_irrefl _)]
  · unfold takeS; rw [hl, if_neg fun h => absurd h.2 (Nat.lt_irrefl _)]
theorem ap_start : apP 10 = apH fun _ => [] := by
  funext j
  unfold apP apH
  rfl
theorem apP_bnd (i : Nat) : Bnd (apP i) 1 := fun j => by
  unfold apP
  split
  · exact Nat.le_refl 1
  · exact Nat.zero_le _
theorem apH_bnd (H : Nat → List Int) : Bnd (apH H) 1 := fun j => by
  unfold apH
  split
  · exact Nat.le_refl 1
  · exact Nat.zero_le _
theorem apH_in (H : Nat → List Int) {i : Nat} (hi : i < 10) : apH H i = ⟨(i : Int) + 1, 1, (H i).map entX⟩ := if_pos hi
theorem apH_is (H : Nat → List Int) {i : Nat} (hi : i < 10) : isP 10 (apH H) (i : Int) = true := by
  rw [is_nat hi, apH_in H hi]
  exact decide_eq_true Nat.one_pos
theorem apH_put (H : Nat → List Int) {i : Nat} (hi : i < 10) (z : Int) : putE 10 (apH H) (i : Int) = (if 4 ≤ (H i).length then 10 else 0) ∧ ((H i).length < 4 → putS 10 (apH H) (i : Int) (entX z) = apH (updH H i (H i ++ [z]))) := by
  have h1 : putE 10 (apH H) (i : Int) = if 4 ≤ (H i).length then 10 else 0 := by
    rw [putE_in (apH_is H hi), apH_in H hi]
    show (if 1 < 1 then 7 else if 4 ≤ ((H i).map entX).length then 10 else 0) = _
    rw [if_neg (Nat.lt_irrefl 1), List.length_map]
  refine ⟨h1, fun hl => ?_⟩
  rw [putS_in (h1.trans (if_neg (by omega)))]
  funext j
  by_cases e : j = i
  · rw [e, upd_at, apH_in H hi, apH_in _ hi, updH_at, List.map_append]
    rfl
  · rw [upd_off _ e]
    unfold apH
    rw [updH_off _ _ e]
/-- One page has three users. -/
theorem apH_get (H : Nat → List Int) {P : Nat → Page Ent} {i : Nat} (hi : i < 10) (hu : 0 < (P i).u) (hl : (P i).l = (H i).map entX) : getL 10 P [(i : Int)] = (H i).map entX := by
  unfold getL
  rw [List.flatMap_cons, List.flatMap_nil, List.append_nil, if_pos (by rw [is_nat hi]; exact decide_eq_true hu), Int.toNat_natCast, hl]
/-- A law's pool, and its array. -/
structure Ap (w0 W : World) (D g : Nat) (F Fh : Nat → Prop) (G : Nat → Value) (H : Nat → List Int) (P : Nat → Page Ent) : Prop where
  has : Has w0 F W D 10 P
  hv : Hv w0.heap.size Fh W g G H
  dis : ∀ k, F k → ¬ Fh k
  new : ∀ k, Fh k → w0.heap.size ≤ k
section
variable {w0 W W' : World} {D g : Nat} {F F' Fh : Nat → Prop} {G : Nat → Value} {H : Nat → List Int} {P P' : Nat → Page Ent}
theorem Ap.step (h : Ap w0 W D g F Fh G H P) (hb : Below W.heap.size W W') : Ap w0 W' D g F Fh G H P := ⟨h.has.step hb, h.hv.step hb, h.dis, h.new⟩
theorem Ap.turned (h : Ap w0 W D g F Fh G H P) (k : Has w0 F' W' D 10 P') (ho : ∀ j, F' j → Old F W j) (t : Turn F W W') : Ap w0 W' D g F' Fh G H P' := ⟨k, hv_turn h.hv h.dis t, dis_turn h.dis h.hv.lt ho, h.new⟩
/-- A store into what is neither's. -/
theorem Ap.store (h : Ap w0 W D g F Fh G H P) {b : Nat} (hb : w0.heap.size ≤ b) (h1 : ¬ F b) (h2 : ¬ Fh b) (i : Nat) (v : Value) : Ap w0 (W.setCell ⟨b, i, none⟩ v) D g F Fh G H P :=
  ⟨has_beside h.has (turn_store W b i v) (fun k hk e => h1 (e ▸ hk)) (fun k hk => by rw [hk]; exact hb), hv_turn (F := (· = b)) h.hv (fun k hk hf => h2 (hk ▸ hf)) (turn_store W b i v), h.dis, h.new⟩
theorem Ap.more (h : Ap w0 W D g F Fh G H P) {wz : World} {i : Nat} (hi : i < 10) {z : Int} {m g4 c4 : Nat} (hm : (H i).length = m) (hown : Own wz w0.heap.size (.slice (some ⟨g4, 0, none⟩) (m + 1) c4) (H i ++ [z])) (hgrow : W.grownBy wz (G i).ownBlock) (hat : (G i).ownBlock = some g4 ∨ (W.heap.size ≤ g4 ∧ g4 < wz.heap.size)) :
    Ap w0 (wz.setCell ⟨g, i, none⟩ (.slice (some ⟨g4, 0, none⟩) (m + 1) c4)) D g F (fun k => Fh k ∨ k = g4) (updG G i (.slice (some ⟨g4, 0, none⟩) (m + 1) c4)) (updH H i (H i ++ [z])) P ∧ Turn Fh W (wz.setCell ⟨g, i, none⟩ (.slice (some ⟨g4, 0, none⟩) (m + 1) c4)) := by
  have ht : Turn Fh W (wz.setCell ⟨g, i, none⟩ (.slice (some ⟨g4, 0, none⟩) (m + 1) c4)) := ((Turn.refl Fh W).grown hgrow fun k hk => .inl (h.hv.off i hi k hk).2).set (.inl h.hv.Fg) _ _
  refine ⟨⟨has_beside h.has ht h.dis h.new, h.hv.more hi hm hown hgrow hat, fun k hk e => ?_, fun k hk => ?_⟩, ht⟩
  · rcases e with e | e
    · exact h.dis k hk e
    · rcases hat with ha | ha
      · exact h.dis k hk (e ▸ (h.hv.off i hi g4 ha).2)
      · have := h.has.pl.lt k hk; omega
  · rcases hk with e | e
    · exact h.new k e
    · rcases hat with ha | ha
      · exact h.new k (e ▸ (h.hv.off i hi g4 ha).2)
      · have := h.has.below.size; omega
end
theorem same_ent {W : World} {p : Nat → Prop} {r : Er} {h : Int} (he : EOn p W r (entX h)) {N : Nat} (k : EntIs W N h) : Calls Try.prog 27 #[.agg #[.slice r.kA 1 r.kc, .slice r.vA 1 r.vc], .agg #[.slice (some ⟨N + 1, 0, none⟩) 1 1, .slice (some ⟨N + 3, 0, none⟩) 1 1]] W fun z w' => z = .returned (.bool true) ∧ Below W.heap.size W w' := by
  have h1 := step_same W r (entX h) (entR N) (entX h) (he.mono fun _ _ => trivial) (k.on.mono fun _ _ => trivial) (entX_small h).fit
  rw [eV_ent, sameE_self] at h1
  exact h1
theorem got_at {R : List (Er × Ent)} {L : List Int} {e : Nat} {h : Int} (hR : R.map (·.2) = L.map entX) (hL : L[e]? = some h) : ∃ r, R[e]? = some (r, entX h) := by
  have h1 : (R.map (·.2))[e]? = some (entX h) := by rw [hR, List.getElem?_map, hL]; rfl
  rw [List.getElem?_map] at h1
  obtain ⟨⟨r, x⟩, h2, h3⟩ := Option.map_eq_some_iff.1 h1
  exact ⟨r, by rw [h2]; exact congrArg some (Prod.ext rfl h3)⟩
theorem got_len {R : List (Er × Ent)} {L : List Int} {e : Nat} {h : Int} (hR : R.map (·.2) = L.map entX) (hL : L[e]? = some h) : e < R.length := by
  obtain ⟨r, h1⟩ := got_at hR hL
  exact (List.getElem?_eq_some_iff.1 h1).1
/-! One page has three users, and then two -/
def ap3 (H : Nat → List Int) (k : Nat) : Nat → Page Ent := shareS 10 (apH H) [(k : Int), (k : Int)]
def ap2 (H : Nat → List Int) (k : Nat) : Nat → Page Ent := dropS 10 (ap3 H k) [(k : Int)]
section
variable {H : Nat → List Int} {k : Nat}
theorem ap_cnt2 : cntI [(k : Int), (k : Int)] k = 2 := by unfold cntI; simp
theorem ap_cnt1 : cntI [(k : Int)] k = 1 := by unfold cntI; simp
theorem ap_share (hk : k < 10) : shareE 10 (apH H) [(k : Int), (k : Int)] = 0 ∧ ap3 H k = moreS (apH H) [(k : Int), (k : Int)] := by
  have hb : shareB 10 (apH H) [(k : Int), (k : Int)] = true := share_iff.2 fun x hx => by
    have : x = (k : Int) := by simpa using hx
    rw [this]
    exact apH_is H hk
  exact ⟨if_pos hb, if_pos hb⟩
theorem ap3_at (hk : k < 10) {i : Nat} (hi : i < 10) : (ap3 H k i).l = (H i).map entX ∧ 0 < (ap3 H k i).u := by
  rw [(ap_share hk).2]
  unfold moreS
  rw [apH_in H hi]
  exact ⟨rfl, by show 0 < 1 + _; omega⟩
theorem ap3_k (hk : k < 10) : (ap3 H k k).u = 3 := by
  rw [(ap_share hk).2]
  unfold moreS
  rw [apH_in H hk, ap_cnt2]
theorem ap_put3 (hk : k < 10) : putE 10 (ap3 H k) (k : Int) = 7 := by
  rw [putE_in (by rw [is_nat hk]; exact decide_eq_true (ap3_at hk hk).2), ap3_k hk]
  rfl
theorem ap_drop (hk : k < 10) : dropE 10 (ap3 H k) [(k : Int)] = 0 ∧ ap2 H k = dropJ (ap3 H k) [(k : Int)] := by
  have hb : dropB 10 (ap3 H k) [(k : Int)] = true := drop_iff.2 fun x hx => by
    rw [List.mem_singleton.1 hx, Int.toNat_natCast, ap_cnt1, ap3_k hk]
    exact ⟨by rw [is_nat hk]; exact decide_eq_true (ap3_at hk hk).2, by omega⟩
  exact ⟨if_pos hb, if_pos hb⟩
theorem ap2_k (hk : k < 10) : usrI 10 (ap2 H k) (k : Int) = 2 := by
  rw [← at_usr, at_in hk, (ap_drop hk).2, dropJ_u, ap_cnt1, ap3_k hk]
theorem ap2_at (hk : k < 10) {i : Nat} (hi : i < 10) : (ap2 H k i).l = (H i).map entX ∧ 0 < (ap2 H k i).u := by
  have hu : 0 < (ap2 H k i).u := by
    rw [(ap_drop hk).2, dropJ_u]
    by_cases e : i = k
    · rw [e, ap_cnt1, ap3_k hk]; omega
    · have h0 : cntI [(k : Int)] i = 0 := cnt_none fun hm => e (by have := List.mem_singleton.1 hm; omega)
      rw [h0]
      exact (ap3_at hk hi).2
  refine ⟨?_, hu⟩
  rw [(ap_drop hk).2] at hu ⊢
  unfold dropJ clrS at hu ⊢
  split at hu <;> rename_i h0
  · cases hu
  · rw [if_neg h0]
    exact (ap3_at hk hi).1
theorem ap3_bnd (_ : k < 10) : Bnd (ap3 H k) 1000000 := (bnd_share (apH_bnd H) [(k : Int), (k : Int)]).le (by show 1 + 2 ≤ 1000000; omega)
theorem ap2_get (hk : k < 10) {i : Nat} (hi : i < 10) : getL 10 (ap2 H k) [(i : Int)] = (H i).map entX := apH_get H hi (ap2_at hk hi).2 (ap2_at hk hi).1
end
/-! What was got, while it is told one by one -/
structure Lr (N : Nat) (W : World) (A : Option Addr) (m c : Nat) (R : List (Er × Ent)) (e : Nat) : Prop where
  own : W.ownsRow N 36 2 (.slice A m c) m (eCs R)
  rest : ∀ (i : Nat) (q : Er × Ent), e ≤ i → R[i]? = some q → EOn (fun j => N ≤ j ∧ (Value.slice A m c).ownBlock ≠ some j) W q.1 q.2 ∧ UfE W q.1 q.2
  sep : Sep R
section
variable {N : Nat} {W W' : World} {A : Option Addr} {m c : Nat} {R : List (Er × Ent)} {e : Nat}
theorem Lr.step (h : Lr N W A m c R e) (hb : Below W.heap.size W W') : Lr N W' A m c R e :=
  ⟨Sp.own_moved h.own fun k hk => hb.block k (h.own.lt k hk).2, fun i q h1 h2 => ⟨(h.rest i q h1 h2).1.below hb, (h.rest i q h1 h2).2.below hb⟩, h.sep⟩
/-- A store into a row of the one that was told. -/
theorem Lr.store (h : Lr N W A m c R e) {r : Er} {x : Ent} (hr : R[e]? = some (r, x)) {b : Nat} (hb : ∃ k, k < x.vs.length ∧ 0 < (x.vs.getD k []).length ∧ ∃ a, r.vB k = some a ∧ a.block = b) (i : Nat) (v : Value) : Lr N (W.setCell ⟨b, i, none⟩ v) A m c R (e + 1) ∧ N ≤ b := by
  obtain ⟨k, hk, h0, a, ha, rfl⟩ := hb
  have h1 := (h.rest e _ (Nat.le_refl e) hr).1.v.there k hk h0 a ha
  have ho : ∀ j, j ≠ a.block → (W.setCell ⟨a.block, i, none⟩ v).heap[j]? = W.heap[j]? := fun j hj => heap_setCell_other _ ⟨a.block, i, none⟩ j _ hj
  refine ⟨⟨Sp.own_moved h.own fun j hj => ho j fun e2 => h1.2 (e2 ▸ hj), fun i2 q h2 h3 => ?_, h.sep⟩, h1.1⟩
  obtain ⟨M, l1, l2⟩ := h.sep e i2 _ q (by omega) hr h3
  have hM : a.block < M := l1.vs k hk h0 a ha
  obtain ⟨e1, u1⟩ := h.rest i2 q (by omega) h3
  exact ⟨((l2.on e1).moved fun j hj => ho j (by have := hj.1; omega)).mono fun j hj => hj.2, u1.kept l2 fun j hj => ho j (by omega)⟩
end
end Pg
/-- What holds behind each step may be more than what is asked. -/
theorem wpAnyH_more {P : Program} {md : Region.Mode} {ops : Array Oper} {Q : Exit → Act → World → Prop} {S S' : World → Prop} (hS : ∀ w, S' w → S w) : ∀ (fuel : Nat) (listed : Array Bool) (a : Act) (w : World), wpAnyH P md ops Q S' fuel listed a w → wpAnyH P md ops Q S fuel listed a w
  | 0, _, _, _, h => h
  | fuel + 1, _, _, _, h => ⟨h.1, fun i hi => wpOp_mono (fun a' w' h' => ⟨hS w' h'.1, wpAnyH_more hS fuel _ a' w' h'.2⟩) (h.2 i hi)⟩
end Go.Proofs.Ytlapinecmiacoaa
namespace Go.Proofs.Ytlapinecmiacoaa
open Go.ChangeShapes Go.WideShapes Go.ChangeAt Go.RowKit Nm Cf Vc Sp Pg

theorem info_pageR : (Try.prog.info? 49).map (fun i => (i.zero, i.size, i.bytes)) = some (some (.agg #[.int .i64 0, .int .i64 0, .slice none 0 0]), 3, 40) := by kernel_rfl
set_option maxRecDepth 100000 in
set_option maxHeartbeats 400000 in
theorem ref22_new (w : World) (n : Nat) (h1 : 1 ≤ n) (h2 : n ≤ 64) : Calls Try.prog 8 #[.int .i64 (n : Int)] w fun e w' => ∃ D F, e = .returned (.pointer (some ⟨D, 0, none⟩)) ∧ Rl F w' D n (fun _ => fr) ∧ (∀ k, F k → w.heap.size ≤ k) ∧ Below w.heap.size w w' := by
  obtain ⟨i0, hi0, hz0, hz1, hz2⟩ := info_parts info_pageR
  have hmk : ∀ W, (Instr.makeSlice 50 (.int .i64 (n : Int)) (.int .i64 (n : Int))).run Try.prog W = .ok (.slice (some ⟨W.heap.size, 0, none⟩) n n) (W.alloc (.cells (madeCells #[.int .i64 0, .int .i64 0, .slice none 0 0] (n * 3)) 49)) := fun W => by
    have h := run_make (P := Try.prog) W 50 49 i0 (.agg #[.int .i64 0, .int .i64 0, .slice none 0 0]) Try.underlying50 hi0 hz0 .i64 .i64 (n : Int) (n : Int) (by omega) (by omega) (by rw [hz2]; omega) (by omega)
    rw [hz1, Int.toNat_natCast] at h
    exact h
  clear hi0 hz0 hz1 hz2
  go_enter Try.func8, Try.ntmps8
  go_wp2_with (fail)
  refine bodyPost_ret (results_tmp rfl _ _ _) rfl ?_
  exact ⟨w.heap.size + 1, _, rfl, ⟨w.heap.size, n, _, _, plx_new _ _ _ w n h1 h2⟩, fun k hk => by omega, ((Below.refl _ _).alloc (Nat.le_refl _) _).alloc (by simp) _⟩
set_option maxRecDepth 100000 in
set_option maxHeartbeats 400000 in
theorem ref22_is {F : Nat → Prop} {w : World} {D n : Nat} {P : Nat → Page Ent} (h : Rl F w D n P) (x : Int) : Calls Try.prog 17 #[.pointer (some ⟨D, 0, none⟩), .int .i64 x] w fun e w' => e = .returned (.bool (isP n P x)) ∧ w = w' := by
  obtain ⟨b, cap, G, Q, h⟩ := h
  have k0 := h.cD
  by_cases hx : 0 ≤ x
  · obtain ⟨i, rfl⟩ : ∃ i : Nat, x = (i : Int) := ⟨x.toNat, by omega⟩
    have t0 : decide ((0 : Int) ≤ (i : Int)) = true := decide_eq_true (by omega)
    by_cases hi : i < n
    · have t1 : decide ((i : Int) < (n : Int)) = true := decide_eq_true (by omega)
      have x0 : (i : Int) < (n : Int) := by omega
      have x2 : 0 ≤ (i : Int) := by omega
      have k1 := h.row.c1 hi
      rw [is_nat hi]
      generalize (P i).u = u at *
      have HE := Lib.hid (show decide ((0 : Int) < (u : Int)) = decide (0 < u) by by_cases hu : 0 < u <;> simp [hu])
      clear h hi hx
      go_enter Try.func17, Try.ntmps17
      go_wp2_with (fail)
      refine bodyPost_ret (results_tmp rfl _ _ _) rfl ?_
      exact ⟨by first | rfl | (rw [← HE.out]; rfl) | simp, rfl⟩
    · have t1 : decide ((i : Int) < (n : Int)) = false := decide_eq_false (by omega)
      have x0 : ¬ (i : Int) < (n : Int) := by omega
      have HE := Lib.hid (show isP n P (i : Int) = false by unfold isP; rw [t1, Bool.false_and, Bool.and_false])
      rw [HE.out]
      clear h hi hx
      go_enter Try.func17, Try.ntmps17
      go_wp2_with (fail)
      exact bodyPost_ret (results_tmp rfl _ _ _) rfl ⟨rfl, rfl⟩
  · have t0 : decide (0 ≤ x) = false := decide_eq_false hx
    have HE := Lib.hid (show isP n P x = false by unfold isP; rw [t0, Bool.false_and])
    rw [HE.out]
    clear h hx
    go_enter Try.func17, Try.ntmps17
    go_wp2_with (fail)
    exact bodyPost_ret (results_tmp rfl _ _ _) rfl ⟨rfl, rfl⟩
set_option maxRecDepth 100000 in
set_option maxHeartbeats 800000 in
theorem ref22_free {F : Nat → Prop} {w : World} {D n : Nat} {P : Nat → Page Ent} (h : Rl F w D n P) : Calls Try.prog 23 #[.pointer (some ⟨D, 0, none⟩)] w fun e w' => e = .returned (.int .i64 (freeN P n : Nat)) ∧ w = w' := by
  obtain ⟨b, cap, G, Q, h⟩ := h
  have hn := h.few
  have HX := Lib.hid h
  have k0 := h.cD
  clear h
  go_enter Try.func23, Try.ntmps23
  go_wp2_with (fail)
  go_loopw [3, 4] (fun s i wr => ∃ j : Nat, i = .int .i64 (j : Int) ∧ j ≤ n ∧ s = .int .i64 (freeN P j : Nat) ∧ w = wr) (fun _ i _ => match i with | .int _ k => n - k.toNat | _ => 0)
  case atStart => exact ⟨0, rfl, Nat.zero_le _, rfl, rfl⟩
  case round =>
    obtain ⟨j, rfl, hj, rfl, rfl⟩ := hrel
    have hf := free_le P j
    have x2 : 0 ≤ (j : Int) := by omega
    by_cases hlt : j < n
    · have x0 : (j : Int) < (n : Int) := by omega
      have x1 : decide ((j : Int) < (n : Int)) = true := decide_eq_true x0
      have HJ := Lib.hid (show j + 1 ≤ n by omega)
      have HN := Lib.hid (show freeN P (j + 1) = freeN P j + if (P j).u = 0 then 1 else 0 from rfl)
      have k1 := HX.out.row.c1 hlt
      have x3 := IntWalk.wrap64_in ((j : Int) + 1) (by omega)
      have x4 := IntWalk.wrap64_in (((freeN P j : Nat) : Int) + 1) (by omega)
      by_cases hu : (P j).u = 0
      · have t0 : (((P j).u : Int) == 0) = true := by rw [hu]; rfl
        have HN2 := Lib.hid (show freeN P (j + 1) = freeN P j + 1 from HN.out.trans (by rw [if_pos hu]))
        generalize (P j).u = u at *
        clear hlt hu
        go_wp2_with (fail)
        exact ⟨⟨j + 1, rfl, HJ.out, by rw [HN2.out]; rfl, by trivial⟩, vc_less j n HJ.out⟩
      · have t0 : (((P j).u : Int) == 0) = false := beq_eq_false_iff_ne.2 (by omega)
        have HN2 := Lib.hid (show freeN P (j + 1) = freeN P j from HN.out.trans (by rw [if_neg hu, Nat.add_zero]))
        generalize (P j).u = u at *
        clear hlt hu
        go_wp2_with (fail)
        exact ⟨⟨j + 1, rfl, HJ.out, by rw [HN2.out], by trivial⟩, vc_less j n HJ.out⟩
    · have hke : j = n := by omega
      subst hke
      have x0 : ¬ (j : Int) < (j : Int) := by omega
      have x1 : decide ((j : Int) < (j : Int)) = false := decide_eq_false x0
      go_wp2_with (fail)
      exact bodyPost_ret (results_tmp rfl _ _ _) rfl ⟨rfl, rfl⟩
set_option maxRecDepth 100000 in
set_option maxHeartbeats 800000 in
theorem ref22_take {F : Nat → Prop} {w : World} {D n : Nat} {P : Nat → Page Ent} (h : Rl F w D n P) (v : Int) :
    Calls Try.prog 16 #[.pointer (some ⟨D, 0, none⟩), .int .i64 v] w fun e w' => e = .returned (.tuple #[.int .i64 (takeI n P v), .int .i64 (takeE n P v)]) ∧ TurnsR F w D n (takeS n P v) w' := by
  by_cases hv : verP v = true
  case neg =>
    have HI := Lib.hid (show takeI n P v = 0 from if_neg fun h => hv h.1)
    have HE := Lib.hid (show takeE n P v = 1 from if_neg hv)
    have HS := Lib.hid (show takeS n P v = P from if_neg fun h => hv h.1)
    have HL := Lib.hid (show TurnsR F w D n P w from ⟨F, h, fun _ => .inl, Turn.refl _ _⟩)
    rw [HI.out, HE.out, HS.out]
    have hv2 : ¬ (1 ≤ v ∧ v ≤ 2147483647) := fun h => hv (ver_iff.2 h)
    clear HI HE HS h
    by_cases h1 : v < 1
    · have t0 : decide (v < 1) = true := decide_eq_true h1
      go_enter Try.func16, Try.ntmps16
      go_wp2_with (fail)
      exact bodyPost_ret (results_tmp2 rfl _ _ _) rfl ⟨rfl, HL.out⟩
    · have t0 : decide (v < 1) = false := decide_eq_false h1
      have t1 : decide (2147483647 < v) = true := decide_eq_true (by omega)
      go_enter Try.func16, Try.ntmps16
      go_wp2_with (fail)
      exact bodyPost_ret (results_tmp2 rfl _ _ _) rfl ⟨rfl, HL.out⟩
  obtain ⟨b, cap, G, Q, hX⟩ := h
  have hv2 := ver_iff.1 hv
  have t0 : decide (v < 1) = false := decide_eq_false (by omega)
  have t1 : decide (2147483647 < v) = false := decide_eq_false (by omega)
  have HX := Lib.hid hX
  have HV := Lib.hid hv
  have hn := hX.few
  have k0 := hX.cD
  have HIT := Lib.hid (inv_take hX.inv v)
  clear hX hv hv2
  go_enter Try.func16, Try.ntmps16
  go_wp2_with (fail)
  go_loopw [6] (fun i wr => ∃ j : Nat, i = .int .i64 (j : Int) ∧ j ≤ n ∧ w = wr ∧ ∀ i, i < j → (P i).u ≠ 0) (fun i _ => match i with | .int _ k => n - k.toNat | _ => 0)
  case atStart => exact ⟨0, rfl, Nat.zero_le _, rfl, fun i hi => absurd hi (Nat.not_lt_zero _)⟩
  case round =>
    obtain ⟨j, rfl, hj, rfl, hno⟩ := hrel
    have HNO := Lib.hid hno
    have x2 : 0 ≤ (j : Int) := by omega
    clear hno
    by_cases hlt : j < n
    · have x0 : (j : Int) < (n : Int) := by omega
      have x1 : decide ((j : Int) < (n : Int)) = true := decide_eq_true x0
      have HJ := Lib.hid (show j + 1 ≤ n by omega)
      have k1 := HX.out.row.c0 hlt
      have k2 := HX.out.row.c1 hlt
      have k3 := HX.out.row.c2 hlt
      have f0 := HX.out.row.fz
      have x3 := IntWalk.wrap64_in ((j : Int) + 1) (by omega)
      by_cases hu : (P j).u = 0
      · have t2 : (((P j).u : Int) == 0) = true := by rw [hu]; rfl
        have hlo := low_at hlt hu HNO.out
        have HI := Lib.hid (show takeI n P v = (j : Int) from by unfold takeI; rw [hlo, if_pos ⟨HV.out, hlt⟩])
        have HE := Lib.hid (show takeE n P v = 0 from by unfold takeE; rw [hlo, if_pos HV.out, if_pos hlt])
        have HS := Lib.hid (show takeS n P v = updP P j ⟨v, 1, []⟩ from by unfold takeS; rw [hlo, if_pos ⟨HV.out, hlt⟩])
        have HPP := Lib.hid (plx_page HX.out v 1 (HS.out ▸ HIT.out))
        generalize (P j).u = u at *
        generalize (P j).v = v1 at *
        clear hlt hu hlo
        go_wp2_with (fail)
        refine bodyPost_ret (results_tmp2 rfl _ _ _) rfl ?_
        rw [HI.out, HE.out, HS.out]
        exact ⟨rfl, F, ⟨b, cap, _, _, HPP.out.1⟩, fun _ => .inl, HPP.out.2⟩
      · have t2 : (((P j).u : Int) == 0) = false := beq_eq_false_iff_ne.2 (by omega)
        have HN2 := Lib.hid (show ∀ i, i < j + 1 → (P i).u ≠ 0 from fun i hi => by
          by_cases e : i = j
          · rw [e]; exact hu
          · exact HNO.out i (by omega))
        generalize (P j).u = u at *
        generalize (P j).v = v1 at *
        clear hlt hu
        go_wp2_with (fail)
        exact ⟨⟨j + 1, rfl, HJ.out, by trivial, HN2.out⟩, vc_less j n HJ.out⟩
    · have hke : j = n := by omega
      subst hke
      have x0 : ¬ (j : Int) < (j : Int) := by omega
      have x1 : decide ((j : Int) < (j : Int)) = false := decide_eq_false x0
      have hlo := low_none HNO.out
      have HI := Lib.hid (show takeI j P v = 0 from by unfold takeI; rw [hlo, if_neg fun h => Nat.lt_irrefl _ h.2])
      have HE := Lib.hid (show takeE j P v = 11 from by unfold takeE; rw [hlo, if_pos HV.out, if_neg (Nat.lt_irrefl _)])
      have HS := Lib.hid (show takeS j P v = P from by unfold takeS; rw [hlo, if_neg fun h => Nat.lt_irrefl _ h.2])
      clear hlo
      go_wp2_with (fail)
      refine bodyPost_ret (results_tmp2 rfl _ _ _) rfl ?_
      rw [HI.out, HE.out, HS.out]
      exact ⟨rfl, F, ⟨b, cap, G, Q, HX.out⟩, fun _ => .inl, Turn.refl _ _⟩
end Go.Proofs.Ytlapinecmiacoaa
namespace Go.Proofs.Ytlapinecmiacoaa
open Go.ChangeShapes Go.WideShapes Go.ChangeAt Go.RowKit Nm Cf Vc Sp Pg

namespace Pg
/-- One user more, or less. -/
def byI (ad : Bool) : Int := if ad = true then 1 else -1
def useS (ad : Bool) (P : Nat → Page Ent) (xs : List Int) : Nat → Page Ent := if ad = true then moreS P xs else fewS P xs
def useB (ad : Bool) (n : Nat) (P : Nat → Page Ent) (xs : List Int) : Bool := if ad = true then shareB n P xs else dropB n P xs
def useE (ad : Bool) (n : Nat) (P : Nat → Page Ent) (xs : List Int) : Int := if useB ad n P xs = true then 0 else 8
def useR (ad : Bool) (n : Nat) (P : Nat → Page Ent) (xs : List Int) : Nat → Page Ent := if useB ad n P xs = true then clrS (useS ad P xs) else P
section
variable {ad : Bool} {n : Nat} {P : Nat → Page Ent} {xs : List Int}
theorem use_fail (e : useB ad n P xs = false) : useE ad n P xs = 8 ∧ useR ad n P xs = P := ⟨if_neg (by rw [e]; decide), if_neg (by rw [e]; decide)⟩
theorem use_good (e : useB ad n P xs = true) : useE ad n P xs = 0 ∧ useR ad n P xs = clrS (useS ad P xs) := ⟨if_pos e, if_pos e⟩
theorem use_l (i : Nat) : (useS ad P xs i).l = (P i).l ∧ (useS ad P xs i).v = (P i).v := by
  unfold useS
  cases ad <;> exact ⟨rfl, rfl⟩
theorem use_none : useS ad P [] = P := by
  unfold useS
  cases ad
  · funext i; exact (show ({ P i with u := (P i).u - 0 } : Page Ent) = P i from rfl)
  · exact more_none P
theorem use_next {j i : Nat} (hj : j < xs.length) (hx : xs[j] = (i : Int)) {u2 : Nat} (hu : (u2 : Int) = ((useS ad P (xs.take j) i).u : Int) + byI ad) : useS ad P (xs.take (j + 1)) = updP (useS ad P (xs.take j)) i { useS ad P (xs.take j) i with u := u2 } := by
  cases ad with
  | true =>
    have h1 : u2 = (moreS P (xs.take j) i).u + 1 := by
      have : (u2 : Int) = ((moreS P (xs.take j) i).u : Int) + 1 := hu
      omega
    show moreS P (xs.take (j + 1)) = updP (moreS P (xs.take j)) i { moreS P (xs.take j) i with u := u2 }
    rw [h1]
    exact more_next hj hx
  | false =>
    have h1 : (u2 : Int) = ((fewS P (xs.take j) i).u : Int) + -1 := hu
    show fewS P (xs.take (j + 1)) = updP (fewS P (xs.take j)) i { fewS P (xs.take j) i with u := u2 }
    funext k
    by_cases e : k = i
    · rw [e, upd_at]
      have h2 : u2 = (P i).u - cntI (xs.take (j + 1)) i := by
        have h3 : (fewS P (xs.take j) i).u = (P i).u - cntI (xs.take j) i := rfl
        rw [cnt_take hj, if_pos hx]
        rw [h3] at h1
        omega
      rw [h2]
      rfl
    · have hc : cntI (xs.take (j + 1)) k = cntI (xs.take j) k := by rw [cnt_take hj, if_neg (by rw [hx]; omega), Nat.add_zero]
      rw [upd_off _ e]
      unfold fewS
      rw [hc]
theorem use_ok {j i : Nat} (hj : j < xs.length) (hx : xs[j] = (i : Int)) (hp : isP n P (i : Int) = true) (hb : useB ad n P (xs.take j) = true) (hu : 0 ≤ ((useS ad P (xs.take j) i).u : Int) + byI ad) : useB ad n P (xs.take (j + 1)) = true := by
  rw [← hx] at hp
  cases ad with
  | true => exact share_next hj hb hp
  | false =>
    have h1 : 0 ≤ ((fewS P (xs.take j) i).u : Int) + -1 := hu
    have h3 : (fewS P (xs.take j) i).u = (P i).u - cntI (xs.take j) i := rfl
    rw [h3] at h1
    exact drop_next hj hb hp (by rw [hx, Int.toNat_natCast]; omega)
theorem use_not {j : Nat} (hj : j < xs.length) (h : isP n P xs[j] = false ∨ ∃ i : Nat, xs[j] = (i : Int) ∧ ((useS ad P (xs.take j) i).u : Int) + byI ad < 0) : useB ad n P xs = false := by
  cases ad with
  | true =>
    rcases h with h | ⟨i, _, h⟩
    · exact share_not hj h
    · have : ((moreS P (xs.take j) i).u : Int) + 1 < 0 := h
      omega
  | false =>
    refine drop_not hj ?_
    rcases h with h | ⟨i, hx, h⟩
    · exact .inl h
    · right
      have h1 : ((fewS P (xs.take j) i).u : Int) + -1 < 0 := h
      have h3 : (fewS P (xs.take j) i).u = (P i).u - cntI (xs.take j) i := rfl
      rw [h3] at h1
      rw [hx, Int.toNat_natCast]
      omega
theorem use_bnd {k : Nat} (h : Bnd P k) : Bnd (useS ad P xs) (k + xs.length) := fun i => by
  cases ad with
  | true =>
    have h1 := h i
    have h2 := cnt_le xs i
    show (P i).u + cntI xs i ≤ _
    omega
  | false =>
    have h1 := h i
    show (P i).u - cntI xs i ≤ _
    omega
theorem inv_clr (h : Inv n P) (xs : List Int) (hb : useB ad n P xs = true) : Inv n (clrS (useS ad P xs)) := by
  cases ad with
  | false => exact inv_dropJ h xs
  | true =>
    have h1 := inv_share h xs
    rw [show shareS n P xs = moreS P xs from if_pos hb] at h1
    refine ⟨fun i hi hu => ?_, fun i hi hu => ?_, fun i hi => ?_⟩
    all_goals have hc : clrS (useS true P xs) i = moreS P xs i := clr_inv h1 hi
    · rw [hc] at hu ⊢; exact h1.free i hi hu
    · rw [hc] at hu ⊢; exact h1.ver i hi hu
    · rw [hc]; exact h1.few i hi
/-- The pages while those without users are cleared. -/
def clrJ (U : Nat → Page Ent) (j i : Nat) : Page Ent := if i < j then clrS U i else U i
def clrG (U : Nat → Page Ent) (G : Nat → Value) (j i : Nat) : Value := if i < j ∧ (U i).u = 0 then .slice none 0 0 else G i
theorem clrJ_at (U : Nat → Page Ent) (j : Nat) : clrJ U j j = U j := if_neg (Nat.lt_irrefl j)
end
section
variable {tP tG tE : TypeId} {F : Nat → Prop} {w wr : World} {D b cap n g c : Nat} {P U : Nat → Page Ent} {G : Nat → Value} {Q : Nat → List (Er × Ent)}
theorem row_clear {t : TypeId} {j : Nat} (h : PRow w g t n (clrJ U j) (clrG U G j)) (hu : (U j).u = 0) : PRow (((w.setCell ⟨g, j * 3, none⟩ (.int .i64 0)).setCell ⟨g, j * 3 + 1, none⟩ (.int .i64 0)).setCell ⟨g, j * 3 + 2, none⟩ (.slice none 0 0)) g t n (clrJ U (j + 1)) (clrG U G (j + 1)) := by
  refine (h.setAll (k := j) 0 0 [] (.slice none 0 0)).congr (fun i _ => ?_) fun i _ => ?_
  · by_cases e : i = j
    · rw [e, upd_at]
      unfold clrJ clrS
      rw [if_pos (Nat.lt_succ_self j), if_pos hu]
      exact ⟨rfl, rfl⟩
    · rw [upd_off _ e]
      unfold clrJ
      by_cases h2 : i < j
      · rw [if_pos h2, if_pos (by omega)]; exact ⟨rfl, rfl⟩
      · rw [if_neg h2, if_neg (by omega)]; exact ⟨rfl, rfl⟩
  · by_cases e : i = j
    · rw [e, updG_at]
      unfold clrG
      rw [if_pos ⟨Nat.lt_succ_self j, hu⟩]
    · rw [updG_off _ _ e]
      unfold clrG
      by_cases h2 : i < j ∧ (U i).u = 0
      · rw [if_pos h2, if_pos ⟨by omega, h2.2⟩]
      · rw [if_neg h2, if_neg fun h3 => h2 ⟨by omega, h3.2⟩]
theorem row_skip {t : TypeId} {j : Nat} (h : PRow w g t n (clrJ U j) (clrG U G j)) (hu : (U j).u ≠ 0) : PRow w g t n (clrJ U (j + 1)) (clrG U G (j + 1)) := by
  refine h.congr (fun i _ => ?_) fun i _ => ?_
  · unfold clrJ clrS
    by_cases e : i = j
    · rw [e, if_pos (Nat.lt_succ_self j), if_neg hu, if_neg (Nat.lt_irrefl j)]; exact ⟨rfl, rfl⟩
    · by_cases h2 : i < j
      · rw [if_pos h2, if_pos (by omega)]; exact ⟨rfl, rfl⟩
      · rw [if_neg h2, if_neg (by omega)]; exact ⟨rfl, rfl⟩
  · unfold clrG
    by_cases e : i = j
    · rw [e, if_neg fun h3 => hu h3.2, if_neg fun h3 => hu h3.2]
    · by_cases h2 : i < j ∧ (U i).u = 0
      · rw [if_pos h2, if_pos ⟨by omega, h2.2⟩]
      · rw [if_neg h2, if_neg fun h3 => h2 ⟨by omega, h3.2⟩]
/-- A pool takes the row that was made for it. -/
theorem plx_used (h : PlX tP tG tE F w D b cap n P G Q) (hs : w.heap.size ≤ wr.heap.size) (hk : ∀ k, F k → wr.heap[k]? = w.heap[k]?) (hg : w.heap.size ≤ g) (hr : PRow wr g tG n (clrJ U n) (clrG U G n)) (hl : ∀ i, (U i).l = (P i).l) (hinv : Inv n (clrS U)) :
    PlX tP tG tE (fun k => F k ∨ k = g) (wr.setCell ⟨D, 0, none⟩ (.slice (some ⟨g, 0, none⟩) n c)) D g c n (clrS U) (clrG U G n) (fun i => if (U i).u = 0 then [] else Q i) := by
  have hX := h.kept hs hk
  have hD := h.lt D h.FD
  have hne : D ≠ g := by omega
  have ho : ∀ j, j ≠ D → (wr.setCell ⟨D, 0, none⟩ (.slice (some ⟨g, 0, none⟩) n c)).heap[j]? = wr.heap[j]? := fun j hj => heap_setCell_other _ ⟨D, 0, none⟩ j _ hj
  refine ⟨heap_setCell_same wr D 0 _ _ _ hX.pool, (hr.congr (fun i hi => ?_) fun _ _ => rfl).kept (ho g fun e => hne e.symm), ((hX.es.kept fun k _ hn _ => ho k fun e => hn (.inl e)).less (fun i => decide ((U i).u = 0)) (fun i hi => ?_) fun i hi => ?_).weak fun k h1 h2 h3 => ⟨.inl h1, fun e => ?_⟩, fun i hi => ?_, hne, .inl h.FD, .inr rfl, fun k hk2 => ?_, h.few, hinv, fun i hi e he => ?_⟩
  · unfold clrJ; rw [if_pos hi]; exact ⟨rfl, rfl⟩
  · unfold clrG
    by_cases hu : (U i).u = 0
    · rw [if_pos ⟨hi, hu⟩, if_pos (decide_eq_true hu)]
    · rw [if_neg fun h3 => hu h3.2, if_neg (by simp [hu])]
  · by_cases hu : (U i).u = 0
    · rw [if_pos hu, if_pos (decide_eq_true hu)]
    · rw [if_neg hu, if_neg (by simp [hu])]
  · rcases e with e | e
    · exact h2 (.inl e)
    · have := h.lt k h1; omega
  · unfold clrS
    by_cases hu : (U i).u = 0
    · rw [if_pos hu, if_pos hu]; rfl
    · rw [if_neg hu, if_neg hu, hl i]; exact h.same i hi
  · have : k < wr.heap.size := by
      rcases hk2 with h1 | h1
      · exact hX.lt k h1
      · rw [h1]; exact hr.lt
    simpa using this
  · unfold clrS at he
    by_cases hu : (U i).u = 0
    · rw [if_pos hu] at he; exact absurd he (by simp [fr])
    · rw [if_neg hu, hl i] at he; exact h.sized i hi e he
end
/-- What Use makes of a row while its list is walked. -/
structure Uj (ad : Bool) (w2 : World) (g n : Nat) (P : Nat → Page Ent) (G : Nat → Value) (xs : List Int) (j : Nat) (wr : World) : Prop where
  ok : useB ad n P (xs.take j) = true
  row : PRow wr g 49 n (useS ad P (xs.take j)) G
  turn : Turn (· = g) w2 wr
end Pg
set_option maxRecDepth 100000 in
set_option maxHeartbeats 6400000 in
theorem ref22_use (ad : Bool) {F : Nat → Prop} {w : World} {D n : Nat} {P : Nat → Page Ent} (h : Rl F w D n P) (B : Option Addr) (m c0 : Nat) (xs : List Int) (hm : xs.length = m) (hm2 : m ≤ 1000) (hX : KIn .i64 w B xs) (hu : Bnd P 1000000) :
    Calls Try.prog 10 #[.pointer (some ⟨D, 0, none⟩), .slice B m c0, .int .i64 (byI ad)] w fun e w' => e = .returned (.int .i64 (useE ad n P xs)) ∧ TurnsR F w D n (useR ad n P xs) w' := by
  have HR0 := Lib.hid h
  obtain ⟨b, cap, G, Q, hPX⟩ := h
  obtain ⟨i0, hi, hz0, hz1, hz2⟩ := info_parts info_pageR
  have HI := Lib.hid hi
  have HZ0 := Lib.hid hz0
  have HZ1 := Lib.hid hz1
  have HZ2 := Lib.hid hz2
  have hn := hPX.few
  have HLN := Lib.hid (pcs_length (P := P) (G := G) (n := n))
  have HO1 := Lib.hid (pcs_one (P := P) (n := n) fun i hi => by
    obtain ⟨A, c, e⟩ := hPX.slice hi
    exact ⟨A, _, c, e⟩)
  have HXA := Lib.hid (hPX.step ((Below.refl w.heap.size w).alloc (Nat.le_refl _) (.cells #[] 49)))
  have HSRC := Lib.hid HXA.out.row.src
  have HOWN := Lib.hid (show (w.alloc (.cells #[] 49)).ownsRow w.heap.size 49 3 (.slice (some ⟨w.heap.size, 0, none⟩) 0 0) 0 [] from World.ownsRow_made w #[] 0 (Nat.le_refl _) (Nat.zero_le _) rfl)
  have HPX := Lib.hid hPX
  have HX := Lib.hid hX
  have HU := Lib.hid hu
  have HM := Lib.hid hm
  have HBY := Lib.hid (show -1 ≤ byI ad ∧ byI ad ≤ 1 by unfold byI; split <;> omega)
  have kA := HXA.out.cD
  clear hi hz0 hz1 hz2 hPX hX hu hm
  go_enter Try.func10, Try.ntmps10
  go_wp2_with (first
    | (with_reducible refine wpList_buildNone rfl 50 49 rfl i0 Try.underlying50 HI.out ?_)
    | (at_builtin; refine wpList_append_lies _ rfl (.tmp 10) (.tmp 14) 50 rfl w.heap.size 49 i0 _ 3 40 Try.underlying50 HI.out HZ0.out HZ1.out HZ2.out rfl (by omega) (.slice (some ⟨w.heap.size, 0, none⟩) 0 0) 0 [] rfl HOWN.out ⟨b, 0, none⟩ n cap (pcs P G n) rfl HLN.out HSRC.out HO1.out (by omega) (by unfold maxLen; omega) (by omega) (by simp) _ rfl ?_; intro g gc w2 hown2 hg2 _ _))
  rw [Nat.zero_add, List.nil_append] at hown2
  have hb2 := ((Below.refl w.heap.size w).alloc (Nat.le_refl _) (.cells #[] 49)).grown hg2 (by simp) (fun k hk => by
    have : k = w.heap.size := by simpa [Value.ownBlock] using hk.symm
    omega)
  obtain ⟨hrow, hgw⟩ := prow_of hown2
  have HB2 := Lib.hid hb2
  have HROW := Lib.hid hrow
  have HG := Lib.hid hgw
  clear hown2 hg2 hb2 hrow hgw HSRC HOWN HLN HO1 HI HZ0 HZ1 HZ2 kA HXA
  try rw [Nat.zero_add]
  go_loopw [8] (fun i wr => ∃ j : Nat, i = .int .i64 (j : Int) ∧ j ≤ m ∧ Uj ad w2 g n P G xs j wr) (fun i _ => match i with | .int _ k => m - k.toNat | _ => 0)
  case atStart => exact ⟨0, rfl, Nat.zero_le _, ⟨by cases ad <;> rfl, by rw [List.take_zero, use_none]; exact HROW.out, Turn.refl _ _⟩⟩
  case round =>
    obtain ⟨j, rfl, hj, hd⟩ := hrel
    have HD := Lib.hid hd
    have x2 : 0 ≤ (j : Int) := by omega
    clear hd
    have HFK := Lib.hid (show ∀ k, k < w.heap.size → wr.heap[k]? = w.heap[k]? from fun k hk => by
      have h1 := HG.out
      exact (HD.out.turn.block k (Nat.lt_of_lt_of_le hk HB2.out.size) (by omega)).trans (HB2.out.block k hk))
    have HKX := Lib.hid (show KIn .i64 wr B xs from KIn.moved HX.out (KIn.low' HX.out) fun k hk => HFK.out k hk)
    have HTW := Lib.hid (show Turn F w wr from (Turn.of_below F HB2.out).trans HD.out.turn fun k hk => .inr (by have := HG.out; omega))
    have HRW := Lib.hid (show Rl F wr D n P from HR0.out.kept HTW.out.size fun k hk => HFK.out k (HR0.out.lt k hk))
    by_cases hlt : j < m
    · have x0 : (j : Int) < (m : Int) := by omega
      have x1 : decide ((j : Int) < (m : Int)) = true := decide_eq_true x0
      have HJ := Lib.hid (show j + 1 ≤ m by omega)
      have hjl : j < xs.length := by rw [HM.out]; exact hlt
      obtain ⟨pa, oa, rfl, hc1⟩ := HKX.out.at hjl
      rw [List.getD_eq_getElem?_getD, List.getElem?_eq_getElem hjl, show (some xs[j]).getD 0 = xs[j] from rfl] at hc1
      have HIS := Lib.hid (fun x => ref22_is HRW.out x)
      cases hp : isP n P xs[j] with
      | false =>
        have HE := Lib.hid (use_fail (use_not (n := n) (ad := ad) hjl (.inl hp)))
        have HIX := Lib.hid (HIS.out xs[j])
        rw [hp] at HIX
        generalize xs[j] = x at *
        clear hp hlt hjl HIS
        go_wp2_with (go_at_call 17; refine HIX.out.mono ?_; rintro e w3 ⟨rfl, rfl⟩)
        refine bodyPost_ret (results_tmp rfl _ _ _) rfl ?_
        rw [HE.out.1, HE.out.2]
        exact ⟨rfl, F, HRW.out, fun _ => .inl, HTW.out⟩
      | true =>
        obtain ⟨h1, h2, h3⟩ := is_iff.1 hp
        obtain ⟨i, hi⟩ : ∃ i : Nat, xs[j] = (i : Int) := ⟨xs[j].toNat, by omega⟩
        have HIX := Lib.hid (HIS.out (i : Int))
        have hpi : isP n P (i : Int) = true := by rw [← hi]; exact hp
        rw [hpi] at HIX
        have hin : i < n := by omega
        have x5 : (i : Int) < (n : Int) := by omega
        have x6 : 0 ≤ (i : Int) := by omega
        have k1 := HD.out.row.c1 hin
        have f1 := HD.out.row.fz
        have hub := use_bnd (ad := ad) (xs := xs.take j) HU.out i
        rw [List.length_take] at hub
        have hby := HBY.out
        have y0 := IntWalk.wrap64_in (((useS ad P (xs.take j) i).u : Int) + byI ad) (by omega)
        have y3 : IntKind.i64.wrap (((useS ad P (xs.take j) i).u : Int) + byI ad) = ((useS ad P (xs.take j) i).u : Int) + byI ad := IntWalk.i64_in _ (by omega)
        have x3 := IntWalk.wrap64_in ((j : Int) + 1) (by omega)
        by_cases hneg : ((useS ad P (xs.take j) i).u : Int) + byI ad < 0
        · have t0 : decide (((useS ad P (xs.take j) i).u : Int) + byI ad < 0) = true := decide_eq_true hneg
          have HE := Lib.hid (use_fail (use_not (n := n) (ad := ad) hjl (.inr ⟨i, hi, hneg⟩)))
          rw [hi] at hc1
          generalize (useS ad P (xs.take j) i).u = u1 at *
          generalize byI ad = by1 at *
          clear hp hlt hjl HIS hi hpi h1 h2 h3 hub hby hneg
          go_wp2_with (go_at_call 17; refine HIX.out.mono ?_; rintro e w3 ⟨rfl, rfl⟩)
          refine bodyPost_ret (results_tmp rfl _ _ _) rfl ?_
          rw [HE.out.1, HE.out.2]
          exact ⟨rfl, F, HRW.out, fun _ => .inl, HTW.out⟩
        have t0 : decide (((useS ad P (xs.take j) i).u : Int) + byI ad < 0) = false := decide_eq_false hneg
        obtain ⟨u2, hu2⟩ : ∃ u2 : Nat, (u2 : Int) = ((useS ad P (xs.take j) i).u : Int) + byI ad := ⟨(((useS ad P (xs.take j) i).u : Int) + byI ad).toNat, by omega⟩
        have HOK := Lib.hid (use_ok hjl hi hpi HD.out.ok (by omega))
        have HNX := Lib.hid (use_next hjl hi hu2)
        have HRN := Lib.hid (fun W (hW : Below wr.heap.size wr W) => (HD.out.row.kept (hW.block _ HD.out.row.lt)).setU (k := i) u2)
        rw [← HNX.out, hu2] at HRN
        rw [hi] at hc1
        have HK0 := Lib.hid (show ∀ W, Below wr.heap.size wr W → (W.cell? ⟨pa, oa + j, none⟩ = some (.int .i64 (i : Int)) ∧ W.cell? ⟨g, i * 3 + 1, none⟩ = some (.int .i64 ((useS ad P (xs.take j) i).u : Int))) ∧ ∀ k, W.frozen? ⟨g, k, none⟩ = false from fun W hW => ⟨⟨(hW.cell (p := ⟨pa, oa + j, none⟩) (block_lt_of_cell hc1)).trans hc1, (HD.out.row.kept (hW.block _ HD.out.row.lt)).c1 hin⟩, (HD.out.row.kept (hW.block _ HD.out.row.lt)).fz⟩)
        generalize (useS ad P (xs.take j) i).u = u1 at *
        clear hp hlt hjl HIS hi hpi h1 h2 h3 hub hby hneg HNX
        go_upto_region 7 with (go_at_call 17; refine HIX.out.mono ?_; rintro e w3 ⟨rfl, rfl⟩)
        have BD := Lib.hid (below_drewN (Below.refl wr.heap.size wr) 1)
        have k0 := (HK0.out _ BD.out).1
        have fz := (HK0.out _ BD.out).2
        -- HANDV 0
        refine wp_region_noPanic ?_
        refine wp_region_heldV (S := (fun W : World => W.cell? ⟨pa, oa + j, none⟩ = some (.int .i64 (i : Int)) ∧ W.cell? ⟨g, i * 3 + 1, none⟩ = some (.int .i64 (u1 : Int)))) 17 (by kernel_rfl) (by kernel_rfl) (by kernel_rfl) (by kernel_rfl) (by decide) k0 (fun hHeld => ?_)
        refine wpAnyV_take (i := 0) (v := .slice (some ⟨g, 0, none⟩) n gc) 42 rfl rfl (by decide) (by kernel_rfl) (by kernel_rfl) (fun _ _ _ h => h) (Or.inl ⟨by rfl, ?_⟩) hHeld ?_
        · intro W hW
          try dsimp only at hW
          go_simp
        simp only [Act.put, List.setIfInBounds_toArray, List.set_cons_succ, List.set_cons_zero]
        refine wpAnyV_take (i := 1) (v := .slice (some ⟨pa, oa, none⟩) m c0) 43 rfl rfl (by decide) (by kernel_rfl) (by kernel_rfl) (fun _ _ _ h => h) (Or.inl ⟨by rfl, ?_⟩) hHeld ?_
        · intro W hW
          try dsimp only at hW
          go_simp
        simp only [Act.put, List.setIfInBounds_toArray, List.set_cons_succ, List.set_cons_zero]
        refine wpAnyV_take (i := 2) (v := .int .i64 (j : Int)) 44 rfl rfl (by decide) (by kernel_rfl) (by kernel_rfl) (fun _ _ _ h => h) (Or.inl ⟨by rfl, ?_⟩) hHeld ?_
        · intro W hW
          try dsimp only at hW
          go_simp
        simp only [Act.put, List.setIfInBounds_toArray, List.set_cons_succ, List.set_cons_zero]
        refine wpAnyV_take (i := 3) (v := .pointer (some ⟨pa, oa + j, none⟩)) 45 rfl rfl (by decide) (by kernel_rfl) (by kernel_rfl) (fun _ _ _ h => h) (Or.inl ⟨by rfl, ?_⟩) hHeld ?_
        · intro W hW
          try dsimp only at hW
          go_simp
        simp only [Act.put, List.setIfInBounds_toArray, List.set_cons_succ, List.set_cons_zero]
        refine wpAnyV_take (i := 4) (v := .int .i64 (i : Int)) 46 rfl rfl (by decide) (by kernel_rfl) (by kernel_rfl) (fun _ _ _ h => h) (Or.inl ⟨by rfl, ?_⟩) hHeld ?_
        · intro W hW
          try dsimp only at hW
          go_simp
        simp only [Act.put, List.setIfInBounds_toArray, List.set_cons_succ, List.set_cons_zero]
        refine wpAnyV_take (i := 5) (v := .slice (some ⟨g, 0, none⟩) n gc) 47 rfl rfl (by decide) (by kernel_rfl) (by kernel_rfl) (fun _ _ _ h => h) (Or.inl ⟨by rfl, ?_⟩) hHeld ?_
        · intro W hW
          try dsimp only at hW
          go_simp
        simp only [Act.put, List.setIfInBounds_toArray, List.set_cons_succ, List.set_cons_zero]
        refine wpAnyV_take (i := 6) (v := .slice (some ⟨pa, oa, none⟩) m c0) 48 rfl rfl (by decide) (by kernel_rfl) (by kernel_rfl) (fun _ _ _ h => h) (Or.inl ⟨by rfl, ?_⟩) hHeld ?_
        · intro W hW
          try dsimp only at hW
          go_simp
        simp only [Act.put, List.setIfInBounds_toArray, List.set_cons_succ, List.set_cons_zero]
        refine wpAnyV_take (i := 7) (v := .int .i64 (j : Int)) 49 rfl rfl (by decide) (by kernel_rfl) (by kernel_rfl) (fun _ _ _ h => h) (Or.inl ⟨by rfl, ?_⟩) hHeld ?_
        · intro W hW
          try dsimp only at hW
          go_simp
        simp only [Act.put, List.setIfInBounds_toArray, List.set_cons_succ, List.set_cons_zero]
        refine wpAnyV_take (i := 8) (v := .pointer (some ⟨pa, oa + j, none⟩)) 50 rfl rfl (by decide) (by kernel_rfl) (by kernel_rfl) (fun _ _ _ h => h) (Or.inl ⟨by rfl, ?_⟩) hHeld ?_
        · intro W hW
          try dsimp only at hW
          go_simp
        simp only [Act.put, List.setIfInBounds_toArray, List.set_cons_succ, List.set_cons_zero]
        refine wpAnyV_take (i := 9) (v := .int .i64 (i : Int)) 51 rfl rfl (by decide) (by kernel_rfl) (by kernel_rfl) (fun _ _ _ h => h) (Or.inl ⟨by rfl, ?_⟩) hHeld ?_
        · intro W hW
          try dsimp only at hW
          go_simp
        simp only [Act.put, List.setIfInBounds_toArray, List.set_cons_succ, List.set_cons_zero]
        refine wpAnyV_take (i := 10) (v := .pointer (some ⟨g, i * 3, none⟩)) 52 rfl rfl (by decide) (by kernel_rfl) (by kernel_rfl) (fun _ _ _ h => h) (Or.inl ⟨by rfl, ?_⟩) hHeld ?_
        · intro W hW
          try dsimp only at hW
          go_simp
        simp only [Act.put, List.setIfInBounds_toArray, List.set_cons_succ, List.set_cons_zero]
        refine wpAnyV_take (i := 11) (v := .pointer (some ⟨g, i * 3 + 1, none⟩)) 53 rfl rfl (by decide) (by kernel_rfl) (by kernel_rfl) (fun _ _ _ h => h) (Or.inl ⟨by rfl, ?_⟩) hHeld ?_
        · intro W hW
          try dsimp only at hW
          go_simp
        simp only [Act.put, List.setIfInBounds_toArray, List.set_cons_succ, List.set_cons_zero]
        refine wpAnyV_take (i := 12) (v := .int .i64 (u1 : Int)) 54 rfl rfl (by decide) (by kernel_rfl) (by kernel_rfl) (fun _ _ _ h => h) (Or.inl ⟨by rfl, ?_⟩) hHeld ?_
        · intro W hW
          try dsimp only at hW
          go_simp
        simp only [Act.put, List.setIfInBounds_toArray, List.set_cons_succ, List.set_cons_zero]
        refine wpAnyV_take (i := 13) (v := .int .i64 (byI ad)) 55 rfl rfl (by decide) (by kernel_rfl) (by kernel_rfl) (fun _ _ _ h => h) (Or.inl ⟨by rfl, ?_⟩) hHeld ?_
        · intro W hW
          try dsimp only at hW
          go_simp
        simp only [Act.put, List.setIfInBounds_toArray, List.set_cons_succ, List.set_cons_zero]
        refine wpAnyV_take (i := 14) (v := .int .i64 ((u1 : Int) + byI ad)) 56 rfl rfl (by decide) (by kernel_rfl) (by kernel_rfl) (fun _ _ _ h => h) (Or.inl ⟨by rfl, ?_⟩) hHeld ?_
        · intro W hW
          try dsimp only at hW
          go_simp
        simp only [Act.put, List.setIfInBounds_toArray, List.set_cons_succ, List.set_cons_zero]
        refine wpAnyV_take (i := 15) (v := .pointer (some ⟨g, i * 3, none⟩)) 57 rfl rfl (by decide) (by kernel_rfl) (by kernel_rfl) (fun _ _ _ h => h) (Or.inl ⟨by rfl, ?_⟩) hHeld ?_
        · intro W hW
          try dsimp only at hW
          go_simp
        simp only [Act.put, List.setIfInBounds_toArray, List.set_cons_succ, List.set_cons_zero]
        refine wpAnyV_take (i := 16) (v := .pointer (some ⟨g, i * 3 + 1, none⟩)) 58 rfl rfl (by decide) (by kernel_rfl) (by kernel_rfl) (fun _ _ _ h => h) (Or.inl ⟨by rfl, ?_⟩) hHeld ?_
        · intro W hW
          try dsimp only at hW
          go_simp
        simp only [Act.put, List.setIfInBounds_toArray, List.set_cons_succ, List.set_cons_zero]
        obtain ⟨k01, k02⟩ := k0
        refine wpAnyV_last (by kernel_rfl) rfl (by kernel_rfl) (fun K hK => ?_)
        go_simp
        refine hK.out _ _ ?_
        refine NoPanic.normal ?_
        -- VDNAH 0
        go_wp2_with (fail)
        exact ⟨⟨j + 1, rfl, HJ.out, ⟨HOK.out, (HRN.out wr (Below.refl _ _)).kept rfl, (HD.out.turn.set (.inl rfl) _ _).then (below_drewN (Below.refl _ _) 1)⟩⟩, vc_less j m HJ.out⟩
    · have hke : j = m := by omega
      subst hke
      have x0 : ¬ (j : Int) < (j : Int) := by omega
      have x1 : decide ((j : Int) < (j : Int)) = false := decide_eq_false x0
      have HT := Lib.hid (show xs.take j = xs from List.take_of_length_le (by rw [HM.out]; exact Nat.le_refl _))
      have hok := HD.out.ok
      rw [HT.out] at hok
      have hrw := HD.out.row
      rw [HT.out] at hrw
      have HOK := Lib.hid hok
      have HRO := Lib.hid (show PRow wr g 49 n (clrJ (useS ad P xs) 0) (clrG (useS ad P xs) G 0) from hrw.congr (fun i _ => ⟨rfl, rfl⟩) fun i _ => by unfold clrG; rw [if_neg fun h => Nat.not_lt_zero i h.1])
      have HLT := Lib.hid (show ∀ i, i < n → (useS ad P xs i).u < 2000000 from fun i _ => by
        have h1 := use_bnd (ad := ad) (xs := xs) HU.out i
        have := HM.out
        omega)
      clear hok hrw hlt
      go_upto_region 9 with (fail)
      clear HROW
      go_loopw [9] (fun i wq => ∃ d : Nat, i = .int .i64 (d : Int) ∧ d ≤ n ∧ PRow wq g 49 n (clrJ (useS ad P xs) d) (clrG (useS ad P xs) G d) ∧ Turn (· = g) wr wq) (fun i _ => match i with | .int _ k => n - k.toNat | _ => 0)
      case atStart => exact ⟨0, rfl, Nat.zero_le _, HRO.out, Turn.refl _ _⟩
      case round =>
        clear HRO
        rename World => wq
        obtain ⟨d, rfl, hd, hrow, hturn⟩ := hrel
        have HRO := Lib.hid hrow
        have HTU := Lib.hid hturn
        have x7 : 0 ≤ (d : Int) := by omega
        clear hrow hturn
        by_cases hdn : d < n
        · have z0 : (d : Int) < (n : Int) := by omega
          have z1 : decide ((d : Int) < (n : Int)) = true := decide_eq_true z0
          have z2 := IntWalk.wrap64_in ((d : Int) + 1) (by omega)
          have HDN := Lib.hid hdn
          have k0 := HRO.out.c0 hdn
          have k1 := HRO.out.c1 hdn
          have k2 := HRO.out.c2 hdn
          have f0 := HRO.out.fz
          rw [clrJ_at] at k0 k1
          by_cases hu : (useS ad P xs d).u = 0
          · have t0 : (((useS ad P xs d).u : Int) == 0) = true := by rw [hu]; rfl
            have HRC := Lib.hid (row_clear HRO.out hu)
            have HTC := Lib.hid (((HTU.out.set (g := g) (.inl rfl) (d * 3) (.int .i64 0)).set (.inl rfl) (d * 3 + 1) (.int .i64 0)).set (.inl rfl) (d * 3 + 2) (.slice none 0 0))
            generalize (useS ad P xs d).u = u1 at *
            generalize (useS ad P xs d).v = v1 at *
            obtain ⟨sA, sl, sc, hs⟩ : ∃ A l c, clrG (useS ad P xs) G d d = .slice A l c := by
              obtain ⟨A, c, e⟩ := HPX.out.slice hdn
              exact ⟨A, _, c, by unfold clrG; rw [if_neg fun h => Nat.lt_irrefl _ h.1, e]⟩
            rw [hs] at k2
            clear hu hdn hs
            go_wp2_with (fail)
            exact ⟨⟨d + 1, rfl, HDN.out, HRC.out, HTC.out⟩, vc_less d n HDN.out⟩
          · have t0 : (((useS ad P xs d).u : Int) == 0) = false := beq_eq_false_iff_ne.2 (by omega)
            have HRC := Lib.hid (row_skip HRO.out hu)
            generalize (useS ad P xs d).u = u1 at *
            generalize (useS ad P xs d).v = v1 at *
            clear hu hdn
            go_wp2_with (fail)
            exact ⟨⟨d + 1, rfl, HDN.out, HRC.out, HTU.out⟩, vc_less d n HDN.out⟩
        · have hdn2 : d = n := by omega
          subst hdn2
          have z0 : ¬ (d : Int) < (d : Int) := by omega
          have z1 : decide ((d : Int) < (d : Int)) = false := decide_eq_false z0
          have HT2 := Lib.hid (show Turn F w wq from HTW.out.trans HTU.out fun k hk => .inr (by have := HG.out; omega))
          have HFQ := Lib.hid (show ∀ k, F k → wq.heap[k]? = w.heap[k]? from fun k hk => by
            have h1 := HPX.out.lt k hk
            have h2 := HTW.out.size
            have h3 := HG.out
            exact (HTU.out.block k (by omega) (by omega)).trans (HFK.out k h1))
          have HP2 := Lib.hid (HPX.out.kept HT2.out.size HFQ.out)
          have HFIN := Lib.hid (plx_used (c := gc) HPX.out HT2.out.size HFQ.out HG.out HRO.out (fun i => use_l i |>.1) (inv_clr HPX.out.inv xs HOK.out))
          have HUG := Lib.hid (use_good HOK.out)
          have k1 := HP2.out.cD
          have f1 := HP2.out.fD 0
          clear hdn
          go_wp2_with (fail)
          refine bodyPost_ret (results_tmp rfl _ _ _) rfl ?_
          rw [HUG.out.1, HUG.out.2]
          refine ⟨rfl, _, ⟨g, gc, _, _, HFIN.out⟩, fun k hk => ?_, HT2.out.set (.inl HPX.out.FD) 0 _⟩
          rcases hk with hk | hk
          · exact .inl hk
          · exact .inr (by have := HG.out; omega)
end Go.Proofs.Ytlapinecmiacoaa
namespace Go.Proofs.Ytlapinecmiacoaa
open Go.ChangeShapes Go.WideShapes Go.ChangeAt Go.RowKit Nm Cf Vc Sp Pg

theorem info_entry22 : (Try.prog.info? 41).map (fun i => (i.zero, i.size, i.bytes)) = some (some (.agg #[.slice none 0 0, .slice none 0 0]), 2, 48) := by kernel_rfl
namespace Pg
/-- What the reference's Get gathers. -/
structure Rg (w : World) (F : Nat → Prop) (W : World) (v : Value) (R : List (Er × Ent)) (L : List Ent) : Prop where
  own : W.ownsRow w.heap.size 41 2 v R.length (eCs R)
  all : ∀ q ∈ R, EOn F W q.1 q.2
  same : R.map (·.2) = L
  below : Below w.heap.size w W
def RGetSays (w : World) (F : Nat → Prop) (L : List Ent) (e : Ending) (w' : World) : Prop := ∃ (g c : Nat) (R : List (Er × Ent)), e = .returned (.slice (some ⟨g, 0, none⟩) R.length c) ∧ Rg w F w' (.slice (some ⟨g, 0, none⟩) R.length c) R L
/-- What a number finds: its entries. -/
theorem ref_es {F : Nat → Prop} {w : World} {D n : Nat} {P : Nat → Page Ent} (h : Rl F w D n P) {i : Nat} (hi : i < n) : ∃ (b cap : Nat) (A : Option Addr) (c : Nat) (Q : List (Er × Ent)), (P i).l = Q.map (·.2) ∧ Q.length ≤ 4 ∧ ∀ W, Below w.heap.size w W → (W.cell? ⟨D, 0, none⟩ = some (.slice (some ⟨b, 0, none⟩) n cap) ∧ W.cell? ⟨b, i * 3 + 2, none⟩ = some (.slice A Q.length c)) ∧ EsAt W A Q ∧ ∀ q ∈ Q, EOn F W q.1 q.2 := by
  obtain ⟨b, cap, G, Q, h⟩ := h
  obtain ⟨A, c, e⟩ := own_slice (h.es.own i hi)
  have h4 := h.inv.few i hi
  rw [h.same i hi, List.length_map] at h4
  refine ⟨b, cap, A, c, Q i, h.same i hi, h4, fun W hW => ?_⟩
  have hX := h.step hW
  exact ⟨⟨hX.cD, by rw [hX.row.c2 hi, e]⟩, own_es (e ▸ hX.es.own i hi), fun q hq => (hX.es.all i hi q hq).mono fun k hk => hk.1.1⟩
end Pg
set_option maxRecDepth 100000 in
set_option maxHeartbeats 3200000 in
theorem ref22_get {F : Nat → Prop} {w : World} {D n : Nat} {P : Nat → Page Ent} (h : Rl F w D n P) (hi : Inv n P) (B : Option Addr) (m c0 : Nat) (xs : List Int) (hm : xs.length = m) (hm2 : m ≤ 1000) (hX : KIn .i64 w B xs) :
    Calls Try.prog 19 #[.pointer (some ⟨D, 0, none⟩), .slice B m c0] w (RGetSays w F (getL n P xs)) := by
  have HR := Lib.hid h
  have HX := Lib.hid hX
  have HM := Lib.hid hm
  have HGL := Lib.hid (fun (j : Nat) (hj : j < xs.length) => get_next (n := n) (P := P) hj)
  have HGF := Lib.hid (fun (j : Nat) => get_few hi (xs.take j))
  obtain ⟨j0, hj0, hy0, hy1, hy2⟩ := info_parts info_entry22
  have HJ := Lib.hid hj0
  have HY0 := Lib.hid hy0
  have HY1 := Lib.hid hy1
  have HY2 := Lib.hid hy2
  clear h hi hm hX hj0 hy0 hy1 hy2
  go_enter Try.func19, Try.ntmps19
  go_wp2_with (with_reducible refine wpList_buildNone rfl 47 41 rfl j0 Try.underlying47 HJ.out ?_)
  have HR0 := Lib.hid (show Rg w F (w.alloc (.cells #[] 41)) (.slice (some ⟨w.heap.size, 0, none⟩) 0 0) [] [] from ⟨World.ownsRow_made w #[] 0 (Nat.le_refl _) (Nat.zero_le _) rfl, fun q hq => absurd hq (by simp), rfl, (Below.refl _ _).alloc (Nat.le_refl _) _⟩)
  go_loopw [5, 6] (fun s i wr => ∃ (j g c k : Nat) (R : List (Er × Ent)), i = .int .i64 (j : Int) ∧ j ≤ m ∧ s = .slice (some ⟨g, 0, none⟩) k c ∧ R.length = k ∧ Rg w F wr s R (getL n P (xs.take j))) (fun _ i _ => match i with | .int _ k => m - k.toNat | _ => 0)
  case atStart => exact ⟨0, w.heap.size, 0, 0, [], rfl, Nat.zero_le _, rfl, rfl, HR0.out⟩
  case round =>
    clear HR0
    obtain ⟨j, g, c, k, R, rfl, hj, rfl, hk, hr⟩ := hrel
    have HG := Lib.hid hr
    have HKL := Lib.hid hk
    have x2 : 0 ≤ (j : Int) := by omega
    clear hr hk
    by_cases hlt : j < m
    · have x0 : (j : Int) < (m : Int) := by omega
      have x1 : decide ((j : Int) < (m : Int)) = true := decide_eq_true x0
      have x3 := IntWalk.wrap64_in ((j : Int) + 1) (by omega)
      have HJ1 := Lib.hid (show j + 1 ≤ m by omega)
      have hjl : j < xs.length := by rw [HM.out]; exact hlt
      obtain ⟨pa, oa, rfl, hc1⟩ := (HX.out.below HG.out.below (Nat.le_refl _)).at hjl
      rw [List.getD_eq_getElem?_getD, List.getElem?_eq_getElem hjl, show (some xs[j]).getD 0 = xs[j] from rfl] at hc1
      have HN := Lib.hid (HGL.out j hjl)
      have HIS := Lib.hid (fun x => ref22_is (HR.out.step HG.out.below) x)
      have HK4 := Lib.hid (show k ≤ 4000 by
        have h1 := HKL.out
        have h2 := congrArg List.length HG.out.same
        have h3 := HGF.out j
        rw [List.length_map] at h2
        rw [List.length_take] at h3
        omega)
      cases hp : isP n P xs[j] with
      | false =>
        have HN2 := Lib.hid (show getL n P (xs.take (j + 1)) = getL n P (xs.take j) from HN.out.trans (by rw [if_neg (by rw [hp]; decide), List.append_nil]))
        have HIX := Lib.hid (HIS.out xs[j])
        rw [hp] at HIX
        rw [← HN2.out] at HG
        generalize xs[j] = x at *
        clear hp hlt hjl HIS HN
        go_wp2_with (go_at_call 17; refine HIX.out.mono ?_; rintro e w3 ⟨rfl, rfl⟩)
        exact ⟨⟨j + 1, g, c, k, R, rfl, HJ1.out, rfl, HKL.out, HG.out⟩, vc_less j m HJ1.out⟩
      | true =>
        obtain ⟨h1, h2, h3⟩ := is_iff.1 hp
        obtain ⟨i, hi⟩ : ∃ i : Nat, xs[j] = (i : Int) := ⟨xs[j].toNat, by omega⟩
        have hin : i < n := by omega
        have HIX := Lib.hid (HIS.out (i : Int))
        rw [hi] at hp hc1
        rw [hp] at HIX
        obtain ⟨b, cap, sA, sc, Q, hQ, hQ4, hQE⟩ := ref_es HR.out hin
        have HN2 := Lib.hid (show getL n P (xs.take (j + 1)) = getL n P (xs.take j) ++ Q.map (·.2) from HN.out.trans (by rw [hi, if_pos hp, Int.toNat_natCast, hQ]))
        have HQE := Lib.hid hQE
        have x5 : (i : Int) < (n : Int) := by omega
        have x6 : 0 ≤ (i : Int) := by omega
        have hq4 : Q.length ≤ 4 := hQ4
        have hk4 := HK4.out
        have HKE := Lib.hid (show ∀ W, Below w.heap.size w W → W.cell? ⟨pa, oa + j, none⟩ = some (.int .i64 (i : Int)) → (W.cell? ⟨pa, oa + j, none⟩ = some (.int .i64 (i : Int)) ∧ W.cell? ⟨D, 0, none⟩ = some (.slice (some ⟨b, 0, none⟩) n cap) ∧ W.cell? ⟨b, i * 3 + 2, none⟩ = some (.slice sA Q.length sc)) from fun W hW hz => ⟨hz, (HQE.out W hW).1⟩)
        have HPA := Lib.hid (show pa < w.heap.size from KIn.low HX.out (Nat.lt_of_le_of_lt (Nat.zero_le _) hjl) _ rfl)
        have HC1 := Lib.hid hc1
        have HBD := Lib.hid (show Below w.heap.size w wr.drew from below_drewN HG.out.below 1)
        have hes := (HQE.out wr.drew HBD.out).2.1
        have HNEWS := Lib.hid (show 0 < Q.length → ∃ ad, sA = some ad ∧ ∀ j u, (eCs Q)[j]? = some u → wr.drew.cell? (ad.add j) = some u from fun h0 => by
          obtain ⟨pb, po, e, hc⟩ := hes h0
          exact ⟨_, e, fun t u ht => by rw [Addr.add_lit]; exact hc t u ht⟩)
        have HLX := Lib.hid (eCs_length Q)
        have hown := HG.out.own
        rw [HKL.out] at hown
        have HOW := Lib.hid (show wr.drew.ownsRow w.heap.size 41 2 (.slice (some ⟨g, 0, none⟩) k c) k (eCs R) from hown)
        have HBN := Lib.hid (show ∀ wz, wr.drew.grownBy wz (Value.slice (some ⟨g, 0, none⟩) k c).ownBlock → Below w.heap.size w wz from fun wz hg => HBD.out.grown hg HBD.out.size fun t ht => (hown.lt t ht).1)
        have HSZ := Lib.hid HG.out.below.size
        clear hp hlt hjl HIS HN hi h1 h2 h3 hQ hQ4 hQE hes hown hin
        go_upto_region 6 with (go_at_call 17; refine HIX.out.mono ?_; rintro e w3 ⟨rfl, rfl⟩)
        have k0 := HKE.out wr.drew HBD.out HC1.out
        have k2 : ∀ wz, wr.drew.grownBy wz (Value.slice (some ⟨g, 0, none⟩) k c).ownBlock → (wz.cell? ⟨pa, oa + j, none⟩ = some (.int .i64 (i : Int)) ∧ wz.cell? ⟨D, 0, none⟩ = some (.slice (some ⟨b, 0, none⟩) n cap) ∧ wz.cell? ⟨b, i * 3 + 2, none⟩ = some (.slice sA Q.length sc)) := fun wz hg => HKE.out wz (HBN.out wz hg) (((HBN.out wz hg).cell (p := ⟨pa, oa + j, none⟩) HPA.out).trans ((HG.out.below.cell (p := ⟨pa, oa + j, none⟩) HPA.out).symm.trans HC1.out))
        go_region_held3 (fun W : World => W.cell? ⟨pa, oa + j, none⟩ = some (.int .i64 (i : Int)) ∧ W.cell? ⟨D, 0, none⟩ = some (.slice (some ⟨b, 0, none⟩) n cap) ∧ W.cell? ⟨b, i * 3 + 2, none⟩ = some (.slice sA Q.length sc)) (first | exact k0 | exact k2 _ ‹_› | assumption) ((refine step_append_every (by rfl) _ _ _ (by rfl) w.heap.size 41 j0 _ 2 48 Try.underlying47 HJ.out HY0.out HY1.out HY2.out rfl (by omega) g k c (eCs R) (by rfl) HOW.out sA Q.length sc (eCs Q) (by rfl) HLX.out HNEWS.out (eCs_one Q) (by unfold maxLen; omega) (by omega) HSZ.out ?_; intro g4 c4 wz hown4 hgrow4))
        have HBZ := Lib.hid (HBN.out _ hgrow4)
        have HRZ := Lib.hid (show Rg w F wz (.slice (some ⟨g4, 0, none⟩) (k + Q.length) c4) (R ++ Q) (getL n P (xs.take (j + 1))) from
          ⟨by rw [List.length_append, HKL.out, eCs_append]; exact hown4, fun q hq => by
            rcases List.mem_append.1 hq with hq | hq
            · have h5 := HG.out.all q hq
              have h6 := HR.out.lt
              exact (h5.moved fun t ht => (HBZ.out.block t (h6 t ht)).trans (HG.out.below.block t (h6 t ht)).symm)
            · exact (HQE.out wz HBZ.out).2.2 q hq, by rw [List.map_append, HG.out.same, HN2.out], HBZ.out⟩)
        clear k0 k2 hown4 hgrow4
        go_wp2_with (fail)
        exact ⟨⟨j + 1, g4, c4, k + Q.length, R ++ Q, rfl, HJ1.out, rfl, by rw [List.length_append, HKL.out], HRZ.out⟩, vc_less j m HJ1.out⟩
    · have hke : j = m := by omega
      subst hke
      have x0 : ¬ (j : Int) < (j : Int) := by omega
      have x1 : decide ((j : Int) < (j : Int)) = false := decide_eq_false x0
      have HT := Lib.hid (show xs.take j = xs from List.take_of_length_le (by rw [HM.out]; exact Nat.le_refl _))
      rw [HT.out] at HG
      go_wp2_with (fail)
      refine bodyPost_ret (results_tmp rfl _ _ _) rfl ?_
      have h1 := HKL.out
      subst h1
      exact ⟨g, c, R, rfl, HG.out⟩
end Go.Proofs.Ytlapinecmiacoaa
namespace Go.Proofs.Ytlapinecmiacoaa
open Go.ChangeShapes Go.WideShapes Go.ChangeAt Go.RowKit Nm Cf Vc Sp Pg

theorem one_belowR (W : World) (o : Obj) : Below W.heap.size W (W.alloc o) := (Below.refl _ _).alloc (Nat.le_refl _) _
theorem step_buildNone {P : Program} {ops : Array Oper} {o : Oper} {a : Act} {w : World} {K : Act → World → Prop} {Q : Exit → Act → World → Prop} {E : Prop} (hgd : o.guard = none) (t e : TypeId) (ho : o.op = .buildSlice t 0 #[]) (ie : TypeInfo)
    (hu : P.underlying t = some (.slice e)) (hie : P.info? e = some ie) (h : K (a.put o.dst (.slice (some ⟨w.heap.size, 0, none⟩) 0 0)) (w.alloc (.cells #[] e))) : if Region.wanted o (yielded ops a.tmps) = true then Oper.wp P o a w K Q else E := by
  have hw : Region.wanted o (yielded ops a.tmps) = true := by simp [Region.wanted, hgd]
  rw [if_pos hw]
  unfold Oper.wp execOp
  have e : ((#[] : Array (Nat × Operand)).map fun (i, x) => (i, a.eval x)) = #[] := by simp
  simp only [ho, Sem.run_bind, e, run_buildNone w t _ ie hu hie, Result.andThen_ok]
  exact h
set_option maxRecDepth 100000 in
set_option maxHeartbeats 6400000 in
theorem ref22_put {F p : Nat → Prop} {w : World} {D n : Nat} {P : Nat → Page Ent} (h : Rl F w D n P) (x : Int) {r : Er} {e : Ent} (he : EOn p w r e) (hp : ∀ k, p k → ¬ F k) (hs : Small e) :
    Calls Try.prog 14 #[.pointer (some ⟨D, 0, none⟩), .int .i64 x, eV r e] w fun z w' => z = .returned (.int .i64 (putE n P x)) ∧ ∃ F', Rl F' w' D n (putS n P x e) ∧ (∀ j, F' j → Old F w j ∨ p j) ∧ Turn F w w' := by
  have HR := Lib.hid h
  obtain ⟨b, cap, G, Q, hX⟩ := h
  have hb0 : Below w.heap.size w (w.alloc (.cells #[.slice r.kA e.ks.length r.kc, .slice r.vA e.vs.length r.vc] 41)) := (Below.refl _ _).alloc (Nat.le_refl _) _
  have hE0 := heap_alloc_new w (.cells #[.slice r.kA e.ks.length r.kc, .slice r.vA e.vs.length r.vc] 41)
  have HB0 := Lib.hid hb0
  have HE0 := Lib.hid hE0
  have HX := Lib.hid hX
  have HIS := Lib.hid (ref22_is (HR.out.step hb0) x)
  have HKEEP := Lib.hid (show ∀ z, z ≠ 0 → putE n P x = z → ∃ F', Rl F' (w.alloc (.cells #[.slice r.kA e.ks.length r.kc, .slice r.vA e.vs.length r.vc] 41)) D n (putS n P x e) ∧ (∀ j, F' j → Old F w j ∨ p j) ∧ Turn F w (w.alloc (.cells #[.slice r.kA e.ks.length r.kc, .slice r.vA e.vs.length r.vc] 41)) from fun z hz hpz => by
    rw [putS_not (by rw [hpz]; exact hz)]
    exact ⟨F, HR.out.step hb0, fun j hj => .inl (.inl hj), .of_below _ hb0⟩)
  unfold eV
  clear hE0
  cases hpx : isP n P x with
  | false =>
    have HPE := Lib.hid (putE_none hpx)
    rw [hpx] at HIS
    rw [HPE.out]
    clear hpx hX he hp hs hb0
    go_enter Try.func14, Try.ntmps14
    go_wp2_with (go_at_call 17; refine HIS.out.mono ?_; rintro z w1 ⟨rfl, rfl⟩)
    exact bodyPost_ret (results_tmp rfl _ _ _) rfl ⟨rfl, HKEEP.out 8 (by decide) HPE.out⟩
  | true =>
  have hi3 := is_iff.1 hpx
  obtain ⟨i, rfl⟩ : ∃ i : Nat, x = (i : Int) := ⟨x.toNat, by omega⟩
  have hin : i < n := by omega
  have hu0 : 0 < (P i).u := by simpa using hi3.2.2
  rw [hpx] at HIS
  have HPE := Lib.hid (putE_in hpx)
  have hl4 := hX.inv.few i hin
  have HXB := Lib.hid (hX.step hb0)
  have k0 := HXB.out.cD
  have k1 := HXB.out.row.c1 hin
  have k2 := HXB.out.row.c2 hin
  obtain ⟨sA, sc, hG⟩ := hX.slice hin
  rw [hG] at k2
  have x5 : (i : Int) < (n : Int) := by omega
  have x6 : 0 ≤ (i : Int) := by omega
  by_cases hu1 : 1 < (P i).u
  · have HPE2 := Lib.hid (show putE n P (i : Int) = 7 from HPE.out.trans (if_pos hu1))
    rw [HPE2.out]
    have t1 : decide ((1 : Int) < ((P i).u : Int)) = true := decide_eq_true (by omega)
    have t2 : decide (1 < (P i).u) = true := decide_eq_true hu1
    generalize (P i).u = u1 at *
    generalize (P i).l.length = l1 at *
    clear hpx hX hG HPE hi3 he hp hs hb0 hu0 hl4 hin hu1
    go_enter Try.func14, Try.ntmps14
    go_wp2_with (go_at_call 17; refine HIS.out.mono ?_; rintro z w1 ⟨rfl, rfl⟩)
    exact bodyPost_ret (results_tmp rfl _ _ _) rfl ⟨rfl, HKEEP.out 7 (by decide) HPE2.out⟩
  have t1 : decide ((1 : Int) < ((P i).u : Int)) = false := decide_eq_false (by omega)
  have t2 : decide (1 < (P i).u) = false := decide_eq_false hu1
  by_cases hl : 4 ≤ (P i).l.length
  · have HPE2 := Lib.hid (show putE n P (i : Int) = 10 from HPE.out.trans ((if_neg hu1).trans (if_pos hl)))
    rw [HPE2.out]
    have t3 : decide ((4 : Int) ≤ ((P i).l.length : Int)) = true := decide_eq_true (by omega)
    have t4 : decide (4 ≤ (P i).l.length) = true := decide_eq_true hl
    generalize (P i).u = u1 at *
    generalize (P i).l.length = l1 at *
    clear hpx hX hG HPE hi3 he hp hs hb0 hu0 hl4 hin hu1 hl
    go_enter Try.func14, Try.ntmps14
    go_wp2_with (go_at_call 17; refine HIS.out.mono ?_; rintro z w1 ⟨rfl, rfl⟩)
    exact bodyPost_ret (results_tmp rfl _ _ _) rfl ⟨rfl, HKEEP.out 10 (by decide) HPE2.out⟩
  have t3 : decide ((4 : Int) ≤ ((P i).l.length : Int)) = false := decide_eq_false (by omega)
  have t4 : decide (4 ≤ (P i).l.length) = false := decide_eq_false hl
  have HPE2 := Lib.hid (show putE n P (i : Int) = 0 from HPE.out.trans ((if_neg hu1).trans (if_neg hl)))
  have HPS := Lib.hid (putS_in (e := e) HPE2.out)
  have HINV := Lib.hid (inv_put hX.inv (i : Int) e)
  rw [HPS.out] at HINV
  rw [HPE2.out, HPS.out]
  obtain ⟨j0, hj0, hy0, hy1, hy2⟩ := info_parts info_entry22
  have HJ := Lib.hid hj0
  have HY0 := Lib.hid hy0
  have HY1 := Lib.hid hy1
  have HY2 := Lib.hid hy2
  have HL4 := Lib.hid (show (P i).l.length ≤ 3 by omega)
  have hql : (Q i).length = (P i).l.length := by rw [hX.same i hin, List.length_map]
  have hqe : EsAt w sA (Q i) := own_es (hG ▸ (hql ▸ hX.es.own i hin : w.ownsRow 0 41 2 (G i) (P i).l.length (eCs (Q i))) |> fun h => by rw [← hql] at h; exact h)
  generalize hwb : w.alloc (.cells #[.slice r.kA e.ks.length r.kc, .slice r.vA e.vs.length r.vc] 41) = wb at *
  have HNEWS := Lib.hid (show ∀ W, Below wb.heap.size wb W → 0 < (P i).l.length → ∃ ad, sA = some ad ∧ ∀ j u, (eCs (Q i))[j]? = some u → W.cell? (ad.add j) = some u from fun W hW h0 => by
    obtain ⟨pb, po, e, hc⟩ := (hqe.below (HB0.out.trans (hW.mono HB0.out.size))) (by rw [hql]; exact h0)
    exact ⟨_, e, fun t u ht => by rw [Addr.add_lit]; exact hc t u ht⟩)
  have HLX := Lib.hid (show (eCs (Q i)).length = (P i).l.length * 2 by rw [eCs_length, hql])
  have HK := Lib.hid (show ∀ W, Below wb.heap.size wb W → (W.cell? ⟨D, 0, none⟩ = some (.slice (some ⟨b, 0, none⟩) n cap) ∧ W.cell? ⟨b, i * 3 + 2, none⟩ = some (.slice sA (P i).l.length sc) ∧ W.cell? ⟨w.heap.size, 0, none⟩ = some (.slice r.kA e.ks.length r.kc) ∧ W.cell? ⟨w.heap.size, 1, none⟩ = some (.slice r.vA e.vs.length r.vc)) from fun W hW => by
    have h1 := (hW.block _ (Array.getElem?_eq_some_iff.1 HE0.out).1).trans HE0.out
    have h2 := HXB.out.step hW
    exact ⟨h2.cD, by rw [h2.row.c2 hin, hG], by rw [cell_of_row _ _ _ _ _ _ h1]; rfl, by rw [cell_of_row _ _ _ _ _ _ h1]; rfl⟩)
  have HKB := Lib.hid (show ∀ W, Below wb.heap.size wb W → W.cell? ⟨b, i * 3 + 2, none⟩ = some (.slice sA (P i).l.length sc) ∧ ∀ k, W.frozen? ⟨b, k, none⟩ = false from fun W hW => by
    have h2 := HXB.out.step hW
    exact ⟨by rw [h2.row.c2 hin, hG], h2.row.fz⟩)
  have HFIN := Lib.hid (show ∀ wz g c, Below wb.heap.size wb wz → wz.ownsRow wb.heap.size 41 2 (.slice (some ⟨g, 0, none⟩) ((P i).l.length + 1) c) ((P i).l.length + 1) (eCs (Q i) ++ eC r e) → Ending.returned (.int .i64 0) = Ending.returned (.int .i64 0) ∧ ∃ F', Rl F' (wz.setCell ⟨b, i * 3 + 2, none⟩ (.slice (some ⟨g, 0, none⟩) ((P i).l.length + 1) c)) D n (updP P i { P i with l := (P i).l ++ [e] }) ∧ (∀ j, F' j → Old F w j ∨ p j) ∧ Turn F w (wz.setCell ⟨b, i * 3 + 2, none⟩ (.slice (some ⟨g, 0, none⟩) ((P i).l.length + 1) c)) from fun wz g c hz ho => by
    have hz2 := HB0.out.trans (hz.mono HB0.out.size)
    have hg := ho.lt g rfl
    have hsz := HB0.out.size
    obtain ⟨q1, q2, q3⟩ := plx_put hX hin (Below.refl _ _) he hp hs hql (own_base ho) ⟨hz2.os, hz2.tape, hz2.output, hz2.size, fun k hk _ => hz2.block k hk⟩ (.inr ⟨by omega, hg.2⟩) HINV.out
    refine ⟨rfl, _, ⟨b, cap, _, _, q1⟩, fun k hk => ?_, q2⟩
    rcases hk.1 with h | h | h
    · exact .inl (.inl h)
    · exact .inr h
    · exact .inl (q3 k h))
  have HWB := Lib.hid hwb
  clear hwb
  clear hpx hX hG HPE hi3 he hp hs hb0 hu0 hl4 hl hj0 hy0 hy1 hy2 hqe hql hin hu1 HINV HPE2 HPS HKEEP
  generalize (P i).l.length = l1 at *
  generalize Q i = Qi at *
  generalize (P i).u = u1 at *
  go_enter Try.func14, Try.ntmps14
  go_wp2_with (fail)
  rw [HWB.out]
  refine HIS.out.mono ?_
  rintro z w1 ⟨rfl, rfl⟩
  go_upto_region 7 with (fail)
  clear k0 k1 k2
  have BD := Lib.hid (show Below wb.heap.size wb wb.drew from below_drewN (Below.refl wb.heap.size wb) 1)
  have k0 := HK.out _ BD.out
  have HSB := Lib.hid (show (wb.alloc (.cells #[.slice r.kA e.ks.length r.kc, .slice r.vA e.vs.length r.vc] 41)).drew.heap.size = wb.heap.size + 1 from World.size_alloc ..)
  have HSB2 := Lib.hid (show (wb.drew.alloc (.cells #[.slice r.kA e.ks.length r.kc, .slice r.vA e.vs.length r.vc] 41)).heap.size = wb.heap.size + 1 from World.size_alloc ..)
  -- HANDV 0
  refine wp_region_noPanic ?_
  refine wp_region_heldV (S := (fun W : World => W.cell? ⟨D, 0, none⟩ = some (.slice (some ⟨b, 0, none⟩) n cap) ∧ W.cell? ⟨b, i * 3 + 2, none⟩ = some (.slice sA l1 sc) ∧ W.cell? ⟨w.heap.size, 0, none⟩ = some (.slice r.kA e.ks.length r.kc) ∧ W.cell? ⟨w.heap.size, 1, none⟩ = some (.slice r.vA e.vs.length r.vc))) 20 (by kernel_rfl) (by kernel_rfl) (by kernel_rfl) (by kernel_rfl) (by decide) k0 (fun hHeld => ?_)
  refine wpAnyV_take (i := 0) (v := .pointer (some ⟨D, 0, none⟩)) 30 rfl rfl (by decide) (by kernel_rfl) (by kernel_rfl) (fun _ _ _ h => h) (Or.inl ⟨by rfl, ?_⟩) hHeld ?_
  · intro W hW
    try dsimp only at hW
    go_simp
  simp only [Act.put, List.setIfInBounds_toArray, List.set_cons_succ, List.set_cons_zero]
  refine wpAnyV_take (i := 1) (v := .pointer (some ⟨D, 0, none⟩)) 31 rfl rfl (by decide) (by kernel_rfl) (by kernel_rfl) (fun _ _ _ h => h) (Or.inl ⟨by rfl, ?_⟩) hHeld ?_
  · intro W hW
    try dsimp only at hW
    go_simp
  simp only [Act.put, List.setIfInBounds_toArray, List.set_cons_succ, List.set_cons_zero]
  refine wpAnyV_take (i := 2) (v := .pointer (some ⟨D, 0, none⟩)) 32 rfl rfl (by decide) (by kernel_rfl) (by kernel_rfl) (fun _ _ _ h => h) (Or.inl ⟨by rfl, ?_⟩) hHeld ?_
  · intro W hW
    try dsimp only at hW
    go_simp
  simp only [Act.put, List.setIfInBounds_toArray, List.set_cons_succ, List.set_cons_zero]
  refine wpAnyV_take (i := 3) (v := .slice (some ⟨b, 0, none⟩) n cap) 33 rfl rfl (by decide) (by kernel_rfl) (by kernel_rfl) (fun _ _ _ h => h) (Or.inl ⟨by rfl, ?_⟩) hHeld ?_
  · intro W hW
    try dsimp only at hW
    go_simp
  simp only [Act.put, List.setIfInBounds_toArray, List.set_cons_succ, List.set_cons_zero]
  refine wpAnyV_take (i := 4) (v := .int .i64 (i : Int)) 34 rfl rfl (by decide) (by kernel_rfl) (by kernel_rfl) (fun _ _ _ h => h) (Or.inl ⟨by rfl, ?_⟩) hHeld ?_
  · intro W hW
    try dsimp only at hW
    go_simp
  simp only [Act.put, List.setIfInBounds_toArray, List.set_cons_succ, List.set_cons_zero]
  refine wpAnyV_take (i := 6) (v := .pointer (some ⟨D, 0, none⟩)) 36 rfl rfl (by decide) (by kernel_rfl) (by kernel_rfl) (fun _ _ _ h => h) (Or.inl ⟨by rfl, ?_⟩) hHeld ?_
  · intro W hW
    try dsimp only at hW
    go_simp
  simp only [Act.put, List.setIfInBounds_toArray, List.set_cons_succ, List.set_cons_zero]
  refine wpAnyV_take (i := 7) (v := .pointer (some ⟨D, 0, none⟩)) 37 rfl rfl (by decide) (by kernel_rfl) (by kernel_rfl) (fun _ _ _ h => h) (Or.inl ⟨by rfl, ?_⟩) hHeld ?_
  · intro W hW
    try dsimp only at hW
    go_simp
  simp only [Act.put, List.setIfInBounds_toArray, List.set_cons_succ, List.set_cons_zero]
  refine wpAnyV_take (i := 8) (v := .pointer (some ⟨D, 0, none⟩)) 38 rfl rfl (by decide) (by kernel_rfl) (by kernel_rfl) (fun _ _ _ h => h) (Or.inl ⟨by rfl, ?_⟩) hHeld ?_
  · intro W hW
    try dsimp only at hW
    go_simp
  simp only [Act.put, List.setIfInBounds_toArray, List.set_cons_succ, List.set_cons_zero]
  refine wpAnyV_take (i := 9) (v := .slice (some ⟨b, 0, none⟩) n cap) 39 rfl rfl (by decide) (by kernel_rfl) (by kernel_rfl) (fun _ _ _ h => h) (Or.inl ⟨by rfl, ?_⟩) hHeld ?_
  · intro W hW
    try dsimp only at hW
    go_simp
  simp only [Act.put, List.setIfInBounds_toArray, List.set_cons_succ, List.set_cons_zero]
  refine wpAnyV_take (i := 10) (v := .int .i64 (i : Int)) 40 rfl rfl (by decide) (by kernel_rfl) (by kernel_rfl) (fun _ _ _ h => h) (Or.inl ⟨by rfl, ?_⟩) hHeld ?_
  · intro W hW
    try dsimp only at hW
    go_simp
  simp only [Act.put, List.setIfInBounds_toArray, List.set_cons_succ, List.set_cons_zero]
  refine wpAnyV_take (i := 11) (v := .pointer (some ⟨b, i * 3, none⟩)) 41 rfl rfl (by decide) (by kernel_rfl) (by kernel_rfl) (fun _ _ _ h => h) (Or.inl ⟨by rfl, ?_⟩) hHeld ?_
  · intro W hW
    try dsimp only at hW
    go_simp
  simp only [Act.put, List.setIfInBounds_toArray, List.set_cons_succ, List.set_cons_zero]
  refine wpAnyV_take (i := 12) (v := .pointer (some ⟨b, i * 3 + 2, none⟩)) 42 rfl rfl (by decide) (by kernel_rfl) (by kernel_rfl) (fun _ _ _ h => h) (Or.inl ⟨by rfl, ?_⟩) hHeld ?_
  · intro W hW
    try dsimp only at hW
    go_simp
  simp only [Act.put, List.setIfInBounds_toArray, List.set_cons_succ, List.set_cons_zero]
  refine wpAnyV_take (i := 13) (v := .slice sA l1 sc) 43 rfl rfl (by decide) (by kernel_rfl) (by kernel_rfl) (fun _ _ _ h => h) (Or.inl ⟨by rfl, ?_⟩) hHeld ?_
  · intro W hW
    try dsimp only at hW
    go_simp
  simp only [Act.put, List.setIfInBounds_toArray, List.set_cons_succ, List.set_cons_zero]
  refine wpAnyV_take (i := 15) (v := .agg #[.slice r.kA e.ks.length r.kc, .slice r.vA e.vs.length r.vc]) 45 rfl rfl (by decide) (by kernel_rfl) (by kernel_rfl) (fun _ _ _ h => h) (Or.inl ⟨by rfl, ?_⟩) hHeld ?_
  · intro W hW
    try dsimp only at hW
    go_simp
  simp only [Act.put, List.setIfInBounds_toArray, List.set_cons_succ, List.set_cons_zero]
  refine wpAnyV_two (i := 5) (j := 16) (by kernel_rfl) rfl rfl (by decide) (by decide) (fun K hK => ?_) (fun K hK => ?_)
  · refine step_buildNone (by rfl) 47 41 (by rfl) j0 Try.underlying47 HJ.out ?_
    have B5 := Lib.hid (BD.out.alloc BD.out.size (.cells #[] 41))
    have HO5 := Lib.hid (show (wb.drew.alloc (.cells #[] 41)).ownsRow wb.heap.size 41 2 (.slice (some ⟨wb.heap.size, 0, none⟩) 0 0) 0 [] from by have h := World.ownsRow_made (e := 41) (size := 2) wb.drew #[] 0 BD.out.size (Nat.zero_le _) rfl; (try rw [World.size_alloc] at h); exact h)
    first | rw [HSB.out] | rw [HSB2.out] | skip
    refine hK.out _ _ (HK.out _ B5.out) (fun hHeld2 => ?_)
    clear hK K hHeld
    have hHeld := hHeld2
    clear hHeld2
    try simp only [Act.put, List.setIfInBounds_toArray, List.set_cons_succ, List.set_cons_zero]
    refine wpAnyV_two (i := 14) (j := 16) (by kernel_rfl) rfl rfl (by decide) (by decide) (fun K hK => ?_) (fun K hK => ?_)
    · refine step_append_every (by rfl) _ _ _ (by rfl) wb.heap.size 41 j0 _ 2 48 Try.underlying47 HJ.out HY0.out HY1.out HY2.out rfl (by omega) (wb.heap.size) 0 0 [] (by rfl) (HO5.out) sA l1 sc (eCs Qi) (by rfl) HLX.out (HNEWS.out _ B5.out) (eCs_one Qi) (by have := HL4.out; unfold maxLen; omega) (by have := HL4.out; omega) (B5.out.size) ?_
      intro g1 c1 wz1 hown1 hgrow1
      have B14 := Lib.hid (B5.out.grown hgrow1 B5.out.size (fun k hk => by have h : wb.heap.size = k := Option.some.inj hk; omega))
      have HG1 := Lib.hid hgrow1
      have HO1 := Lib.hid (show wz1.ownsRow wb.heap.size 41 2 (.slice (some ⟨g1, 0, none⟩) l1 c1) l1 (eCs Qi) from by have h := hown1; rw [Nat.zero_add, List.nil_append] at h; exact h)
      try rw [Nat.zero_add]
      clear hown1 hgrow1
      refine hK.out _ _ (HK.out _ B14.out) (fun hHeld2 => ?_)
      clear hK K hHeld
      have hHeld := hHeld2
      clear hHeld2
      try simp only [Act.put, List.setIfInBounds_toArray, List.set_cons_succ, List.set_cons_zero]
      have B16 := Lib.hid (B14.out.alloc B14.out.size (.cells #[.slice r.kA e.ks.length r.kc, .slice r.vA e.vs.length r.vc] 41))
      refine wpAnyV_one (i := 16) (by kernel_rfl) rfl (by decide) (fun K hK => ?_)
      go_simp
      refine hK.out _ _ (HK.out _ B16.out) (fun hHeld2 => ?_)
      clear hK K hHeld
      have hHeld := hHeld2
      clear hHeld2
      try simp only [Act.put, List.setIfInBounds_toArray, List.set_cons_succ, List.set_cons_zero]
      refine wpAnyV_one (i := 17) (by kernel_rfl) rfl (by decide) (fun K hK => ?_)
      refine step_append_every (by rfl) _ _ _ (by rfl) wb.heap.size 41 j0 _ 2 48 Try.underlying47 HJ.out HY0.out HY1.out HY2.out rfl (by omega) g1 l1 c1 (eCs Qi) (by rfl) (HO1.out.alloc _) (some ⟨wz1.heap.size, 0, none⟩) 1 1 (eC r e) (by rfl) rfl (fun _ => ⟨_, rfl, ent_src wz1 r e _⟩) (ent_one r e) (by have := HL4.out; unfold maxLen; omega) (by have := HL4.out; omega) (B16.out.size) ?_
      intro g2 c2 wz2 hown2 hgrow2
      have BF := Lib.hid (B16.out.grown hgrow2 B16.out.size (fun k hk => (HO1.out.lt k hk).1))
      have HO2 := Lib.hid hown2
      have k9 := HKB.out _ BF.out
      clear hown2 hgrow2
      refine hK.out _ _ (HK.out _ BF.out) (fun hHeld2 => ?_)
      clear hK K hHeld
      have hHeld := hHeld2
      clear hHeld2
      try simp only [Act.put, List.setIfInBounds_toArray, List.set_cons_succ, List.set_cons_zero]
      refine wpAnyV_take (i := 18) (v := .pointer (some ⟨b, i * 3, none⟩)) 48 rfl rfl (by decide) (by kernel_rfl) (by kernel_rfl) (fun _ _ _ h => h) (Or.inl ⟨by rfl, ?_⟩) hHeld ?_
      · intro W hW
        try dsimp only at hW
        go_simp
      simp only [Act.put, List.setIfInBounds_toArray, List.set_cons_succ, List.set_cons_zero]
      refine wpAnyV_take (i := 19) (v := .pointer (some ⟨b, i * 3 + 2, none⟩)) 49 rfl rfl (by decide) (by kernel_rfl) (by kernel_rfl) (fun _ _ _ h => h) (Or.inl ⟨by rfl, ?_⟩) hHeld ?_
      · intro W hW
        try dsimp only at hW
        go_simp
      simp only [Act.put, List.setIfInBounds_toArray, List.set_cons_succ, List.set_cons_zero]
      obtain ⟨k9, k10⟩ := k9
      refine wpAnyV_last (by kernel_rfl) rfl (by kernel_rfl) (fun K hK => ?_)
      go_simp
      refine hK.out _ _ ?_
      refine NoPanic.normal ?_
      go_wp2_with (fail)
      refine bodyPost_ret (results_tmp rfl _ _ _) rfl ?_
      exact ⟨rfl, (HFIN.out wz2 g2 c2 BF.out HO2.out).2⟩
    · have B16 := Lib.hid (B5.out.alloc B5.out.size (.cells #[.slice r.kA e.ks.length r.kc, .slice r.vA e.vs.length r.vc] 41))
      go_simp
      refine hK.out _ _ (HK.out _ B16.out) (fun hHeld2 => ?_)
      clear hK K hHeld
      have hHeld := hHeld2
      clear hHeld2
      try simp only [Act.put, List.setIfInBounds_toArray, List.set_cons_succ, List.set_cons_zero]
      refine wpAnyV_one (i := 14) (by kernel_rfl) rfl (by decide) (fun K hK => ?_)
      refine step_append_every (by rfl) _ _ _ (by rfl) wb.heap.size 41 j0 _ 2 48 Try.underlying47 HJ.out HY0.out HY1.out HY2.out rfl (by omega) (wb.heap.size) 0 0 [] (by rfl) (HO5.out.alloc _) sA l1 sc (eCs Qi) (by rfl) HLX.out (HNEWS.out _ B16.out) (eCs_one Qi) (by have := HL4.out; unfold maxLen; omega) (by have := HL4.out; omega) (B16.out.size) ?_
      intro g1 c1 wz1 hown1 hgrow1
      have B14 := Lib.hid (B16.out.grown hgrow1 B16.out.size (fun k hk => by have h : wb.heap.size = k := Option.some.inj hk; omega))
      have HG1 := Lib.hid hgrow1
      have HO1 := Lib.hid (show wz1.ownsRow wb.heap.size 41 2 (.slice (some ⟨g1, 0, none⟩) l1 c1) l1 (eCs Qi) from by have h := hown1; rw [Nat.zero_add, List.nil_append] at h; exact h)
      try rw [Nat.zero_add]
      clear hown1 hgrow1
      refine hK.out _ _ (HK.out _ B14.out) (fun hHeld2 => ?_)
      clear hK K hHeld
      have hHeld := hHeld2
      clear hHeld2
      try simp only [Act.put, List.setIfInBounds_toArray, List.set_cons_succ, List.set_cons_zero]
      refine wpAnyV_one (i := 17) (by kernel_rfl) rfl (by decide) (fun K hK => ?_)
      refine step_append_every (by rfl) _ _ _ (by rfl) wb.heap.size 41 j0 _ 2 48 Try.underlying47 HJ.out HY0.out HY1.out HY2.out rfl (by omega) g1 l1 c1 (eCs Qi) (by rfl) (HO1.out) (some ⟨wb.heap.size + 1, 0, none⟩) 1 1 (eC r e) (by rfl) rfl (fun _ => ⟨_, rfl, fun t u ht => HG1.out.cell (by have h := ent_src (wb.drew.alloc (.cells #[] 41)) r e 41 t u ht; rw [World.size_alloc] at h; exact h) (by rw [Addr.add_lit]; intro h; have h2 : wb.heap.size + 1 = wb.heap.size := Option.some.inj h; omega)⟩) (ent_one r e) (by have := HL4.out; unfold maxLen; omega) (by have := HL4.out; omega) (B14.out.size) ?_
      intro g2 c2 wz2 hown2 hgrow2
      have BF := Lib.hid (B14.out.grown hgrow2 B14.out.size (fun k hk => (HO1.out.lt k hk).1))
      have HO2 := Lib.hid hown2
      have k9 := HKB.out _ BF.out
      clear hown2 hgrow2
      refine hK.out _ _ (HK.out _ BF.out) (fun hHeld2 => ?_)
      clear hK K hHeld
      have hHeld := hHeld2
      clear hHeld2
      try simp only [Act.put, List.setIfInBounds_toArray, List.set_cons_succ, List.set_cons_zero]
      refine wpAnyV_take (i := 18) (v := .pointer (some ⟨b, i * 3, none⟩)) 48 rfl rfl (by decide) (by kernel_rfl) (by kernel_rfl) (fun _ _ _ h => h) (Or.inl ⟨by rfl, ?_⟩) hHeld ?_
      · intro W hW
        try dsimp only at hW
        go_simp
      simp only [Act.put, List.setIfInBounds_toArray, List.set_cons_succ, List.set_cons_zero]
      refine wpAnyV_take (i := 19) (v := .pointer (some ⟨b, i * 3 + 2, none⟩)) 49 rfl rfl (by decide) (by kernel_rfl) (by kernel_rfl) (fun _ _ _ h => h) (Or.inl ⟨by rfl, ?_⟩) hHeld ?_
      · intro W hW
        try dsimp only at hW
        go_simp
      simp only [Act.put, List.setIfInBounds_toArray, List.set_cons_succ, List.set_cons_zero]
      obtain ⟨k9, k10⟩ := k9
      refine wpAnyV_last (by kernel_rfl) rfl (by kernel_rfl) (fun K hK => ?_)
      go_simp
      refine hK.out _ _ ?_
      refine NoPanic.normal ?_
      go_wp2_with (fail)
      refine bodyPost_ret (results_tmp rfl _ _ _) rfl ?_
      exact ⟨rfl, (HFIN.out wz2 g2 c2 BF.out HO2.out).2⟩
  · have B16 := Lib.hid (BD.out.alloc BD.out.size (.cells #[.slice r.kA e.ks.length r.kc, .slice r.vA e.vs.length r.vc] 41))
    go_simp
    refine hK.out _ _ (HK.out _ B16.out) (fun hHeld2 => ?_)
    clear hK K hHeld
    have hHeld := hHeld2
    clear hHeld2
    try simp only [Act.put, List.setIfInBounds_toArray, List.set_cons_succ, List.set_cons_zero]
    refine wpAnyV_one (i := 5) (by kernel_rfl) rfl (by decide) (fun K hK => ?_)
    refine step_buildNone (by rfl) 47 41 (by rfl) j0 Try.underlying47 HJ.out ?_
    have B5 := Lib.hid (B16.out.alloc B16.out.size (.cells #[] 41))
    have HO5 := Lib.hid (show ((wb.drew.alloc (.cells #[.slice r.kA e.ks.length r.kc, .slice r.vA e.vs.length r.vc] 41)).alloc (.cells #[] 41)).ownsRow wb.heap.size 41 2 (.slice (some ⟨wb.heap.size + 1, 0, none⟩) 0 0) 0 [] from by have h := World.ownsRow_made (e := 41) (size := 2) (wb.drew.alloc (.cells #[.slice r.kA e.ks.length r.kc, .slice r.vA e.vs.length r.vc] 41)) #[] 0 B16.out.size (Nat.zero_le _) rfl; (try rw [World.size_alloc] at h); exact h)
    first | rw [HSB.out] | rw [HSB2.out] | skip
    refine hK.out _ _ (HK.out _ B5.out) (fun hHeld2 => ?_)
    clear hK K hHeld
    have hHeld := hHeld2
    clear hHeld2
    try simp only [Act.put, List.setIfInBounds_toArray, List.set_cons_succ, List.set_cons_zero]
    refine wpAnyV_one (i := 14) (by kernel_rfl) rfl (by decide) (fun K hK => ?_)
    refine step_append_every (by rfl) _ _ _ (by rfl) wb.heap.size 41 j0 _ 2 48 Try.underlying47 HJ.out HY0.out HY1.out HY2.out rfl (by omega) (wb.heap.size + 1) 0 0 [] (by rfl) (HO5.out) sA l1 sc (eCs Qi) (by rfl) HLX.out (HNEWS.out _ B5.out) (eCs_one Qi) (by have := HL4.out; unfold maxLen; omega) (by have := HL4.out; omega) (B5.out.size) ?_
    intro g1 c1 wz1 hown1 hgrow1
    have B14 := Lib.hid (B5.out.grown hgrow1 B5.out.size (fun k hk => by have h : wb.heap.size + 1 = k := Option.some.inj hk; omega))
    have HG1 := Lib.hid hgrow1
    have HO1 := Lib.hid (show wz1.ownsRow wb.heap.size 41 2 (.slice (some ⟨g1, 0, none⟩) l1 c1) l1 (eCs Qi) from by have h := hown1; rw [Nat.zero_add, List.nil_append] at h; exact h)
    try rw [Nat.zero_add]
    clear hown1 hgrow1
    refine hK.out _ _ (HK.out _ B14.out) (fun hHeld2 => ?_)
    clear hK K hHeld
    have hHeld := hHeld2
    clear hHeld2
    try simp only [Act.put, List.setIfInBounds_toArray, List.set_cons_succ, List.set_cons_zero]
    refine wpAnyV_one (i := 17) (by kernel_rfl) rfl (by decide) (fun K hK => ?_)
    refine step_append_every (by rfl) _ _ _ (by rfl) wb.heap.size 41 j0 _ 2 48 Try.underlying47 HJ.out HY0.out HY1.out HY2.out rfl (by omega) g1 l1 c1 (eCs Qi) (by rfl) (HO1.out) (some ⟨wb.heap.size, 0, none⟩) 1 1 (eC r e) (by rfl) rfl (fun _ => ⟨_, rfl, fun t u ht => HG1.out.cell (((one_belowR (wb.drew.alloc (.cells #[.slice r.kA e.ks.length r.kc, .slice r.vA e.vs.length r.vc] 41)) (.cells #[] 41)).cell (by rw [Addr.add_lit]; show wb.heap.size < _; simp)).trans (ent_src wb.drew r e 41 t u ht)) (by rw [Addr.add_lit]; intro h; have h2 : wb.heap.size = wb.heap.size + 1 := Option.some.inj h; omega)⟩) (ent_one r e) (by have := HL4.out; unfold maxLen; omega) (by have := HL4.out; omega) (B14.out.size) ?_
    intro g2 c2 wz2 hown2 hgrow2
    have BF := Lib.hid (B14.out.grown hgrow2 B14.out.size (fun k hk => (HO1.out.lt k hk).1))
    have HO2 := Lib.hid hown2
    have k9 := HKB.out _ BF.out
    clear hown2 hgrow2
    refine hK.out _ _ (HK.out _ BF.out) (fun hHeld2 => ?_)
    clear hK K hHeld
    have hHeld := hHeld2
    clear hHeld2
    try simp only [Act.put, List.setIfInBounds_toArray, List.set_cons_succ, List.set_cons_zero]
    refine wpAnyV_take (i := 18) (v := .pointer (some ⟨b, i * 3, none⟩)) 48 rfl rfl (by decide) (by kernel_rfl) (by kernel_rfl) (fun _ _ _ h => h) (Or.inl ⟨by rfl, ?_⟩) hHeld ?_
    · intro W hW
      try dsimp only at hW
      go_simp
    simp only [Act.put, List.setIfInBounds_toArray, List.set_cons_succ, List.set_cons_zero]
    refine wpAnyV_take (i := 19) (v := .pointer (some ⟨b, i * 3 + 2, none⟩)) 49 rfl rfl (by decide) (by kernel_rfl) (by kernel_rfl) (fun _ _ _ h => h) (Or.inl ⟨by rfl, ?_⟩) hHeld ?_
    · intro W hW
      try dsimp only at hW
      go_simp
    simp only [Act.put, List.setIfInBounds_toArray, List.set_cons_succ, List.set_cons_zero]
    obtain ⟨k9, k10⟩ := k9
    refine wpAnyV_last (by kernel_rfl) rfl (by kernel_rfl) (fun K hK => ?_)
    go_simp
    refine hK.out _ _ ?_
    refine NoPanic.normal ?_
    go_wp2_with (fail)
    refine bodyPost_ret (results_tmp rfl _ _ _) rfl ?_
    exact ⟨rfl, (HFIN.out wz2 g2 c2 BF.out HO2.out).2⟩
  -- VDNAH 0
end Go.Proofs.Ytlapinecmiacoaa
namespace Go.Proofs.Ytlapinecmiacoaa
open Go.ChangeShapes Go.WideShapes Go.ChangeAt Go.RowKit Nm Cf Vc Sp Pg

namespace Pg
structure Ex (w0 W : World) (D E n : Nat) (F Fu : Nat → Prop) (P Pu : Nat → Page Ent) : Prop where
  has : Has w0 F W D n P
  rl : Rl Fu W E n Pu
  dis : ∀ k, F k → ¬ Fu k
  new : ∀ k, Fu k → w0.heap.size ≤ k
section
variable {w0 W W' w' : World} {D E n : Nat} {F Fu F' : Nat → Prop} {P Pu P' Pu' : Nat → Page Ent}
theorem Ex.step (h : Ex w0 W D E n F Fu P Pu) (hb : Below W.heap.size W W') : Ex w0 W' D E n F Fu P Pu := ⟨h.has.step hb, h.rl.step hb, h.dis, h.new⟩
theorem Ex.prog (h : Ex w0 W D E n F Fu P Pu) (t : HasT w0 F W D n P' w') : ∃ F', Ex w0 w' D E n F' Fu P' Pu ∧ (∀ j, F' j → Old F W j) ∧ Turn F W w' := by
  obtain ⟨F', h1, h2, h3⟩ := t
  exact ⟨F', ⟨h1, h.rl.kept h3.size fun k hk => h3.block k (h.rl.lt k hk) fun hf => h.dis k hf hk, fun k hk hf => by
    rcases h2 k hk with h4 | h4
    · exact h.dis k h4 hf
    · have := h.rl.lt k hf; omega, h.new⟩, h2, h3⟩
/-- What the reference's call leaves: its blocks are old ones, new ones, or what was handed in. -/
theorem Ex.ref {p : Nat → Prop} (h : Ex w0 W D E n F Fu P Pu) (hp : ∀ k, p k → ¬ F k ∧ w0.heap.size ≤ k) (t : ∃ F', Rl F' w' E n Pu' ∧ (∀ j, F' j → Old Fu W j ∨ p j) ∧ Turn Fu W w') : ∃ Fu', Ex w0 w' D E n F Fu' P Pu' ∧ Turn Fu W w' := by
  obtain ⟨Fu', h1, h2, h3⟩ := t
  refine ⟨Fu', ⟨has_beside h.has h3 h.dis h.new, h1, fun k hk hf => ?_, fun k hk => ?_⟩, h3⟩
  · rcases h2 k hf with (h4 | h4) | h4
    · exact h.dis k hk h4
    · have := h.has.pl.lt k hk; omega
    · exact (hp k h4).1 hk
  · rcases h2 k hk with (h4 | h4) | h4
    · exact h.new k h4
    · have := h.has.below.size; omega
    · exact (hp k h4).2
theorem turnsR (t : TurnsR F W D n P w') : ∃ F', Rl F' w' D n P ∧ (∀ j, F' j → Old F W j ∨ False) ∧ Turn F W w' := by
  obtain ⟨F', h1, h2, h3⟩ := t
  exact ⟨F', h1, fun j hj => .inl (h2 j hj), h3⟩
theorem rl_congr (h : Rl F W D n P) (hP : ∀ i, i < n → P' i = P i) : Rl F W D n P' := by
  obtain ⟨b, cap, G, Q, h⟩ := h
  exact ⟨b, cap, G, Q, plx_congr h hP⟩
theorem Ex.same (h : Ex w0 W D E n F Fu P Pu) (hP : ∀ i, i < n → P i = Pu i) : Ex w0 W D E n F Fu P P := ⟨h.has, rl_congr h.rl hP, h.dis, h.new⟩
/-- Use answers what Share, Drop answer. -/
theorem use_share (hi : Inv n P) (xs : List Int) : useE true n P xs = shareE n P xs ∧ ∀ i, i < n → shareS n P xs i = useR true n P xs i := by
  refine ⟨rfl, fun i hil => ?_⟩
  unfold useR shareS useB useS
  rw [if_pos rfl, if_pos rfl]
  split
  · rename_i hb
    have h1 := inv_share hi xs
    rw [show shareS n P xs = moreS P xs from if_pos hb] at h1
    exact (clr_inv h1 hil).symm
  · rfl
theorem use_drop (xs : List Int) : useE false n P xs = dropE n P xs ∧ dropS n P xs = useR false n P xs := ⟨rfl, rfl⟩
end
/-- Behind so many deeds. -/
structure Exs (w0 W : World) (D E n j : Nat) : Prop where
  has : ∃ F Fu P, Ex w0 W D E n F Fu P P ∧ Bnd P (1 + 10 * j)
/-- The same, beside the deed's own block. -/
structure Exx (w0 W : World) (D E n xb : Nat) (x : Ac) (F Fu : Nat → Prop) (P Pu : Nat → Page Ent) : Prop where
  ex : Ex w0 W D E n F Fu P Pu
  blk : W.heap[xb]? = some (acO x)
  nf : ¬ F xb ∧ ¬ Fu xb
section
variable {w0 W W' w' : World} {D E n xb : Nat} {x : Ac} {F Fu F' : Nat → Prop} {P Pu P' Pu' : Nat → Page Ent}
theorem Exx.lt (h : Exx w0 W D E n xb x F Fu P Pu) : xb < W.heap.size := (Array.getElem?_eq_some_iff.1 h.blk).1
theorem Exx.step (h : Exx w0 W D E n xb x F Fu P Pu) (hb : Below W.heap.size W W') : Exx w0 W' D E n xb x F Fu P Pu := ⟨h.ex.step hb, (hb.block _ h.lt).trans h.blk, h.nf⟩
theorem Exx.prog (h : Exx w0 W D E n xb x F Fu P Pu) (t : HasT w0 F W D n P' w') : ∃ F', Exx w0 w' D E n xb x F' Fu P' Pu ∧ (∀ j, F' j → Old F W j) ∧ Turn F W w' := by
  obtain ⟨F', h1, h2, h3⟩ := h.ex.prog t
  exact ⟨F', ⟨h1, (h3.block _ h.lt h.nf.1).trans h.blk, fun hf => by
    rcases h2 xb hf with h4 | h4
    · exact h.nf.1 h4
    · have := h.lt; omega, h.nf.2⟩, h2, h3⟩
theorem Exx.ref {p : Nat → Prop} (h : Exx w0 W D E n xb x F Fu P Pu) (hp : ∀ k, p k → ¬ F k ∧ w0.heap.size ≤ k ∧ k ≠ xb) (t : ∃ F', Rl F' w' E n Pu' ∧ (∀ j, F' j → Old Fu W j ∨ p j) ∧ Turn Fu W w') : ∃ Fu', Exx w0 w' D E n xb x F Fu' P Pu' := by
  obtain ⟨Fu', h1, h2, h3⟩ := t
  have hr : ∃ F', Rl F' w' E n Pu' ∧ (∀ j, F' j → Old Fu W j ∨ p j) ∧ Turn Fu W w' := ⟨Fu', h1, h2, h3⟩
  refine ⟨Fu', ⟨⟨has_beside h.ex.has h3 h.ex.dis h.ex.new, h1, fun k hk hf => ?_, fun k hk => ?_⟩, (h3.block _ h.lt h.nf.2).trans h.blk, h.nf.1, fun hf => ?_⟩⟩
  · rcases h2 k hf with (h4 | h4) | h4
    · exact h.ex.dis k hk h4
    · have := h.ex.has.pl.lt k hk; omega
    · exact (hp k h4).1 hk
  · rcases h2 k hk with (h4 | h4) | h4
    · exact h.ex.new k h4
    · have := h.ex.has.below.size; omega
    · exact (hp k h4).2.1
  · rcases h2 xb hf with (h4 | h4) | h4
    · exact h.nf.2 h4
    · have := h.lt; omega
    · exact (hp xb h4).2.2 rfl
theorem Exx.same (h : Exx w0 W D E n xb x F Fu P Pu) (hP : ∀ i, i < n → P i = Pu i) : Exx w0 W D E n xb x F Fu P P := ⟨h.ex.same hP, h.blk, h.nf⟩
/-- What a program's call answers and leaves. -/
def PSays (w0 : World) (D E n xb : Nat) (x : Ac) (Fu : Nat → Prop) (P' Pu : Nat → Page Ent) (v : Value) (e : Ending) (w' : World) : Prop := e = .returned v ∧ ∃ F', Exx w0 w' D E n xb x F' Fu P' Pu
def RSays (w0 : World) (D E n xb : Nat) (x : Ac) (F : Nat → Prop) (P Pu' : Nat → Page Ent) (v : Value) (e : Ending) (w' : World) : Prop := e = .returned v ∧ ∃ Fu', Exx w0 w' D E n xb x F Fu' P Pu'
theorem exx_share (h : Exx w0 W D E n xb x F Fu P Pu) (hl : x.l.length ≤ 10) (hX : KIn .i64 w0 x.A x.l) (hu : Bnd P 1000000) : Calls Try.prog 9 #[.pointer (some ⟨D, 0, none⟩), .slice x.A x.l.length x.c] W (PSays w0 D E n xb x Fu (shareS n P x.l) Pu (.int .i64 (shareE n P x.l))) :=
  (has_share h.ex.has rfl (by omega) (hX.below h.ex.has.below (Nat.le_refl _)) (old_off h.ex.has (KIn.low' hX)) hu).mono fun _ _ ⟨h1, h2⟩ => ⟨h1, by obtain ⟨F', h3, _⟩ := h.prog h2; exact ⟨F', h3⟩⟩
theorem exx_drop (h : Exx w0 W D E n xb x F Fu P Pu) (hl : x.l.length ≤ 10) (hX : KIn .i64 w0 x.A x.l) (hu : Bnd P 1000000) : Calls Try.prog 11 #[.pointer (some ⟨D, 0, none⟩), .slice x.A x.l.length x.c] W (PSays w0 D E n xb x Fu (dropS n P x.l) Pu (.int .i64 (dropE n P x.l))) :=
  (has_drop h.ex.has rfl (by omega) (hX.below h.ex.has.below (Nat.le_refl _)) hu).mono fun _ _ ⟨h1, h2⟩ => ⟨h1, by obtain ⟨F', h3, _⟩ := h.prog h2; exact ⟨F', h3⟩⟩
theorem exx_take (h : Exx w0 W D E n xb x F Fu P Pu) (v : Int) : Calls Try.prog 15 #[.pointer (some ⟨D, 0, none⟩), .int .i64 v] W (PSays w0 D E n xb x Fu (takeS n P v) Pu (.tuple #[.int .i64 (takeI n P v), .int .i64 (takeE n P v)])) :=
  (has_take h.ex.has v).mono fun _ _ ⟨h1, h2⟩ => ⟨h1, by obtain ⟨F', h3, _⟩ := h.prog h2; exact ⟨F', h3⟩⟩
theorem exx_use (ad : Bool) (h : Exx w0 W D E n xb x F Fu P Pu) (hl : x.l.length ≤ 10) (hX : KIn .i64 w0 x.A x.l) (hu : Bnd Pu 1000000) : Calls Try.prog 10 #[.pointer (some ⟨E, 0, none⟩), .slice x.A x.l.length x.c, .int .i64 (byI ad)] W (RSays w0 D E n xb x F P (useR ad n Pu x.l) (.int .i64 (useE ad n Pu x.l))) :=
  (ref22_use ad h.ex.rl x.A x.l.length x.c x.l rfl (by omega) (hX.below h.ex.has.below (Nat.le_refl _)) hu).mono fun _ _ ⟨h1, h2⟩ => ⟨h1, h.ref (p := fun _ => False) (fun _ hf => hf.elim) (turnsR h2)⟩
theorem exx_takeR (h : Exx w0 W D E n xb x F Fu P Pu) (v : Int) : Calls Try.prog 16 #[.pointer (some ⟨E, 0, none⟩), .int .i64 v] W (RSays w0 D E n xb x F P (takeS n Pu v) (.tuple #[.int .i64 (takeI n Pu v), .int .i64 (takeE n Pu v)])) :=
  (ref22_take h.ex.rl v).mono fun _ _ ⟨h1, h2⟩ => ⟨h1, h.ref (p := fun _ => False) (fun _ hf => hf.elim) (turnsR h2)⟩
theorem exx_put (h : Exx w0 W D E n xb x F Fu P Pu) (y : Int) {N : Nat} {z : Int} (he : EntIs W N z) (hN : ∀ k, N ≤ k → ¬ F k) {eb : Nat} {o : Obj} (hv : W.heap[eb]? = some o) (hb : ¬ F eb) : Calls Try.prog 13 #[.pointer (some ⟨D, 0, none⟩), .int .i64 y, .agg #[.slice (some ⟨N + 1, 0, none⟩) 1 1, .slice (some ⟨N + 3, 0, none⟩) 1 1]] W fun e w' => e = .returned (.int .i64 (putE n P y)) ∧ ∃ F', Exx w0 w' D E n xb x F' Fu (putS n P y (entX z)) Pu ∧ EntIs w' N z ∧ (∀ k, N ≤ k → k < N + 4 → ¬ F' k) ∧ w'.heap[eb]? = some o :=
  (has_put' h.ex.has y he).mono fun _ _ ⟨h1, h2⟩ => ⟨h1, by
    obtain ⟨F', h3, h4, h5⟩ := h.prog h2
    have hl := (Array.getElem?_eq_some_iff.1 he.d).1
    refine ⟨F', h3, he.keep fun k k1 k2 => h5.block k (by omega) (hN k k1), fun k k1 k2 hf => ?_, (h5.block eb (Array.getElem?_eq_some_iff.1 hv).1 hb).trans hv⟩
    rcases h4 k hf with h6 | h6
    · exact hN k k1 h6
    · omega⟩
theorem exx_putR (h : Exx w0 W D E n xb x F Fu P Pu) (y : Int) {N : Nat} {z : Int} (he : EntIs W N z) (hF : ∀ k, N ≤ k → k < N + 4 → ¬ F k) (hN : ∀ k, N ≤ k → ¬ Fu k) (hw : w0.heap.size ≤ N) (hx : xb < N) {eb : Nat} {o : Obj} (hv : W.heap[eb]? = some o) (hb : ¬ Fu eb) : Calls Try.prog 14 #[.pointer (some ⟨E, 0, none⟩), .int .i64 y, .agg #[.slice (some ⟨N + 1, 0, none⟩) 1 1, .slice (some ⟨N + 3, 0, none⟩) 1 1]] W fun e w' => e = .returned (.int .i64 (putE n Pu y)) ∧ (∃ Fu', Exx w0 w' D E n xb x F Fu' P (putS n Pu y (entX z))) ∧ w'.heap[eb]? = some o := by
  have h1 := ref22_put h.ex.rl y he.on (fun k hk => hN k hk.1) (entX_small z)
  rw [eV_ent] at h1
  exact h1.mono fun _ _ ⟨h2, h3⟩ => ⟨h2, h.ref (fun k hk => ⟨hF k hk.1 hk.2, by omega, by omega⟩) h3, by
    obtain ⟨_, _, _, h4⟩ := h3
    exact (h4.block eb (Array.getElem?_eq_some_iff.1 hv).1 hb).trans hv⟩
end
theorem get_small {F : Nat → Prop} {W : World} {D n : Nat} {P : Nat → Page Ent} (h : Pl F W D n P) (xs : List Int) : ∀ e ∈ getL n P xs, Small e := fun e he => by
  obtain ⟨b, cap, G, Q, h⟩ := h
  unfold getL at he
  obtain ⟨y, _, hy⟩ := List.mem_flatMap.1 he
  split at hy
  · rename_i hp
    have h1 := is_iff.1 hp
    exact h.sized _ (by omega) e hy
  · exact absurd hy (by simp)
theorem pair_at {R R' : List (Er × Ent)} {L : List Ent} (h : R.map (·.2) = L) (h' : R'.map (·.2) = L) {t : Nat} (ht : t < R.length) : ∃ r r' e, R[t]? = some (r, e) ∧ R'[t]? = some (r', e) ∧ e ∈ L := by
  have hl : R'.length = R.length := by
    have h1 := congrArg List.length (h'.trans h.symm)
    rwa [List.length_map, List.length_map] at h1
  have e1 : R[t]? = some R[t] := List.getElem?_eq_getElem ht
  have e2 : R'[t]? = some (R'[t]'(by omega)) := List.getElem?_eq_getElem _
  have h1 : L[t]? = some R[t].2 := by rw [← h, List.getElem?_map, e1]; rfl
  have h2 : L[t]? = some (R'[t]'(by omega)).2 := by rw [← h', List.getElem?_map, e2]; rfl
  have h3 : R[t].2 = (R'[t]'(by omega)).2 := Option.some.inj (h1.symm.trans h2)
  exact ⟨R[t].1, (R'[t]'(by omega)).1, R[t].2, e1, by rw [e2, h3], List.mem_of_getElem? h1⟩
theorem ofI_prefix (P : Nat → Page Ent) (v : Int) {d n : Nat} (h : d ≤ n) : ∃ t, ofI P v n = ofI P v d ++ t := by
  induction n with
  | zero => exact ⟨[], by have : d = 0 := by omega
                          rw [this, List.append_nil]⟩
  | succ n ih =>
    by_cases e : d = n + 1
    · exact ⟨[], by rw [e, List.append_nil]⟩
    · obtain ⟨t, ht⟩ := ih (by omega)
      unfold ofI at ht ⊢
      rw [of_next]
      split
      · exact ⟨t ++ [(n : Int)], by rw [List.map_append, ht, List.append_assoc]; rfl⟩
      · exact ⟨t, ht⟩
theorem ofI_at {P : Nat → Page Ent} {v : Int} {d n : Nat} (h : d < n) (hy : ofI P v (d + 1) = ofI P v d ++ [(d : Int)]) : (ofI P v d).length < (ofI P v n).length ∧ (ofI P v n).getD (ofI P v d).length 0 = (d : Int) := by
  obtain ⟨t, ht⟩ := ofI_prefix P v (show d + 1 ≤ n from h)
  rw [ht, hy]
  refine ⟨by rw [List.length_append, List.length_append, List.length_singleton]; omega, ?_⟩
  rw [List.getD_eq_getElem?_getD, List.append_assoc, List.getElem?_append_right (Nat.le_refl _), Nat.sub_self]
  rfl
end Pg
end Go.Proofs.Ytlapinecmiacoaa
