/-
  Law 22's rows of deeds that come in. No conditions.
  A law's deeds, and what they leave of versions. No program's function here, but what the pool's contracts say. No conditions.
-/
import Derived.Test.YtlapinecmiacoaaMg20
import Derived.Test.YtlapinecmiacoaaMg12
import Derived.Test.YtlapinecmiacoaaMg1
import Derived.Test.YtlapinecmiacoaaMg19
import Derived.Test.YtlapinecmiacoaaMg18
import Derived.Deep.Grids
set_option maxRecDepth 100000
namespace Go.Proofs.Ytlapinecmiacoaa
open Go.ChangeShapes Go.WideShapes Go.ChangeAt Go.RowKit Nm Vc

namespace Pg
structure Ac where
  k : Int
  id : Int
  n : Int
  A : Option Addr
  c : Nat
  l : List Int
instance : Inhabited Ac := ⟨⟨0, 0, 0, none, 0, []⟩⟩
/-- Deeds behind a slice. -/
structure ActsIn (w : World) (A : Option Addr) (len : Nat) (X : Nat → Ac) : Prop where
  row : 0 < len → ∃ pb po, A = some ⟨pb, po, none⟩ ∧ ∀ i, i < len → w.cell? ⟨pb, po + i * 4, none⟩ = some (.int .i64 (X i).k) ∧ w.cell? ⟨pb, po + i * 4 + 1, none⟩ = some (.int .i64 (X i).id) ∧ w.cell? ⟨pb, po + i * 4 + 2, none⟩ = some (.int .i64 (X i).n) ∧ w.cell? ⟨pb, po + i * 4 + 3, none⟩ = some (.slice (X i).A (X i).l.length (X i).c)
  kin : ∀ i, i < len → KIn .i64 w (X i).A (X i).l
theorem ActsIn.keep {w w' : World} {A : Option Addr} {len : Nat} {X : Nat → Ac} (h : ActsIn w A len X) (hb : Below w.heap.size w w') : ActsIn w' A len X := ⟨fun h0 => by
  obtain ⟨pb, po, e, hc⟩ := h.row h0
  refine ⟨pb, po, e, fun i hi => ?_⟩
  obtain ⟨h1, h2, h3, h4⟩ := hc i hi
  have hl := block_lt_of_cell h1
  exact ⟨(hb.cell (p := ⟨pb, po + i * 4, none⟩) hl).trans h1, (hb.cell (p := ⟨pb, po + i * 4 + 1, none⟩) hl).trans h2, (hb.cell (p := ⟨pb, po + i * 4 + 2, none⟩) hl).trans h3, (hb.cell (p := ⟨pb, po + i * 4 + 3, none⟩) hl).trans h4⟩, fun i hi => (h.kin i hi).below hb (Nat.le_refl _)⟩
theorem ActsIn.keepFrom {w w' : World} {A : Option Addr} {len : Nat} {X : Nat → Ac} (h : ActsIn w A len X) (hb : Below w.heap.size w w') : ActsIn w' A len X := h.keep hb
end Pg
open Pg
section
variable {H : Type} {enc : TypeId × Value → H} {w : World} {base : Nat} {spare : Nat → Bool} {held : Bool}
set_option maxRecDepth 100000 in
theorem open_acts22 {fuel : Nat} {cs : List Value} {x : DataW H × List MemPlace} (h : DataW.trod enc Try.prog w base spare held fuel 22 cs = some x) :
    ∃ (A : Option Addr) (len cap : Nat) (X : Nat → Ac), cs = [.slice A len cap] ∧ len ≤ maxLen ∧ ActsIn w A len X := by
  obtain ⟨fs, hfs, hty⟩ : ∃ fs, Try.prog.underlying 30 = some (.struct fs) ∧ fs.toList.map (fun f => (f.type, f.offset)) = [(3, 0), (3, 1), (3, 2), (28, 3)] := ⟨_, Try.underlying30, by kernel_rfl⟩
  obtain ⟨f0, r, e0, g0, hr⟩ := List.map_eq_cons_iff.1 hty
  obtain ⟨f1, r, rfl, g1, hr⟩ := List.map_eq_cons_iff.1 hr
  obtain ⟨f2, r, rfl, g2, hr⟩ := List.map_eq_cons_iff.1 hr
  obtain ⟨f3, r, rfl, g3, hr⟩ := List.map_eq_cons_iff.1 hr
  obtain rfl := List.map_eq_nil_iff.1 hr
  simp only [Prod.mk.injEq] at g0 g1 g2 g3
  have hf : ∀ (j : Nat) (f : Field), fs[j]? = some f → (j = 0 ∧ f = f0) ∨ (j = 1 ∧ f = f1) ∨ (j = 2 ∧ f = f2) ∨ (j = 3 ∧ f = f3) := fun j f hj => by
    rw [← Array.getElem?_toList, e0] at hj
    match j, hj with
    | 0, hj => exact .inl ⟨rfl, (Option.some.inj hj).symm⟩
    | 1, hj => exact .inr (.inl ⟨rfl, (Option.some.inj hj).symm⟩)
    | 2, hj => exact .inr (.inr (.inl ⟨rfl, (Option.some.inj hj).symm⟩))
    | 3, hj => exact .inr (.inr (.inr ⟨rfl, (Option.some.inj hj).symm⟩))
    | j + 4, hj => simp at hj
  have c3 : Try.prog.cellsOf 3 = 1 := by kernel_rfl
  have c28 : Try.prog.cellsOf 28 = 1 := by kernel_rfl
  have hsz : fs.size = 4 := by rw [← Array.length_toList, e0]; rfl
  obtain ⟨A, len, cap, V, hcs, hl, hm, hV, hC⟩ := open_structs (m := 4) Try.underlying22 hfs (by omega) hsz (by kernel_rfl) (fun j f hj => by
    rcases hf j f hj with ⟨rfl, rfl⟩ | ⟨rfl, rfl⟩ | ⟨rfl, rfl⟩ | ⟨rfl, rfl⟩
    · rw [g0.1, g0.2]; exact ⟨rfl, c3⟩
    · rw [g1.1, g1.2]; exact ⟨rfl, c3⟩
    · rw [g2.1, g2.2]; exact ⟨rfl, c3⟩
    · rw [g3.1, g3.2]; exact ⟨rfl, c28⟩) h
  have get0 : fs[0]? = some f0 := by rw [← Array.getElem?_toList, e0]; rfl
  have get1 : fs[1]? = some f1 := by rw [← Array.getElem?_toList, e0]; rfl
  have get2 : fs[2]? = some f2 := by rw [← Array.getElem?_toList, e0]; rfl
  have get3 : fs[3]? = some f3 := by rw [← Array.getElem?_toList, e0]; rfl
  have each : ∀ i, i < len → ∃ y : Ac, V i 0 = .int .i64 y.k ∧ V i 1 = .int .i64 y.id ∧ V i 2 = .int .i64 y.n ∧ V i 3 = .slice y.A y.l.length y.c ∧ KIn .i64 w y.A y.l := fun i hi => by
    obtain ⟨n0, y0, h0⟩ := hV i hi 0 f0 get0
    obtain ⟨n1, y1, h1⟩ := hV i hi 1 f1 get1
    obtain ⟨n2, y2, h2⟩ := hV i hi 2 f2 get2
    obtain ⟨n3, y3, h3⟩ := hV i hi 3 f3 get3
    rw [g0.1] at h0
    rw [g1.1] at h1
    rw [g2.1] at h2
    rw [g3.1] at h3
    obtain ⟨k, hk, _⟩ := one_int Try.underlying3 h0
    obtain ⟨d, hd, _⟩ := one_int Try.underlying3 h1
    obtain ⟨m, hm, _⟩ := one_int Try.underlying3 h2
    obtain ⟨B, L, C, xs, hB, hLC, _, _, hx⟩ := one_ints Try.underlying28 Try.underlying3 c3 h3
    have hlen : ((List.range L).map xs).length = L := by simp
    refine ⟨⟨k, d, m, B, C, (List.range L).map xs⟩, hk, hd, hm, by show V i 3 = .slice B ((List.range L).map xs).length C; rw [hlen]; exact hB, fun h0 => ?_⟩
    rw [hlen] at h0
    obtain ⟨pb, po, e, hc⟩ := hx h0
    refine ⟨pb, po, e, fun j hj => ?_⟩
    rw [hlen] at hj
    have : ((List.range L).map xs).getD j 0 = xs j := by
      rw [List.getD_eq_getElem?_getD, List.getElem?_map, List.getElem?_range hj]
      rfl
    show w.cell? _ = some (.int .i64 (((List.range L).map xs).getD j 0))
    rw [this]
    exact hc j hj
  obtain ⟨y, hy⟩ := Go.Deep.choose_lt each
  refine ⟨A, len, cap, y, hcs, by omega, ⟨fun h0 => ?_, fun i hi => (hy i hi).2.2.2.2⟩⟩
  obtain ⟨pb, po, hA, hcell⟩ := hC h0
  refine ⟨pb, po, hA, fun i hi => ?_⟩
  obtain ⟨z1, z2, z3, z4, _⟩ := hy i hi
  have q0 := hcell i hi 0 (by omega)
  have q1 := hcell i hi 1 (by omega)
  have q2 := hcell i hi 2 (by omega)
  have q3 := hcell i hi 3 (by omega)
  rw [z1] at q0
  rw [z2] at q1
  rw [z3] at q2
  rw [z4] at q3
  exact ⟨q0, q1, q2, q3⟩
end
end Go.Proofs.Ytlapinecmiacoaa
namespace Go.Proofs.Ytlapinecmiacoaa
open Go.ChangeShapes Go.WideShapes Go.ChangeAt Go.RowKit Nm Cf Vc Sp Pg

namespace Pg
/-- Pages with users are of four versions only. -/
def VIn (P : Nat → Page Ent) (n : Nat) : Prop := ∀ j, j < n → 0 < (P j).u → 1 ≤ (P j).v ∧ (P j).v ≤ 4
section
variable {n : Nat} {P : Nat → Page Ent}
theorem vin_take (h : VIn P n) {v : Int} (hv : 1 ≤ v ∧ v ≤ 4) : VIn (takeS n P v) n := fun j hj hu => by
  unfold takeS at hu ⊢
  split at hu <;> rename_i hc
  · rw [if_pos hc]
    by_cases e : j = lowP P n
    · rw [e, upd_at]; exact hv
    · rw [upd_off _ e] at hu ⊢; exact h j hj hu
  · rw [if_neg hc]; exact h j hj hu
theorem vin_share (h : VIn P n) (xs : List Int) : VIn (shareS n P xs) n := fun j hj hu => by
  unfold shareS at hu ⊢
  split at hu <;> rename_i hc
  · rw [if_pos hc]
    by_cases h0 : (P j).u = 0
    · have hc0 : cntI xs j = 0 := cnt_none fun hm => by
        have := (is_iff.1 (share_iff.1 hc _ hm)).2.2
        rw [Int.toNat_natCast] at this
        omega
      have : 0 < (P j).u + cntI xs j := hu
      omega
    · exact h j hj (by omega)
  · rw [if_neg hc]; exact h j hj hu
theorem vin_drop (h : VIn P n) (xs : List Int) : VIn (dropS n P xs) n := fun j hj hu => by
  unfold dropS at hu ⊢
  split at hu <;> rename_i hc
  · rw [if_pos hc]
    unfold clrS at hu ⊢
    split at hu <;> rename_i h0
    · cases hu
    · rw [if_neg h0]
      have h1 : (P j).u - cntI xs j ≠ 0 := h0
      exact h j hj (by omega)
  · rw [if_neg hc]; exact h j hj hu
theorem vin_put (h : VIn P n) (x : Int) (e : Ent) : VIn (putS n P x e) n := fun j hj hu => by
  unfold putS at hu ⊢
  split at hu <;> rename_i hc
  · rw [if_pos hc]
    by_cases e2 : j = x.toNat
    · rw [e2, upd_at] at hu ⊢
      exact h x.toNat (e2 ▸ hj) hu
    · rw [upd_off _ e2] at hu ⊢; exact h j hj hu
  · rw [if_neg hc]; exact h j hj hu
/-- How many pages the versions up to v have. -/
def useN (P : Nat → Page Ent) (n : Nat) : Nat → Nat
  | 0 => 0
  | v + 1 => useN P n v + (ofI P ((v : Int) + 1) n).length
theorem use_four (h : VIn P n) : useN P n 4 + freeN P n = n := by
  have h1 := all_pages P n h
  show (((0 + (ofI P ((0 : Int) + 1) n).length) + (ofI P ((1 : Int) + 1) n).length) + (ofI P ((2 : Int) + 1) n).length) + (ofI P ((3 : Int) + 1) n).length + freeN P n = n
  rw [ofI_len, ofI_len, ofI_len, ofI_len]
  have e1 : (0 : Int) + 1 = 1 := rfl
  have e2 : (1 : Int) + 1 = 2 := rfl
  have e3 : (2 : Int) + 1 = 3 := rfl
  have e4 : (3 : Int) + 1 = 4 := rfl
  rw [e1, e2, e3, e4]
  omega
theorem use_le (P : Nat → Page Ent) (n v : Nat) : useN P n v ≤ v * n := by
  induction v with
  | zero => exact Nat.zero_le _
  | succ v ih =>
    have h1 := of_le P ((v : Int) + 1) n
    rw [useN, ofI_len, Nat.succ_mul]
    omega
/-- How many users a page has, as memory tells it. -/
def meas (D i : Nat) (w : World) : Nat :=
  match w.cell? ⟨D, 0, none⟩ with
  | some (.slice (some a) _ _) => match w.cell? ⟨a.block, i * 3 + 1, none⟩ with
    | some (.int _ u) => u.toNat
    | _ => 0
  | _ => 0
theorem meas_is {F : Nat → Prop} {w : World} {D i : Nat} (h : Pl F w D n P) (hi : i < n) : meas D i w = (P i).u := by
  obtain ⟨b, cap, G, Q, h⟩ := h
  unfold meas
  rw [h.cD]
  show (match w.cell? ⟨b, i * 3 + 1, none⟩ with | some (.int _ u) => u.toNat | _ => 0) = _
  rw [h.row.c1 hi]
  exact Int.toNat_natCast _
/-- One user less of one page. -/
theorem drop_id {i : Nat} (hi : i < n) (hu : 0 < (P i).u) : dropE n P [(i : Int)] = 0 ∧ (dropS n P [(i : Int)] i).u = (P i).u - 1 ∧ ∀ j, j ≠ i → (dropS n P [(i : Int)] j).u = (P j).u := by
  have hp : isP n P (i : Int) = true := by rw [is_nat hi]; exact decide_eq_true hu
  have hc : cntI [(i : Int)] i = 1 := by unfold cntI; simp
  have hb : dropB n P [(i : Int)] = true := drop_iff.2 fun x hx => by
    rw [List.mem_singleton.1 hx, Int.toNat_natCast, hc]
    exact ⟨hp, hu⟩
  have hs : dropS n P [(i : Int)] = dropJ P [(i : Int)] := if_pos hb
  refine ⟨if_pos hb, ?_, fun j hj => ?_⟩
  · rw [hs, dropJ_u, hc]
  · have h0 : cntI [(i : Int)] j = 0 := cnt_none fun hm => hj (by have := List.mem_singleton.1 hm; omega)
    rw [hs, dropJ_u, h0, Nat.sub_zero]
end
/-- A deed as the law reads it, in a block of its own. -/
def acO (x : Ac) : Obj := .cells #[.int .i64 x.k, .int .i64 x.id, .int .i64 x.n, .slice x.A x.l.length x.c] 30 (0, 0)
section
variable {W : World} {b : Nat} {x : Ac} (h : W.heap[b]? = some (acO x))
include h
theorem ac0 : W.cell? ⟨b, 0, none⟩ = some (.int .i64 x.k) := by rw [cell_of_row _ _ _ _ _ _ h]; rfl
theorem ac1 : W.cell? ⟨b, 1, none⟩ = some (.int .i64 x.id) := by rw [cell_of_row _ _ _ _ _ _ h]; rfl
theorem ac2 : W.cell? ⟨b, 2, none⟩ = some (.int .i64 x.n) := by rw [cell_of_row _ _ _ _ _ _ h]; rfl
theorem ac3 : W.cell? ⟨b, 3, none⟩ = some (.slice x.A x.l.length x.c) := by rw [cell_of_row _ _ _ _ _ _ h]; rfl
end
end Pg
end Go.Proofs.Ytlapinecmiacoaa
