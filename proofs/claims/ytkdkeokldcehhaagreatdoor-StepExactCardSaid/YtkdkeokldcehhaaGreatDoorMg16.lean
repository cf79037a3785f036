/-
  What a walk's mix works on: a place's rows, and what is cut out of them. No program's function here. No conditions but those of each lemma.
  Package step: what plus, and a walk's norm and times, answer. Conditions: a walk stands in its block; its model's weights are as many as its shape asks.
  Package step: what a walk's mix answers. Conditions: a walk stands in its block; each place has a key and a value of the block; the table of powers lies where it is looked up.
-/
import Derived.Test.YtkdkeokldcehhaaGreatDoorMg13
import Derived.Test.YtkdkeokldcehhaaGreatDoorMg15
import Derived.Test.YtkdkeokldcehhaaGreatDoorMg7
import Derived.Test.YtkdkeokldcehhaaGreatDoorMg6
import Derived.Test.YtkdkeokldcehhaaGreatDoorMg9
import Derived.Deep.RegionHeld3
set_option maxRecDepth 100000
namespace Go.Proofs.YtkdkeokldcehhaaGreatDoor
open Go.ChangeShapes Go.WideShapes Go.ChangeAt Go.RowKit Nm Cf Vc Br Sf Sp

namespace Sp
theorem info_ints : (Tryz.prog.info? 45).map (fun i => (i.zero, i.size, i.bytes)) = some (some (.slice none 0 0), 1, 24) := by kernel_rfl
/-- A row of rows of which the first k are there. -/
def slP (B : Nat → Option Addr) (C : Nat → Nat) (m k i : Nat) : Value := if i < k then .slice (B i) m (C i) else .slice none 0 0
theorem slP_none (B : Nat → Option Addr) (C : Nat → Nat) (m : Nat) : slP B C m 0 = fun _ => .slice none 0 0 := by
  funext i
  exact if_neg (by omega)
theorem slP_all (B : Nat → Option Addr) (C : Nat → Nat) (m n i : Nat) (h : i < n) : slP B C m n i = .slice (B i) m (C i) := if_pos h
theorem slP_set {w : World} {g n m k : Nat} {t : TypeId} {B : Nat → Option Addr} {C : Nat → Nat} {A : Option Addr} {c : Nat} (h : w.rowIs g t n (slP B C m k)) (hA : B k = A) (hc : C k = c) : (w.setCell ⟨g, k, none⟩ (.slice A m c)).rowIs g t n (slP B C m (k + 1)) :=
  (h.set k _).congr fun i _ => by
    unfold slP
    by_cases e : i = k
    · subst e
      rw [if_pos rfl, if_pos (by omega), hA, hc]
    · rw [if_neg e]
      by_cases hi : i < k
      · rw [if_pos hi, if_pos (by omega)]
      · rw [if_neg hi, if_neg (by omega)]
theorem slP_lin {w : World} {g n m : Nat} {t : TypeId} {B : Nat → Option Addr} {C : Nat → Nat} {L : List (List Int)} (h : w.rowIs g t n (slP B C m n)) (hL : L.length = n) (hm : ∀ i, i < n → (L.getD i []).length = m) (hk : ∀ i, i < n → KIn .i64 w (B i) (L.getD i [])) : LIn w (some ⟨g, 0, none⟩) B C L := fun _ =>
  ⟨g, 0, rfl, fun i hi => ⟨by rw [Nat.zero_add, h.cell (by omega), slP_all _ _ _ _ _ (by omega), hm i (by omega)], hk i (by omega)⟩⟩
theorem kin_cut {W : World} {rb ro F n : Nat} {l : List Int} (h : KIn .i64 W (some ⟨rb, ro, none⟩) l) (hl : F + n ≤ l.length) : KIn .i64 W (some ⟨rb, ro + F, none⟩) ((l.drop F).take n) := fun h0 => by
  have h1 : ((l.drop F).take n).length = n := by rw [List.length_take, List.length_drop]; omega
  obtain ⟨pb, po, e, hc⟩ := h (by omega)
  injection e with e
  injection e with e1 e2 _
  subst e1 e2
  refine ⟨rb, ro + F, rfl, fun i hi => ?_⟩
  rw [Nat.add_assoc, hc (F + i) (by omega), List.getD_eq_getElem?_getD, List.getD_eq_getElem?_getD, List.getElem?_take_of_lt (by omega), List.getElem?_drop]
/-- A row of rows, where one of it lies. -/
theorem row_at {p : Nat → Prop} {W : World} {A : Option Addr} {B : Nat → Option Addr} {C : Nat → Nat} {L : List (List Int)} (h : LOn p W A B C L) {k d : Nat} (hk : k < L.length) (hl : (L.getD k []).length = d) (hd : 0 < d) :
    ∃ pb po rb ro, A = some ⟨pb, po, none⟩ ∧ B k = some ⟨rb, ro, none⟩ ∧ d ≤ C k ∧ W.cell? ⟨pb, po + k, none⟩ = some (.slice (some ⟨rb, ro, none⟩) d (C k)) ∧ KIn .i64 W (some ⟨rb, ro, none⟩) (L.getD k []) := by
  obtain ⟨pb, po, e, hc, hx⟩ := h.is.at hk
  obtain ⟨rb, ro, er, _⟩ := hx (by omega)
  have := h.cap k hk
  rw [er] at hx
  rw [er, hl] at hc
  exact ⟨pb, po, rb, ro, e, er, by omega, hc, hx⟩
section
variable {w0 w W : World} {N b wb : Nat} {x : Cfg} {s : ByteArray} {Q : List (Er × Ent)} {v : Value} {X : Option Addr} {c : Nat} {z : List Int}
/-- Where the places' row lies. -/
theorem Wk.row (h : Wk w0 N b wb x s Q v X c z w) (h0 : 0 < Q.length) : ∃ g cap, v = .slice (some ⟨g, 0, none⟩) Q.length cap ∧ Q.length ≤ cap ∧ ∀ j u, (eCs Q)[j]? = some u → w.cell? ⟨g, j, none⟩ = some u := by
  rcases h.own.2 with ⟨_, h1⟩ | ⟨g, cap, cur, rfl, _, hb, hc, _, _, ht⟩
  · omega
  · refine ⟨g, cap, rfl, hc, fun j u hj => ?_⟩
    rw [cell_of_row w g j _ _ _ hb]
    rw [← ht] at hj
    have hj2 : j < (cur.toList.take (Q.length * 2)).length := (List.getElem?_eq_some_iff.1 hj).1
    rw [List.getElem?_take_of_lt (by rw [List.length_take] at hj2; omega)] at hj
    rw [← Array.getElem?_toList]
    exact hj
end
end Sp
end Go.Proofs.YtkdkeokldcehhaaGreatDoor
namespace Go.Proofs.YtkdkeokldcehhaaGreatDoor
open Go.ChangeShapes Go.WideShapes Go.ChangeAt Go.RowKit Nm Cf Vc Br Nr Sp

set_option maxRecDepth 100000 in
set_option maxHeartbeats 800000 in
theorem step_plus (w : World) (A : Option Addr) (c : Nat) (B : Option Addr) (d : Nat) (zs us : List Int) (n : Nat) (hz : zs.length = n) (hu : us.length = n) (hn : n ≤ 4096) (hA : KIn .i64 w A zs) (hB : KIn .i64 w B us) :
    Calls Tryz.prog 89 #[.slice A n c, .slice B n d] w (RowSays w (fun v => v) (plusL [zs, us] n)) := by
  have HB0 := Lib.hid ((Below.refl w.heap.size w).alloc (Nat.le_refl _) (.cells #[.slice A n c, .slice B n d] 45))
  have HP := Lib.hid (vecs_plus (w.alloc (.cells #[.slice A n c, .slice B n d] 45)) (some ⟨w.heap.size, 0, none⟩) 2 (two A B) (two c d) [zs, us] 2 n hz rfl (by omega) (by omega) hn (lin2 w.heap.size rfl hz hu hA hB) (fun i hi => by
    match i, hi with
    | 0, _ => rfl
    | 1, _ => exact hu.trans hz.symm))
  generalize plusL [zs, us] n = R at HP ⊢
  clear hz hu hA hB
  go_enter Tryz.func89, Tryz.ntmps89
  go_wp2_with (fail)
  refine HP.out.mono ?_
  rintro e w1 ⟨A1, c1, rfl, hA1, b1⟩
  have HB1 := Lib.hid (HB0.out.trans (b1.mono HB0.out.size))
  have HA1 := Lib.hid hA1
  clear hA1 b1
  go_wp2_with (fail)
  exact bodyPost_ret (results_tmp rfl _ _ _) rfl ⟨A1, c1, rfl, HA1.out, HB1.out⟩
section
variable (w0 w : World) (N b wb : Nat) (x : Cfg) (s : ByteArray) (Q : List (Er × Ent)) (v : Value) (X : Option Addr) (c : Nat) (z : List Int) (h : Wk w0 N b wb x s Q v X c z w) (hk : Ok x s)
include h hk
omit h in
theorem gains_short (p k : Int) (a : Int) : (rowZ x s p k a).length ≤ 64 := by
  unfold rowZ
  split
  · rename_i hh
    rw [rowD_length]
    have := (cols_in hk.good.is (is_iff.1 hh.1).2.1 (is_iff.1 hh.1).2.2.1).2
    omega
  · exact Nat.zero_le _
set_option maxRecDepth 100000 in
set_option maxHeartbeats 3200000 in
theorem walk_norm (p k : Nat) (hz : z.length ≤ 1000000) :
    Calls Tryz.prog 91 #[.pointer (some ⟨wb, 0, none⟩), .int .i64 (p : Int), .int .i64 (k : Int)] w (RowSays w (fun v => v) (normK x s p k z)) := by
  have HRW := Lib.hid (fun W (hW : Below w.heap.size w W) => show Calls Tryz.prog 90 #[.pointer (some ⟨b, 0, none⟩), .int .i64 (p : Int), .int .i64 (k : Int), .int .i64 0] W fun e w' => ∃ A c, e = .returned (.slice A (gains x s p k).length c) ∧ KIn .i64 w' A (gains x s p k) ∧ Below W.heap.size W w' from brain_row W b x s (Br.stays h.brain hW) hk p k 0)
  have hgl : (gains x s p k).length ≤ 1000000 := Nat.le_trans (gains_short x s hk p k 0) (by omega)
  have HOF := Lib.hid (fun W A d (hW : Below w.heap.size w W) (hA : KIn .i64 W A (gains x s p k)) => show Calls Tryz.prog 115 #[.slice A (gains x s p k).length d, .slice X z.length c] W fun e w' => ∃ A c, e = .returned (.slice A (normK x s p k z).length c) ∧ KIn .i64 w' A (normK x s p k z) ∧ Below W.heap.size W w' from
    norm_of W A _ d (gains x s p k) X _ c z rfl rfl hz hA (h.nums.below hW (Nat.le_refl _)))
  have HK := Lib.hid (fun W (hW : Below w.heap.size w W) => show W.cell? ⟨wb, 0, none⟩ = some (.pointer (some ⟨b, 0, none⟩)) ∧ W.cell? ⟨wb, 2, none⟩ = some (.slice X z.length c) from ⟨(three (h.step hW).blk).1, (three (h.step hW).blk).2.2.1⟩)
  have B0 := Lib.hid (show Below w.heap.size w w.drew from below_drewN (Below.refl _ _) 1)
  have k0 := HK.out _ B0.out
  generalize normK x s p k z = R at HOF ⊢
  generalize gains x s p k = G at *
  generalize z.length = n at *
  clear h hk hgl hz
  go_enter Tryz.func91, Tryz.ntmps91
  go_wp2_with (fail)
  go_region_held3 (fun W : World => W.cell? ⟨wb, 0, none⟩ = some (.pointer (some ⟨b, 0, none⟩)) ∧ W.cell? ⟨wb, 2, none⟩ = some (.slice X n c)) (first | exact k0 | assumption) (first
    | (go_at_call 90; (with_reducible refine (HRW.out _ B0.out).mono ?_); rintro e w1 ⟨A1, c1, rfl, hA1, b1⟩; have B1 := Lib.hid (B0.out.trans (b1.mono B0.out.size)); have K1 := Lib.hid hA1; have k1 := HK.out _ B1.out; clear b1 hA1)
    | (go_at_call 115; (with_reducible refine (HOF.out _ _ _ B1.out K1.out).mono ?_); rintro e w2 ⟨A2, c2, rfl, hA2, b2⟩; have B2 := Lib.hid (B1.out.trans (b2.mono B1.out.size)); have K2 := Lib.hid hA2; have k2 := HK.out _ B2.out; clear b2 hA2))
  go_wp2_with (fail)
  exact bodyPost_ret (results_tmp rfl _ _ _) rfl ⟨A2, c2, rfl, K2.out, B2.out⟩
set_option maxRecDepth 100000 in
set_option maxHeartbeats 1600000 in
theorem walk_times_new (p k : Nat) (hi : isZ x (p : Int) (k : Int) = true) (V : Option Addr) (n cv : Nat) (zs : List Int) (hn : zs.length = n) (hc : (colsZ x (p : Int)).toNat = n) (hV : KIn .i64 w V zs) :
    Calls Tryz.prog 92 #[.pointer (some ⟨wb, 0, none⟩), .int .i64 (p : Int), .int .i64 (k : Int), .slice V n cv] w (RowSaysN w (fun v => v) (tim x s p k zs)) := by
  subst hc
  obtain ⟨hp0, hp1, _, _⟩ := (is_iff.1 hi).2
  obtain ⟨hfx, hfy⟩ := rows_fit hk.good.is hp0 hp1
  have hR : ((rowsZ x (p : Int)).toNat : Int) = rowsZ x (p : Int) := by have := (fitB_iff.1 hfx).1; omega
  have hC : ((colsZ x (p : Int)).toNat : Int) = colsZ x (p : Int) := by have := (fitB_iff.1 hfy).1; omega
  have HT := Lib.hid (brain_table w b x s h.brain hk p k hi)
  have HM := Lib.hid (fun W A (hW : Below w.heap.size w W) (hA : KIn .i8 W A (listD (pieceB x s p k))) => show Calls Tryz.prog 116 #[tbV (rowsZ x (p : Int)) (colsZ x (p : Int)) A (pieceB x s p k).size (pieceB x s p k).size, .slice V (colsZ x (p : Int)).toNat cv, .int .i64 6] W (RowSaysN W (fun v => .tuple #[v, .int .i64 0]) (tim x s p k zs)) from by
    have := table_times_new W (rowsZ x (p : Int)).toNat (colsZ x (p : Int)).toNat 6 A (pieceB x s p k).size (pieceB x s p k).size (listD (pieceB x s p k)) V cv zs (by
      rw [hR, hC]
      exact goodB_iff.2 ⟨fitB_iff.1 hfx, fitB_iff.1 hfy, piece_sizeZ hk hi⟩) (listD_length _) hA (listD_I8 _) hn (hV.below hW (Nat.le_refl _))
    rw [hR, hC] at this
    exact this)
  have k0 := (three h.blk).1
  have HTA := Lib.hid (show ∀ A, tbV (rowsZ x (p : Int)) (colsZ x (p : Int)) A (pieceB x s p k).size (pieceB x s p k).size = .agg #[.int .i64 (rowsZ x (p : Int)), .int .i64 (colsZ x (p : Int)), .slice A (pieceB x s p k).size (pieceB x s p k).size] from fun _ => rfl)
  simp only [HTA.out] at HT HM
  generalize tim x s p k zs = R at HM ⊢
  generalize pieceB x s p k = P at *
  generalize rowsZ x (p : Int) = r at *
  generalize (colsZ x (p : Int)).toNat = n at *
  generalize colsZ x (p : Int) = q at *
  clear h hk hi hp0 hp1 hfx hfy hR hC hn hV HTA
  go_enter Tryz.func92, Tryz.ntmps92
  go_wp2_with (fail)
  refine HT.out.mono ?_
  rintro e w1 ⟨A, rfl, hA, b1⟩
  have HB1 := Lib.hid (b1.alloc b1.size (tbO r q A P.size P.size))
  have HA1 := Lib.hid (show KIn .i8 (w1.alloc (tbO r q A P.size P.size)) A (listD P) from hA.below ((Below.refl _ _).alloc (Nat.le_refl _) _) (Nat.le_refl _))
  have hN1 := heap_alloc_new w1 (tbO r q A P.size P.size)
  have d0 := tb0 hN1
  have d1 := tb1 hN1
  have d2 := tb2 hN1
  unfold tbO tbA at d0 d1 d2 HA1 HB1
  clear b1 hA hN1 k0
  go_wp2_with (fail)
  refine (HM.out _ _ HB1.out HA1.out).mono ?_
  rintro e w2 ⟨B, c2, rfl, hB, hc2, hnw, b2⟩
  have HNW := Lib.hid (fun a ha => Nat.le_trans HB1.out.size (hnw a ha))
  have HB2 := Lib.hid (HB1.out.trans (b2.mono HB1.out.size))
  have HK2 := Lib.hid hB
  clear b2 hB hnw d0 d1 d2
  go_wp2_with (fail)
  exact bodyPost_ret (results_tmp rfl _ _ _) rfl ⟨B, c2, rfl, HK2.out, hc2, HNW.out, HB2.out⟩
theorem walk_times (p k : Nat) (hi : isZ x (p : Int) (k : Int) = true) (V : Option Addr) (n cv : Nat) (zs : List Int) (hn : zs.length = n) (hc : (colsZ x (p : Int)).toNat = n) (hV : KIn .i64 w V zs) :
    Calls Tryz.prog 92 #[.pointer (some ⟨wb, 0, none⟩), .int .i64 (p : Int), .int .i64 (k : Int), .slice V n cv] w (RowSaysC w (fun v => v) (tim x s p k zs)) :=
  (walk_times_new w0 w N b wb x s Q v X c z h hk p k hi V n cv zs hn hc hV).mono fun _ _ h => h.cap
end
end Go.Proofs.YtkdkeokldcehhaaGreatDoor
namespace Go.Proofs.YtkdkeokldcehhaaGreatDoor
open Go.ChangeShapes Go.WideShapes Go.ChangeAt Go.RowKit Nm Cf Vc Br Sf Sp

namespace Sp
/-- What a place has of a block, where it lies, at any later world. -/
structure PlaceAt (w : World) (g n k d : Nat) (Q : List (Er × Ent)) : Prop where
  all : ∀ W, Below w.heap.size w W → ∀ i, i < n → ∃ kp ko kn kq rb ro rc vp vo vn vq sb so sc,
    W.cell? ⟨g, i * 2, none⟩ = some (.slice (some ⟨kp, ko, none⟩) kn kq) ∧ W.cell? ⟨g, i * 2 + 1, none⟩ = some (.slice (some ⟨vp, vo, none⟩) vn vq) ∧
    k < kn ∧ k < vn ∧
    W.cell? ⟨kp, ko + k, none⟩ = some (.slice (some ⟨rb, ro, none⟩) d rc) ∧ d ≤ rc ∧ KIn .i64 W (some ⟨rb, ro, none⟩) ((Q.getD i noQ).2.ks.getD k []) ∧
    W.cell? ⟨vp, vo + k, none⟩ = some (.slice (some ⟨sb, so, none⟩) d sc) ∧ d ≤ sc ∧ KIn .i64 W (some ⟨sb, so, none⟩) ((Q.getD i noQ).2.vs.getD k []) ∧
    (Q.getD i noQ).1.vB k = some ⟨sb, so, none⟩ ∧ (Q.getD i noQ).1.vC k = sc
theorem place_at {w : World} {g n k d : Nat} {Q : List (Er × Ent)} (hQ : Q.length = n) (hc : ∀ j u, (eCs Q)[j]? = some u → w.cell? ⟨g, j, none⟩ = some u) {p : Nat → Prop} (he : ∀ q ∈ Q, EOn p w q.1 q.2) (hd : 0 < d)
    (hq : ∀ q ∈ Q, k < q.2.ks.length ∧ (q.2.ks.getD k []).length = d ∧ k < q.2.vs.length ∧ (q.2.vs.getD k []).length = d) : PlaceAt w g n k d Q := ⟨fun W hW i hi => by
  have hs := getD_some (show i < Q.length by omega)
  have hm : Q.getD i noQ ∈ Q := List.mem_of_getElem? hs
  obtain ⟨h1, h2⟩ := eCs_at Q i _ hs
  have c1 := hc _ _ h1
  have c2 := hc _ _ h2
  have c1' := (hW.cell (p := ⟨g, i * 2, none⟩) (block_lt_of_cell c1)).trans c1
  have c2' := (hW.cell (p := ⟨g, i * 2 + 1, none⟩) (block_lt_of_cell c2)).trans c2
  have e1 := (he _ hm).below hW
  obtain ⟨a1, a2, a3, a4⟩ := hq _ hm
  obtain ⟨kp, ko, rb, ro, f1, f2, f3, f4, f5⟩ := row_at e1.k a1 a2 hd
  obtain ⟨vp, vo, sb, so, g1, g2, g3, g4, g5⟩ := row_at e1.v a3 a4 hd
  rw [f1] at c1'
  rw [g1] at c2'
  exact ⟨kp, ko, _, _, rb, ro, _, vp, vo, _, _, sb, so, _, c1', c2', a1, a3, f4, f3, f5, g4, g3, g5, g2, rfl⟩⟩
theorem slot_off {W : World} {g n j o : Nat} {t : TypeId} {S : List Int} {A : Option Addr} {m c : Nat} (h : W.rowIs g t n (prt .i64 S j)) (hc : W.cell? ⟨g, o, none⟩ = some (.slice A m c)) : False := by
  obtain ⟨cs, hcs, hcn, hci⟩ := h
  rw [cell_of_row _ _ _ _ _ _ hcs] at hc
  have hlt := (Array.getElem?_eq_some_iff.1 hc).1
  rw [hci _ (by omega)] at hc
  unfold prt at hc
  split at hc <;> cases hc
theorem gen_post {Q : Exit → Act → World → Prop} {e : Exit} {a : Act} {w : World} (R : World → Prop) (h0 : R w) (h : ∀ wr, R wr → Q e a wr) : Q e a w := h w h0
theorem hb0c4 {w w' : World} {a : Addr} {v : Value} (hb : Below w.heap.size w w') (h : w.cell? a = some v) : w'.cell? a = some v := (hb.cell (block_lt_of_cell h)).trans h
def kOf (Q : List (Er × Ent)) (k : Nat) : List (List Int) := kAt (past Q) k
def vOf (Q : List (Er × Ent)) (k : Nat) : List (List Int) := vAt (past Q) k
theorem kOf_length (Q : List (Er × Ent)) (k : Nat) : (kOf Q k).length = Q.length := by simp [kOf, kAt, past]
theorem vOf_length (Q : List (Er × Ent)) (k : Nat) : (vOf Q k).length = Q.length := by simp [vOf, vAt, past]
theorem kOf_at (Q : List (Er × Ent)) (k i : Nat) (h : i < Q.length) : (kOf Q k).getD i [] = (Q.getD i noQ).2.ks.getD k [] := by
  unfold kOf kAt past
  rw [List.map_map, List.getD_eq_getElem?_getD, List.getElem?_map, getD_some h]
  rfl
theorem vOf_at (Q : List (Er × Ent)) (k i : Nat) (h : i < Q.length) : (vOf Q k).getD i [] = (Q.getD i noQ).2.vs.getD k [] := by
  unfold vOf vAt past
  rw [List.map_map, List.getD_eq_getElem?_getD, List.getElem?_map, getD_some h]
  rfl
theorem getD_map_at {α β : Type} (L : List α) (f : α → β) (d : α) (e : β) (i : Nat) (h : i < L.length) : (L.map f).getD i e = f (L.getD i d) := by
  rw [List.getD_eq_getElem?_getD, List.getElem?_map, List.getElem?_eq_getElem h, List.getD_eq_getElem?_getD, List.getElem?_eq_getElem h]
  rfl
end Sp
set_option maxRecDepth 100000 in
set_option maxHeartbeats 12800000 in
theorem walk_mix (w0 w : World) (N b wb : Nat) (x : Cfg) (s : ByteArray) (Q : List (Er × Ent)) (v : Value) (X : Option Addr) (c : Nat) (z : List Int) (h : Wk w0 N b wb x s Q v X c z w) (hk : Ok x s) (hp : POn w)
    (k i : Nat) (hi : i < hN x) (h0 : 0 < Q.length) (hn : Q.length ≤ 1000)
    (hq : ∀ q ∈ Q, k < q.2.ks.length ∧ (q.2.ks.getD k []).length = dN x ∧ k < q.2.vs.length ∧ (q.2.vs.getD k []).length = dN x)
    (qb qo qc : Nat) (ql : List Int) (hql : ql.length = dN x) (hqc : dN x ≤ qc) (hqk : KIn .i64 w (some ⟨qb, qo, none⟩) ql) :
    Calls Tryz.prog 93 #[.pointer (some ⟨wb, 0, none⟩), .int .i64 (k : Int), .int .i64 (i : Int), .slice (some ⟨qb, qo, none⟩) (dN x) qc] w (RowSays w (fun v => v) (mixH (nH x) i ql (kOf Q k) (vOf Q k))) := by
  have hgood := hk.good
  obtain ⟨hdx, hhx, _, _⟩ := dims hgood.is
  have hheads := heads hgood
  have hd16 : dN x ≤ 16 := by have := hgood.is.d16; omega
  have hd1 : 1 ≤ dN x := by have := hgood.is.d1; omega
  have hh4 : hN x ≤ 4 := by have := hgood.is.h4; omega
  have hn1 : 0 < nH x := Nat.pos_of_ne_zero fun e => by rw [e, Nat.mul_zero] at hheads; omega
  obtain ⟨F, hF⟩ : ∃ F, F = i * nH x := ⟨_, rfl⟩
  obtain ⟨E, hE⟩ : ∃ E, E = (i + 1) * nH x := ⟨_, rfl⟩
  have hFE : E = F + nH x := by rw [hE, hF, Nat.succ_mul]
  have hEd : E ≤ dN x := by rw [hE, ← hheads]; exact Nat.mul_le_mul_right _ hi
  have hnH : ((nH x : Nat) : Int) = x.d.tdiv x.h := by
    have h4 : 0 ≤ x.d.tdiv x.h := Int.tdiv_nonneg (by have := hgood.is.d1; omega) (by have := hgood.is.h1; omega)
    unfold nH
    omega
  have HHD := Lib.hid (fun W => show Calls Tryz.prog 117 #[.agg #[.int .i64 x.v, .int .i64 x.d, .int .i64 x.h, .int .i64 x.b, .int .i64 x.n, .int .i64 x.c]] W fun e w' => e = .returned (.int .i64 (nH x : Nat)) ∧ Below W.heap.size W w' from by
    have := conf_headDim W x
    rw [if_pos (good_iff.2 hgood), ← hnH] at this
    exact this)
  obtain ⟨g, cap, rfl, hcap, hcells⟩ := h.row h0
  have HPL := Lib.hid (place_at (n := Q.length) (k := k) (d := dN x) rfl hcells h.ents (by omega) hq)
  have HK := Lib.hid (fun W (hW : Below w.heap.size w W) => show W.cell? ⟨wb, 0, none⟩ = some (.pointer (some ⟨b, 0, none⟩)) ∧ W.cell? ⟨b, 0, none⟩ = some (.int .i64 x.v) ∧ W.cell? ⟨b, 1, none⟩ = some (.int .i64 x.d) ∧ W.cell? ⟨b, 2, none⟩ = some (.int .i64 x.h) ∧ W.cell? ⟨b, 3, none⟩ = some (.int .i64 x.b) ∧ W.cell? ⟨b, 4, none⟩ = some (.int .i64 x.n) ∧ W.cell? ⟨b, 5, none⟩ = some (.int .i64 x.c) from by
    obtain ⟨a0, a1, a2, a3, a4, a5, _⟩ := seven (h.step hW).brain
    exact ⟨(three (h.step hW).blk).1, a0, a1, a2, a3, a4, a5⟩)
  have HK1 := Lib.hid (fun W (hW : Below w.heap.size w W) => show W.cell? ⟨wb, 1, none⟩ = some (.slice (some ⟨g, 0, none⟩) Q.length cap) from (three (h.step hW).blk).2.1)
  -- what comes of it
  obtain ⟨S, hS⟩ : ∃ S, S = (kOf Q k).map (scoreH (nH x) i ql) := ⟨_, rfl⟩
  obtain ⟨L, hL⟩ : ∃ L, L = (vOf Q k).map (cutH (nH x) i) := ⟨_, rfl⟩
  have hSl : S.length = Q.length := by rw [hS, List.length_map, kOf_length]
  have hLl : L.length = Q.length := by rw [hL, List.length_map, vOf_length]
  have HSA := Lib.hid (fun j (hj : j < Q.length) => show S.getD j 0 = shift (dot ((ql.drop F).take (nH x)) ((((Q.getD j noQ).2.ks.getD k []).drop F).take (nH x))) 9 from by
    rw [hS, getD_map_at _ _ [] 0 _ (by rw [kOf_length]; exact hj), kOf_at _ _ _ hj, hF]
    rfl)
  have HLA := Lib.hid (fun j (hj : j < Q.length) => show L.getD j [] = (((Q.getD j noQ).2.vs.getD k []).drop F).take (nH x) from by
    rw [hL, getD_map_at _ _ [] [] _ (by rw [vOf_length]; exact hj), vOf_at _ _ _ hj, hF]
    rfl)
  have hkl : ∀ j, j < Q.length → ((Q.getD j noQ).2.ks.getD k []).length = dN x ∧ ((Q.getD j noQ).2.vs.getD k []).length = dN x := fun j hj => by
    have hm : Q.getD j noQ ∈ Q := List.mem_of_getElem? (getD_some hj)
    exact ⟨(hq _ hm).2.1, (hq _ hm).2.2.2⟩
  have hLm : ∀ j, j < Q.length → (L.getD j []).length = nH x := fun j hj => by
    rw [HLA.out j hj, List.length_take, List.length_drop, (hkl j hj).2]
    omega
  have hMP : mixP (weightsL S) L := ⟨weights_in S, weights_some (by omega), by rw [weightsL_length]; omega, fun j hj => (hLm j (by omega)).trans (hLm 0 (by omega)).symm⟩
  have HFIN := Lib.hid (show mixH (nH x) i ql (kOf Q k) (vOf Q k) = mixL (weightsL S) L (nH x) by rw [hS, hL]; rfl)
  rw [HFIN.out]
  have HW := Lib.hid (fun W A (hW : Below w.heap.size w W) (hA : KIn .i64 W A S) => show Calls Tryz.prog 78 #[.slice A Q.length Q.length] W fun e w' => ∃ A c, e = .returned (.slice A Q.length c) ∧ KIn .i64 w' A (weightsL S) ∧ Below W.heap.size W w' from by
    have := soft_weights W A Q.length Q.length S hSl (by omega) hA (hp.below hW (Nat.le_refl _))
    unfold RowSays at this
    rw [weightsL_length, hSl] at this
    exact this)
  have HM := Lib.hid (fun W A c E B C (hA : KIn .i64 W A (weightsL S)) (hE : LIn W E B C L) => soft_mix_ok W A c (weightsL S) E Q.length B C L Q.length (nH x) (by rw [weightsL_length]; exact hSl) hn hLl hA hE hMP (hLm 0 h0) (by omega))
  generalize hR : mixL (weightsL S) L (nH x) = R at HM ⊢
  -- where the cuts lie
  obtain ⟨VA, hVA⟩ : ∃ VA : Nat → Option Addr, VA = fun j => ((Q.getD j noQ).1.vB k).map fun a => a.add F := ⟨_, rfl⟩
  obtain ⟨VC, hVC⟩ : ∃ VC : Nat → Nat, VC = fun j => (Q.getD j noQ).1.vC k - F := ⟨_, rfl⟩
  have HVA := Lib.hid (fun j sb so (e : (Q.getD j noQ).1.vB k = some ⟨sb, so, none⟩) => show VA j = some ⟨sb, so + F, none⟩ from by rw [hVA]; show ((Q.getD j noQ).1.vB k).map _ = _; rw [e]; simp [Addr.add])
  have HVC := Lib.hid (fun j sc (e : (Q.getD j noQ).1.vC k = sc) => show VC j = sc - F from by rw [hVC, ← e])
  have HLIN := Lib.hid (fun W g2 (hW : Below w.heap.size w W) (hr : W.rowIs g2 45 Q.length (slP VA VC (nH x) Q.length)) => show LIn W (some ⟨g2, 0, none⟩) VA VC L from slP_lin hr hLl hLm fun j hj => by
    obtain ⟨_, _, _, _, _, _, _, _, _, _, _, sb, so, _, _, _, _, _, _, _, _, _, _, a, e, _⟩ := HPL.out.all W hW j hj
    rw [HVA.out j sb so e, HLA.out j hj]
    exact kin_cut a (by rw [(hkl j hj).2]; omega))
  have HQK := Lib.hid (fun W (hW : Below w.heap.size w W) => (kin_cut (n := nH x) (F := F) (hqk.below hW (Nat.le_refl _)) (by omega)).holds)
  have HKK := Lib.hid (fun W j (hj : j < Q.length) rb ro (a : KIn .i64 W (some ⟨rb, ro, none⟩) ((Q.getD j noQ).2.ks.getD k [])) => (kin_cut (n := nH x) (F := F) a (by rw [(hkl j hj).1]; omega)).holds)
  have HLN := Lib.hid (And.intro (show ((ql.drop F).take (nH x)).length = nH x by rw [List.length_take, List.length_drop]; omega) (fun j (hj : j < Q.length) => show ((((Q.getD j noQ).2.ks.getD k []).drop F).take (nH x)).length = nH x by rw [List.length_take, List.length_drop, (hkl j hj).1]; omega))
  have HCUT := Lib.hid (fun (rb ro rc : Nat) (hrc : dN x ≤ rc) (W : World) => cut_lh rb ro (dN x) rc F E (F : Int) (E : Int) rfl rfl (by omega) (by omega) (by omega) (nH x) (by omega) W)
  have HNH := Lib.hid (show 0 < nH x ∧ nH x ≤ 16 by omega)
  have W1 := Lib.hid (show wrap64 ((i : Int) * ((nH x : Nat) : Int)) = (F : Int) from by rw [hF]; exact vc_mul_w _ _ (by rw [← hF]; omega))
  have W1p := Lib.hid (show IntKind.i64.wrap ((i : Int) * ((nH x : Nat) : Int)) = (F : Int) from by rw [hF]; exact vc_mul_i _ _ (by rw [← hF]; omega))
  have W2 := Lib.hid (show wrap64 ((i : Int) + 1) = ((i + 1 : Nat) : Int) from (IntWalk.wrap64_in _ (by omega)).trans (by omega))
  have W2p := Lib.hid (show IntKind.i64.wrap ((i : Int) + 1) = ((i + 1 : Nat) : Int) from (IntWalk.i64_in _ (by omega)).trans (by omega))
  have W3 := Lib.hid (show wrap64 (((i + 1 : Nat) : Int) * ((nH x : Nat) : Int)) = (E : Int) from by rw [hE]; exact vc_mul_w _ _ (by rw [← hE]; omega))
  have W3p := Lib.hid (show IntKind.i64.wrap (((i + 1 : Nat) : Int) * ((nH x : Nat) : Int)) = (E : Int) from by rw [hE]; exact vc_mul_i _ _ (by rw [← hE]; omega))
  generalize i + 1 = i1 at W2 W2p W3 W3p
  have HQL := Lib.hid (And.intro h0 hn)
  have HSL := Lib.hid hSl
  clear hS hL hVA hVC hkl hLm hMP hR hq hnH hheads hd16 hd1 hh4 hn1 hF hE hFE hEd hgood hdx hhx hSl hLl hp h hk hi hcap hcells HFIN hql hqk h0 hn
  generalize nH x = m at *
  generalize dN x = d at *
  generalize hqn : Q.length = n at *
  obtain ⟨i0, hi0, hz0, hz1, hz2⟩ := info_parts info_int
  obtain ⟨j0, hj0, hy0, hy1, hy2⟩ := info_parts info_ints
  have HI := Lib.hid hi0
  have HZ0 := Lib.hid hz0
  have HZ1 := Lib.hid hz1
  have HZ2 := Lib.hid hz2
  have HJ0 := Lib.hid hj0
  have HY0 := Lib.hid hy0
  have HY1 := Lib.hid hy1
  have HY2 := Lib.hid hy2
  clear hi0 hz0 hz1 hz2 hj0 hy0 hy1 hy2 hqn
  have a1 := W1.out
  have a1' := W1p.out
  have a2 := W2.out
  have a2' := W2p.out
  have a3 := W3.out
  have a3' := W3p.out
  have B0 := Lib.hid (show Below w.heap.size w w.drew from below_drewN (Below.refl _ _) 1)
  have k0 := HK.out _ B0.out
  go_enter Tryz.func93, Tryz.ntmps93
  go_wp2_with (fail)
  go_region_held3 (fun W : World => W.cell? ⟨wb, 0, none⟩ = some (.pointer (some ⟨b, 0, none⟩)) ∧ W.cell? ⟨b, 0, none⟩ = some (.int .i64 x.v) ∧ W.cell? ⟨b, 1, none⟩ = some (.int .i64 x.d) ∧ W.cell? ⟨b, 2, none⟩ = some (.int .i64 x.h) ∧ W.cell? ⟨b, 3, none⟩ = some (.int .i64 x.b) ∧ W.cell? ⟨b, 4, none⟩ = some (.int .i64 x.n) ∧ W.cell? ⟨b, 5, none⟩ = some (.int .i64 x.c)) (first | exact k0 | assumption) (first
    | (go_at_call 117; (with_reducible refine (HHD.out _).mono ?_); rintro e w1 ⟨rfl, b1⟩; have B1 := Lib.hid (B0.out.trans (b1.mono B0.out.size)); have k1 := HK.out _ B1.out; clear b1)
    | (go_at_call 117; (with_reducible refine (HHD.out _).mono ?_); rintro e w2 ⟨rfl, b2⟩; have B2 := Lib.hid (B1.out.trans (b2.mono B1.out.size)); have k2 := HK.out _ B2.out; clear b2))
  clear a1 a1' a2 a2' a3 a3' k0 k1 k2 HHD
  have c1 := HK1.out _ B2.out
  have B3 := Lib.hid (B2.out.alloc B2.out.size (.cells (madeCells #[.int .i64 0] n) 3))
  have c2 := HK1.out _ B3.out
  have B4 := Lib.hid (B3.out.alloc B3.out.size (.cells (madeCells #[.slice none 0 0] n) 45))
  have c3 := HK1.out _ B4.out
  go_wp2_with (first
    | (at_make; refine wpList_make_row _ rfl _ _ 45 rfl 3 i0 (.int .i64 0) Tryz.underlying45 HI.out HZ0.out HZ1.out rfl .i64 .i64 n rfl rfl (by rw [HZ2.out]; have := HQL.out.2; omega) (by have := HQL.out.2; omega) ?_)
    | (at_make; refine wpList_make_row _ rfl _ _ 27 rfl 45 j0 (.slice none 0 0) Tryz.underlying27 HJ0.out HY0.out HY1.out rfl .i64 .i64 n rfl rfl (by rw [HY2.out]; have := HQL.out.2; omega) (by have := HQL.out.2; omega) ?_))
  clear c1 c2 c3
  have HR1 := Lib.hid (show ((w2.alloc (.cells (madeCells #[.int .i64 0] n) 3)).alloc (.cells (madeCells #[.slice none 0 0] n) 45)).rowIs w2.heap.size 3 n (prt .i64 S 0) from ((World.rowIs_made w2 (.int .i64 0) n 3).alloc _).congr fun i _ => by rw [prt_none])
  have HR2 := Lib.hid (show ((w2.alloc (.cells (madeCells #[.int .i64 0] n) 3)).alloc (.cells (madeCells #[.slice none 0 0] n) 45)).rowIs (w2.heap.size + 1) 45 n (slP VA VC m 0) from by
    have := (World.rowIs_made (w2.alloc (.cells (madeCells #[.int .i64 0] n) 3)) (.slice none 0 0) n 45).congr (g := slP VA VC m 0) fun i _ => by rw [slP_none]
    rwa [World.size_alloc] at this)
  have HGE := Lib.hid B2.out.size
  obtain ⟨g1, hg1⟩ : ∃ g1, g1 = w2.heap.size := ⟨_, rfl⟩
  obtain ⟨g2, hg2⟩ : ∃ g2, g2 = w2.heap.size + 1 := ⟨_, rfl⟩
  rw [← hg1] at HR1 HGE
  rw [← hg2] at HR2
  rw [← hg2, ← hg1]
  have HNE := Lib.hid (show g1 ≠ g2 ∧ w.heap.size ≤ g1 ∧ w.heap.size ≤ g2 by have := HGE.out; omega)
  generalize (w2.alloc (.cells (madeCells #[.int .i64 0] n) 3)).alloc (.cells (madeCells #[.slice none 0 0] n) 45) = w5 at HR1 HR2 B4 ⊢
  clear hg1 hg2 HGE B0 B1 B2 B3 HK HK1
  go_loopw [53] (fun i wr => ∃ j : Nat, i = .int .i64 (j : Int) ∧ j ≤ n ∧ wr.rowIs g1 3 n (prt .i64 S j) ∧ wr.rowIs g2 45 n (slP VA VC m j) ∧ Below w.heap.size w wr) (fun i _ => match i with | .int _ k => n - k.toNat | _ => 0)
  case atStart => exact ⟨0, rfl, Nat.zero_le _, HR1.out, HR2.out, B4.out⟩
  case round =>
    clear HR1 HR2 B4
    obtain ⟨j, rfl, hj, hr1, hr2, hb⟩ := hrel
    have HR1 := Lib.hid hr1
    have HR2 := Lib.hid hr2
    have HB := Lib.hid hb
    clear hr1 hr2 hb
    have x2 : 0 ≤ (j : Int) := by omega
    by_cases hlt : j < n
    · have x0 : (j : Int) < (n : Int) := by omega
      have x1 : decide ((j : Int) < (n : Int)) = true := decide_eq_true x0
      have HJ := Lib.hid (show j + 1 ≤ n by omega)
      obtain ⟨kp, ko, kn, kq, rb, ro, rc, vp, vo, vn, vq, sb, so, sc, p0, p1, p2, p3, p4, p5, p6, p7, p8, p9, pA, pB⟩ := HPL.out.all wr HB.out j hlt
      have y2 : 0 ≤ (k : Int) := by omega
      have y0 : (k : Int) < (kn : Int) := by omega
      have y1 : (k : Int) < (vn : Int) := by omega
      have HV1 := Lib.hid (HVA.out j sb so pA)
      have HV2 := Lib.hid (HVC.out j sc pB)
      have HXJ := Lib.hid (HSA.out j hlt)
      have HBE := Lib.hid ((Below.refl wr.heap.size wr).alloc (Nat.le_refl _) (.cells #[.slice (some ⟨kp, ko, none⟩) kn kq, .slice (some ⟨vp, vo, none⟩) vn vq] 29 (0, 0)))
      have hen := heap_alloc_new wr (.cells #[.slice (some ⟨kp, ko, none⟩) kn kq, .slice (some ⟨vp, vo, none⟩) vn vq] 29 (0, 0))
      have HCT1 := Lib.hid (HCUT.out qb qo qc)
      have ct2 := HCUT.out rb ro rc p5
      have HCT3 := Lib.hid (HCUT.out sb so sc p8)
      clear p2 p3 p5 p8 pA pB
      have c4 := hb0c4 HBE.out p4
      have c7 := Lib.hid (hb0c4 HBE.out p7)
      have e0 : (wr.alloc (.cells #[.slice (some ⟨kp, ko, none⟩) kn kq, .slice (some ⟨vp, vo, none⟩) vn vq] 29 (0, 0))).cell? ⟨wr.heap.size, 0, none⟩ = some (.slice (some ⟨kp, ko, none⟩) kn kq) := by rw [cell_of_row _ _ _ _ _ _ hen]; rfl
      have e1 := Lib.hid (show (wr.alloc (.cells #[.slice (some ⟨kp, ko, none⟩) kn kq, .slice (some ⟨vp, vo, none⟩) vn vq] 29 (0, 0))).cell? ⟨wr.heap.size, 1, none⟩ = some (.slice (some ⟨vp, vo, none⟩) vn vq) by rw [cell_of_row _ _ _ _ _ _ hen]; rfl)
      have hr1 := HR1.out.alloc (.cells #[.slice (some ⟨kp, ko, none⟩) kn kq, .slice (some ⟨vp, vo, none⟩) vn vq] 29 (0, 0))
      have f1 := hr1.frozen j
      have c1 := hr1.cell hlt
      have ct1 := HCT1.out hqc
      have HDOT := Lib.hid (dot_any qb (qo + F) m (qc - F) rb (ro + F) m (rc - F) _ _ (wr.alloc (.cells #[.slice (some ⟨kp, ko, none⟩) kn kq, .slice (some ⟨vp, vo, none⟩) vn vq] 29 (0, 0))).drew HLN.out.1 (HLN.out.2 j hlt) (by have := HNH.out; unfold maxLen; omega) (by have := HNH.out; unfold maxLen; omega) (HQK.out _ (HB.out.trans ((below_drewN HBE.out 1).mono HB.out.size))) (HKK.out _ j hlt rb ro (p6.below (below_drewN HBE.out 1) (Nat.le_refl _))))
      have HDI := Lib.hid (dot_in ((ql.drop F).take m) ((((Q.getD j noQ).2.ks.getD k []).drop F).take m))
      have HAFT := Lib.hid (fun q => show (fun W : World => W.rowIs g1 3 n (prt .i64 S (j + 1)) ∧ W.rowIs g2 45 n (slP VA VC m j) ∧ Below w.heap.size w W ∧ W.cell? ⟨wr.heap.size, 1, none⟩ = some (.slice (some ⟨vp, vo, none⟩) vn vq) ∧ W.cell? ⟨vp, vo + k, none⟩ = some (.slice (some ⟨sb, so, none⟩) d sc)) (((wr.alloc (.cells #[.slice (some ⟨kp, ko, none⟩) kn kq, .slice (some ⟨vp, vo, none⟩) vn vq] 29 (0, 0))).drewN q).setCell ⟨g1, j, none⟩ (.int .i64 (shift (dot ((ql.drop F).take m) ((((Q.getD j noQ).2.ks.getD k []).drop F).take m)) 9))) from by
        have ho : ∀ a : Addr, a.block ≠ g1 → (((wr.alloc (.cells #[.slice (some ⟨kp, ko, none⟩) kn kq, .slice (some ⟨vp, vo, none⟩) vn vq] 29 (0, 0))).drewN q).setCell ⟨g1, j, none⟩ (.int .i64 (shift (dot ((ql.drop F).take m) ((((Q.getD j noQ).2.ks.getD k []).drop F).take m)) 9))).cell? a = (wr.alloc (.cells #[.slice (some ⟨kp, ko, none⟩) kn kq, .slice (some ⟨vp, vo, none⟩) vn vq] 29 (0, 0))).cell? a := fun a ha => World.cell?_of_block (w := wr.alloc (.cells #[.slice (some ⟨kp, ko, none⟩) kn kq, .slice (some ⟨vp, vo, none⟩) vn vq] 29 (0, 0))) (heap_setCell_other _ ⟨g1, j, none⟩ a.block _ ha)
        refine ⟨prt_set (w := (wr.alloc (.cells #[.slice (some ⟨kp, ko, none⟩) kn kq, .slice (some ⟨vp, vo, none⟩) vn vq] 29 (0, 0))).drewN q) (hr1.of_block rfl) HXJ.out, ((HR2.out.alloc (.cells #[.slice (some ⟨kp, ko, none⟩) kn kq, .slice (some ⟨vp, vo, none⟩) vn vq] 29 (0, 0))).of_block (heap_setCell_other _ ⟨g1, j, none⟩ g2 _ HNE.out.1.symm)), (below_drewN (HB.out.trans (HBE.out.mono HB.out.size)) q).setCell HNE.out.2.1 _, ?_, ?_⟩
        · rw [ho _ (show wr.heap.size ≠ g1 by have := HR1.out.lt; omega)]
          exact e1.out
        · rw [ho _ (show vp ≠ g1 from fun e => slot_off HR1.out (e ▸ p7))]
          exact c7.out)
      have hkp : kp ≠ g1 := fun e => slot_off HR1.out (e ▸ p4)
      have hwr : wr.heap.size ≠ g1 := by have := HR1.out.lt; omega
      have HST := Lib.hid (fun (W : World) (u : Value) (hS : W.cell? ⟨wr.heap.size, 0, none⟩ = some (.slice (some ⟨kp, ko, none⟩) kn kq) ∧ W.cell? ⟨kp, ko + k, none⟩ = some (.slice (some ⟨rb, ro, none⟩) d rc)) => show (fun W : World => W.cell? ⟨wr.heap.size, 0, none⟩ = some (.slice (some ⟨kp, ko, none⟩) kn kq) ∧ W.cell? ⟨kp, ko + k, none⟩ = some (.slice (some ⟨rb, ro, none⟩) d rc)) (W.setCell ⟨g1, j, none⟩ u) from ⟨(World.cell?_of_block (w := W) (heap_setCell_other _ ⟨g1, j, none⟩ _ _ hwr)).trans hS.1, (World.cell?_of_block (w := W) (heap_setCell_other _ ⟨g1, j, none⟩ _ _ hkp)).trans hS.2⟩)
      clear hr1 hen hqc hkp hwr
      have HFT := Lib.hid (show Fits (dot ((ql.drop F).take m) ((((Q.getD j noQ).2.ks.getD k []).drop F).take m)) from ⟨by have := HDI.out; omega, by have := HDI.out; omega⟩)
      generalize dot ((ql.drop F).take m) ((((Q.getD j noQ).2.ks.getD k []).drop F).take m) = dt at HDOT HFT HAFT HXJ
      go_wp2_with (fail)
      have k0 : ((fun W : World => W.cell? ⟨wr.heap.size, 0, none⟩ = some (.slice (some ⟨kp, ko, none⟩) kn kq) ∧ W.cell? ⟨kp, ko + k, none⟩ = some (.slice (some ⟨rb, ro, none⟩) d rc)) (wr.alloc (.cells #[.slice (some ⟨kp, ko, none⟩) kn kq, .slice (some ⟨vp, vo, none⟩) vn vq] 29 (0, 0))).drew) := ⟨e0, c4⟩
      go_region_held3 (fun W : World => W.cell? ⟨wr.heap.size, 0, none⟩ = some (.slice (some ⟨kp, ko, none⟩) kn kq) ∧ W.cell? ⟨kp, ko + k, none⟩ = some (.slice (some ⟨rb, ro, none⟩) d rc)) (first | exact k0 | assumption | exact HST.out _ _ (by assumption)) (first
        | (go_at_call 97; (with_reducible refine HDOT.out.mono ?_); rintro e w6 ⟨rfl, d6, rfl⟩)
        | (go_at_call 96; (with_reducible refine (shift_any dt 9 _ HFT.out).mono ?_); rintro e w7 ⟨rfl, d7, rfl⟩))
      refine gen_post (fun W : World => W.rowIs g1 3 n (prt .i64 S (j + 1)) ∧ W.rowIs g2 45 n (slP VA VC m j) ∧ Below w.heap.size w W ∧ W.cell? ⟨wr.heap.size, 1, none⟩ = some (.slice (some ⟨vp, vo, none⟩) vn vq) ∧ W.cell? ⟨vp, vo + k, none⟩ = some (.slice (some ⟨sb, so, none⟩) d sc)) (HAFT.out _) ?_
      rintro w8 ⟨u1, u2, u3, u4, u5⟩
      have HR1' := Lib.hid u1
      have HB' := Lib.hid u3
      have f2 := u2.frozen j
      have c2 := u2.cell hlt
      have ct3 := HCT3.out
      have HS2 := Lib.hid (show (w8.setCell ⟨g2, j, none⟩ (.slice (some ⟨sb, so + F, none⟩) m (sc - F))).rowIs g2 45 n (slP VA VC m (j + 1)) from slP_set u2 HV1.out HV2.out)
      have HS1 := Lib.hid (show (w8.setCell ⟨g2, j, none⟩ (.slice (some ⟨sb, so + F, none⟩) m (sc - F))).rowIs g1 3 n (prt .i64 S (j + 1)) from u1.of_block (heap_setCell_other _ ⟨g2, j, none⟩ g1 _ HNE.out.1))
      have HSB := Lib.hid (show Below w.heap.size w (w8.setCell ⟨g2, j, none⟩ (.slice (some ⟨sb, so + F, none⟩) m (sc - F))) from u3.setCell HNE.out.2.2 _)
      have x3 := IntWalk.wrap64_in ((j : Int) + 1) (by have := HQL.out.2; omega)
      have HLT := Lib.hid hlt
      clear u1 u2 u3 k0 e0 c4 f1 c1 ct1 ct2 HST HAFT HFT HDOT HDI p0 p1 p4 p6 p7 p9
      go_wp2_with (fail)
      rw [x3]
      exact ⟨⟨j + 1, rfl, HJ.out, HS1.out, HS2.out, HSB.out⟩, vc_less j n HLT.out⟩
    · have hke : j = n := by omega
      have x0 : ¬ (j : Int) < (n : Int) := by omega
      have x1 : decide ((j : Int) < (n : Int)) = false := decide_eq_false x0
      rw [hke] at HR1 HR2
      have HK1 := Lib.hid (show KIn .i64 wr (some ⟨g1, 0, none⟩) S from KIn.row (HR1.out.congr fun i hi => prt_all _ _ _ _ hi) (Nat.le_of_eq HSL.out))
      have HL2 := Lib.hid (HLIN.out wr g2 HB.out HR2.out)
      clear hke hlt
      go_wp2_with (fail)
      refine (HW.out wr _ HB.out HK1.out).mono ?_
      rintro e wa ⟨A1, c1, rfl, ka, ba⟩
      have HBA := Lib.hid (HB.out.trans (ba.mono HB.out.size))
      have HKA := Lib.hid ka
      have HLA2 := Lib.hid (HL2.out.below ba (Nat.le_refl _))
      clear ka ba
      go_wp2_with (fail)
      refine (HM.out wa _ _ _ _ _ HKA.out HLA2.out).mono ?_
      rintro e wb' ⟨A2, c2, rfl, kb, bb⟩
      have HBB := Lib.hid (HBA.out.trans (bb.mono HBA.out.size))
      have HKB := Lib.hid kb
      clear kb bb
      go_wp2_with (fail)
      exact bodyPost_ret (results_tmp rfl _ _ _) rfl ⟨A2, c2, rfl, HKB.out, HBB.out⟩
end Go.Proofs.YtkdkeokldcehhaaGreatDoor
