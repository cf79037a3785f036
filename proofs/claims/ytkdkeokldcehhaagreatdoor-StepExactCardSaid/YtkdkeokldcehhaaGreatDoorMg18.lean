/-
  What a walk's attend works on: the places with the token's own, that is being made. No program's function here. No conditions but those of each lemma.
  What a walk's enter leaves: the token's row, and a new place with empty rows. No program's function here. No conditions but those of each lemma.
  A run of many tokens, token by token and block by block, in plain words. No program's function here. No conditions but those of each lemma.
  The law's own comparison of two rows of numbers: whether they are the same. Conditions: the rows' numbers are there.
  Package step: what Same answers, and the library's slices.Equal and EqualFunc on which it stands. Conditions: the rows and entries are there.
  What StepRuns needs of runs in parts, in plain words. No program's function here. No conditions but those of each lemma.
  A row of entries that a law, or a function, gathers; whether tokens can't be run. No program's function here. No conditions but those of each lemma.
  A region that draws its order and ends in one operation that waits for all others (a store into what the region has loaded): loads are taken first under a condition that need hold up to that operation alone. No program here. No conditions.
  Package step: what a walk's enter does. Conditions: a walk stands in its block; the token is the model's, and so is the place.
-/
import Derived.Test.YtkdkeokldcehhaaGreatDoorMg16
import Derived.Test.YtkdkeokldcehhaaGreatDoorMg17
import Derived.Test.YtkdkeokldcehhaaGreatDoorMg13
import Derived.Test.YtkdkeokldcehhaaGreatDoorMg6
import Derived.Test.YtkdkeokldcehhaaGreatDoorMg11
import Derived.Test.YtkdkeokldcehhaaGreatDoorMg1
import Derived.Shelf.Abstract
import Derived.BigQuiet
import Derived.Deep.RegionHeld3
import Derived.StillTail
import Derived.Deep.AppendLies
set_option maxRecDepth 100000
namespace Go.Proofs.YtkdkeokldcehhaaGreatDoor
open Go.ChangeShapes Go.WideShapes Go.ChangeAt Go.RowKit Nm Cf Vc Br Sf Sp

namespace Sp
theorem all_one (zs : List Int) : ∀ u ∈ icells zs, u.oneCell' = true := fun u hu => by
  obtain ⟨z, _, rfl⟩ := List.mem_map.1 hu
  rfl
theorem kin_src {w : World} {b o : Nat} {zs : List Int} (h : KIn .i64 w (some ⟨b, o, none⟩) zs) : ∀ j u, (icells zs)[j]? = some u → w.cell? ((⟨b, o, none⟩ : Addr).add j) = some u := fun j u hj => by
  by_cases hl : j < zs.length
  · rw [icells_at zs j hl] at hj
    injection hj with hj
    rw [Addr.add_lit, ← hj]
    exact h.holds j hl
  · rw [List.getElem?_eq_none (by rw [icells_length]; omega)] at hj
    cases hj
theorem below1 {w0 w wz : World} {B : Nat} {v : Value} {L : List Int} (hb : Below B w0 w) (hB : w0.heap.size = B) (ho : Own w B v L) (hg : w.grownBy wz v.ownBlock) : Below B w0 wz :=
  hb.grown hg (by have := hb.size; omega) (fun i hi => (ho.lt i hi).1)
theorem own_two {w : World} {base g N cap : Nat} {l m : List Int} (hl : (l ++ m).length = N) (h : w.ownsRow base 3 1 (.slice (some ⟨g, 0, none⟩) N cap) N (icells l ++ icells m)) : Own w base (.slice (some ⟨g, 0, none⟩) N cap) (l ++ m) := by
  unfold Own
  rw [hl, show icells (l ++ m) = icells l ++ icells m from List.map_append]
  exact h
/-- Where the row is cut. -/
theorem row_src9 {w : World} {b o : Nat} {zs : List Int} (h : KIn .i64 w (some ⟨b, o, none⟩) zs) : ∀ j u, (icells zs)[j]? = some u → w.cell? ((⟨b, o, none⟩ : Addr).add j) = some u := kin_src h
theorem heads_more (n : Nat) (q : List Int) (K V : List (List Int)) (j : Nat) : (List.range (j + 1)).flatMap (fun i => mixH n i q K V) = (List.range j).flatMap (fun i => mixH n i q K V) ++ mixH n j q K V := by
  rw [List.range_succ, List.flatMap_append]
  simp
/-- What was stored beside a row of numbers. -/
theorem kin_past {W : World} {g k n : Nat} {t : TypeId} {B : Nat → Option Addr} {C : Nat → Nat} {L : List (List Int)} {A : Option Addr} {zs : List Int} {u : Value} (h : KIn .i64 W A zs) (hr : W.rowIs g t n (slC B C L)) : KIn .i64 (W.setCell ⟨g, k, none⟩ u) A zs :=
  KIn.moved h (off (off_row hr (slC_ints B C L)) h) fun j hj => heap_setCell_other _ ⟨g, k, none⟩ j _ hj
theorem cell_past {W : World} {g k : Nat} {a : Addr} {u v : Value} (h : W.cell? a = some v) (hne : a.block ≠ g) : (W.setCell ⟨g, k, none⟩ u).cell? a = some v := (World.cell?_of_block (w := W) (heap_setCell_other _ ⟨g, k, none⟩ a.block _ hne)).trans h
theorem kOf_append (Q : List (Er × Ent)) (r : Er) (e : Ent) (k : Nat) : kOf (Q ++ [(r, e)]) k = kOf Q k ++ [e.ks.getD k []] := by simp [kOf, kAt, past]
theorem vOf_append (Q : List (Er × Ent)) (r : Er) (e : Ent) (k : Nat) : vOf (Q ++ [(r, e)]) k = vOf Q k ++ [e.vs.getD k []] := by simp [vOf, vAt, past]
/-- What is asked of the places ahead. -/
def GoodQ (x : Cfg) (Q : List (Er × Ent)) : Prop := ∀ q ∈ Q, goodE x q.2 = true
theorem good_at {x : Cfg} {e : Ent} (h : goodE x e = true) {k : Nat} (hk : k < bN x) : k < e.ks.length ∧ (e.ks.getD k []).length = dN x ∧ k < e.vs.length ∧ (e.vs.getD k []).length = dN x := by
  obtain ⟨h1, h2⟩ := goodE_iff.1 h
  obtain ⟨a1, a2⟩ := rowsB_iff.1 h1
  obtain ⟨b1, b2⟩ := rowsB_iff.1 h2
  have hm : ∀ {L : List (List Int)}, k < L.length → L.getD k [] ∈ L := fun {L} hl => by
    rw [List.getD_eq_getElem?_getD, List.getElem?_eq_getElem hl]
    exact List.getElem_mem _
  exact ⟨by omega, (rowB_iff.1 (a2 _ (hm (by omega)))).1, by omega, (rowB_iff.1 (b2 _ (hm (by omega)))).1⟩
section
variable {w0 W W' : World} {N b wb kb vb : Nat} {x : Cfg} {s : ByteArray} {Q : List (Er × Ent)} {r : Er} {e : Ent} {v : Value} {X : Option Addr} {c : Nat} {z : List Int}
/-- Where the last place's cells lie. -/
theorem Wp.lastCells (h : Wp w0 N b wb kb vb x s Q r e v X c z W) : ∃ g cap, v = .slice (some ⟨g, 0, none⟩) (Q.length + 1) cap ∧ Q.length + 1 ≤ cap ∧
    W.cell? ⟨g, Q.length * 2, none⟩ = some (.slice (some ⟨kb, 0, none⟩) e.ks.length r.kc) ∧ W.cell? ⟨g, Q.length * 2 + 1, none⟩ = some (.slice (some ⟨vb, 0, none⟩) e.vs.length r.vc) := by
  obtain ⟨g, cap, hv, hcap, hc⟩ := h.wk.row (by simp)
  have hl : (Q ++ [(r, e)])[Q.length]? = some (r, e) := by simp
  obtain ⟨h1, h2⟩ := eCs_at _ _ _ hl
  have c1 := hc _ _ h1
  have c2 := hc _ _ h2
  have e1 : (Q ++ [(r, e)]).length = Q.length + 1 := by simp
  rw [e1] at hv hcap
  refine ⟨g, cap, hv, hcap, ?_, ?_⟩
  · rw [← h.ka]; exact c1
  · rw [← h.va]; exact c2
end
end Sp
end Go.Proofs.YtkdkeokldcehhaaGreatDoor
namespace Go.Proofs.YtkdkeokldcehhaaGreatDoor
open Go.ChangeShapes Go.WideShapes Go.ChangeAt Go.RowKit Nm Cf Vc Br Sf Sp

namespace Sp
theorem rowZ_small (x : Cfg) (s : ByteArray) (p k a : Int) (i : Nat) : -128 ≤ (rowZ x s p k a).getD i 0 ∧ (rowZ x s p k a).getD i 0 ≤ 127 := by
  unfold rowZ
  split
  · generalize (colsZ x p).toNat = y
    generalize a.toNat = m
    by_cases hi : i < y
    · rw [rowD_at _ _ _ _ hi]
      by_cases hj : m * y + i < (listD (pieceB x s p k)).length
      · exact listD_I8 _ _ hj
      · rw [List.getD_eq_getElem?_getD, List.getElem?_eq_none (by omega)]
        decide
    · rw [List.getD_eq_getElem?_getD, List.getElem?_eq_none (by rw [rowD_length]; omega)]
      decide
  · simp
theorem small_sum {a b : Int} (ha : -128 ≤ a ∧ a ≤ 127) (hb : -128 ≤ b ∧ b ≤ 127) : mul (sat (sum [a, b])) 16 0 = sat (16 * (a + b)) := by
  have h1 : sum [a, b] = a + b := by
    show plus (plus 0 a) b = a + b
    have t1 : term a = a := by unfold term clamp; (repeat' split) <;> omega
    have t2 : term b = b := by unfold term clamp; (repeat' split) <;> omega
    unfold plus
    rw [t1, t2]
    unfold clamp
    (repeat' split) <;> omega
  have h2 : sat (a + b) = a + b := by unfold sat clamp; (repeat' split) <;> omega
  rw [h1, h2]
  have h3 : clamp (a + b) (-1073741824) 1073741824 = a + b := by unfold clamp; (repeat' split) <;> omega
  have h4 : clamp 16 (-1073741824) 1073741824 = 16 := by decide
  unfold mul
  rw [h3, h4]
  unfold shift
  rw [if_pos (by omega), Int.mul_comm]
theorem start_scale (x : Cfg) (s : ByteArray) (tok : Int) (place : Nat) : scaleL (plusL [rowZ x s 0 0 tok, rowZ x s 1 0 (place : Int)] (dN x)) 16 0 = startL x s tok place := by
  unfold scaleL plusL startL
  rw [List.map_map]
  refine List.map_congr_left fun i _ => ?_
  exact small_sum (rowZ_small x s 0 0 tok i) (rowZ_small x s 1 0 place i)
theorem row_len {x : Cfg} {s : ByteArray} (h : Ok x s) {p : Nat} (hp : p < 2) {a : Int} (h0 : 0 ≤ a) (h1 : a < rowsZ x (p : Int)) : (rowZ x s (p : Int) 0 a).length = dN x := by
  have hi : isZ x (p : Int) 0 = true := isZ_iff.2 ⟨h.good, by omega, by omega, by omega, by
    unfold timesZ
    split
    · have := h.good.is.b1; omega
    · omega⟩
  unfold rowZ
  rw [if_pos ⟨hi, h0, h1⟩, rowD_length]
  have : p = 0 ∨ p = 1 := by omega
  rcases this with rfl | rfl <;> rfl
theorem replicate_getD (n i : Nat) : (List.replicate n ([] : List Int)).getD i [] = [] := by
  rw [List.getD_eq_getElem?_getD]
  by_cases h : i < n
  · simp [h]
  · rw [List.getElem?_eq_none (by simp; omega)]
    rfl
theorem slC_nil (n i : Nat) : slC (fun _ => none) (fun _ => 0) (List.replicate n []) i = .slice none 0 0 := by
  unfold slC
  rw [replicate_getD]
  rfl
theorem lon_nil {p : Nat → Prop} {W : World} {g n : Nat} {t : TypeId} (h : W.rowIs g t n (fun _ => .slice none 0 0)) (hp : p g) : LOn p W (some ⟨g, 0, none⟩) (fun _ => none) (fun _ => 0) (List.replicate n []) := by
  refine ⟨fun _ => ⟨g, 0, rfl, fun i hi => ⟨?_, ?_⟩⟩, fun _ a ha => by injection ha with ha; rw [← ha]; exact hp, fun i _ h0 => ?_, fun i _ => ?_⟩
  · rw [List.length_replicate] at hi
    rw [Nat.zero_add, h.cell hi, replicate_getD]
    rfl
  · rw [replicate_getD]
    exact KIn.nil _ _ _
  · rw [replicate_getD] at h0
    exact absurd h0 (Nat.lt_irrefl _)
  · rw [replicate_getD]
    exact Nat.le_refl _
/-- A new entry's rows. -/
def erN (kb vb n : Nat) : Er := ⟨some ⟨kb, 0, none⟩, n, fun _ => none, fun _ => 0, some ⟨vb, 0, none⟩, n, fun _ => none, fun _ => 0⟩
def enN (n : Nat) : Ent := ⟨List.replicate n [], List.replicate n []⟩
theorem Wp.new {w0 W : World} {N b wb kb vb n : Nat} {x : Cfg} {s : ByteArray} {Q : List (Er × Ent)} {r : Er} {v : Value} {X : Option Addr} {c : Nat} {z : List Int} (h : Wp w0 N b wb kb vb x s Q r (enN n) v X c z W) : Fr N r (enN n) :=
  ⟨fun _ a ha => by rw [h.ka] at ha; injection ha with ha; rw [← ha]; exact h.ge.1, fun _ a ha => by rw [h.va] at ha; injection ha with ha; rw [← ha]; exact h.ge.2,
    fun i _ h0 => by
      have e : (enN n).ks.getD i [] = [] := replicate_getD n i
      rw [e] at h0
      exact absurd h0 (Nat.lt_irrefl _),
    fun i _ h0 => by
      have e : (enN n).vs.getD i [] = [] := replicate_getD n i
      rw [e] at h0
      exact absurd h0 (Nat.lt_irrefl _)⟩
theorem Wk.entered {w0 w6 Wc wz : World} {N b wb : Nat} {x : Cfg} {s : ByteArray} {Q : List (Er × Ent)} {v : Value} {X : Option Addr} {c : Nat} {z : List Int} {kb vb n g cap : Nat} (h : Wk w0 N b wb x s Q v X c z w6) (hX : Ft (fun j => v.ownBlock ≠ some j) X z.length)
    (hb : Below w6.heap.size w6 Wc) (hk : w6.heap.size ≤ kb ∧ kb < Wc.heap.size) (hv : w6.heap.size ≤ vb ∧ vb < Wc.heap.size) (ne : kb ≠ vb) (kr : Wc.rowIs kb 45 n (fun _ => .slice none 0 0)) (vr : Wc.rowIs vb 45 n (fun _ => .slice none 0 0))
    (hown : wz.ownsRow N 29 2 (.slice (some ⟨g, 0, none⟩) (Q.length + 1) cap) (Q.length + 1) (eCs Q ++ [.slice (some ⟨kb, 0, none⟩) n n, .slice (some ⟨vb, 0, none⟩) n n]))
    (hgrow : Wc.grownBy wz v.ownBlock) (hat : v.ownBlock = some g ∨ g = Wc.heap.size) :
    Wp w0 N b wb kb vb x s Q (erN kb vb n) (enN n) (.slice (some ⟨g, 0, none⟩) (Q.length + 1) cap) X c z (wz.setCell ⟨wb, 1, none⟩ (.slice (some ⟨g, 0, none⟩) (Q.length + 1) cap)) := by
  have hlow := h.low
  have hwb := h.lt
  have hnw := h.new
  have hold := h.old
  have hbs := hb.size
  have hol : ∀ j, v.ownBlock = some j → N ≤ j ∧ j < w6.heap.size := h.own.lt
  have hnwb : v.ownBlock ≠ some wb := fun e => own_off h.own h.blk walk_type wb e rfl
  have hs : ∀ j, j < Wc.heap.size → v.ownBlock ≠ some j → wz.heap[j]? = Wc.heap[j]? := fun j hj hne => hgrow.block j hj fun e => hne e.symm
  have hs6 : ∀ j, j < w6.heap.size → v.ownBlock ≠ some j → wz.heap[j]? = w6.heap[j]? := fun j hj hne => (hs j (by omega) hne).trans (hb.block j hj)
  have ho : ∀ j, j ≠ wb → (wz.setCell ⟨wb, 1, none⟩ (.slice (some ⟨g, 0, none⟩) (Q.length + 1) cap)).heap[j]? = wz.heap[j]? := fun j hj => heap_setCell_other _ ⟨wb, 1, none⟩ j _ hj
  have hall : ∀ j, j < w6.heap.size ∧ pW wb v j → (wz.setCell ⟨wb, 1, none⟩ (.slice (some ⟨g, 0, none⟩) (Q.length + 1) cap)).heap[j]? = w6.heap[j]? := fun j hj => (ho j hj.2.1).trans (hs6 j hj.1 hj.2.2)
  have hgj : ∀ j, j < w6.heap.size → v.ownBlock ≠ some j → (Value.slice (some ⟨g, 0, none⟩) (Q.length + 1) cap).ownBlock ≠ some j := fun j hj hne e => by
    have e' : g = j := Option.some.inj e
    rcases hat with hat | hat
    · exact hne (by rw [hat, e'])
    · omega
  have hgk : ∀ j, w6.heap.size ≤ j → j < Wc.heap.size → (Value.slice (some ⟨g, 0, none⟩) (Q.length + 1) cap).ownBlock ≠ some j := fun j h1 h2 e => by
    have e' : g = j := Option.some.inj e
    rcases hat with hat | hat
    · have := (hol g hat).2; omega
    · omega
  have hvk : ∀ j, w6.heap.size ≤ j → v.ownBlock ≠ some j := fun j h1 e => by have := (hol j e).2; omega
  have hzwb : wz.heap[wb]? = some (wkO b v X z.length c) := (hs6 wb hwb hnwb).trans h.blk
  have hkr : (wz.setCell ⟨wb, 1, none⟩ (.slice (some ⟨g, 0, none⟩) (Q.length + 1) cap)).rowIs kb 45 n (fun _ => .slice none 0 0) := kr.of_block ((ho kb (by omega)).trans (hs kb hk.2 (hvk kb hk.1)))
  have hvr : (wz.setCell ⟨wb, 1, none⟩ (.slice (some ⟨g, 0, none⟩) (Q.length + 1) cap)).rowIs vb 45 n (fun _ => .slice none 0 0) := vr.of_block ((ho vb (by omega)).trans (hs vb hv.2 (hvk vb hv.1)))
  have hent : ∀ q ∈ Q, EOn (fun j => j < w6.heap.size ∧ pW wb v j) (wz.setCell ⟨wb, 1, none⟩ (.slice (some ⟨g, 0, none⟩) (Q.length + 1) cap)) q.1 q.2 := fun q hq => ((h.ents q hq).new.also (h.ents q hq)).moved hall
  refine ⟨⟨?_, hold, hnw, ?_, ?_, ?_, ?_, ?_⟩, rfl, rfl, ?_, ?_, ne, ⟨by omega, by omega⟩, ⟨by omega, by omega⟩, fun q hq => (hent q hq).mono fun j hj => ⟨⟨hj.2.1, hgj j hj.1 hj.2.2⟩, by omega, by omega⟩⟩
  · exact (ho b (by omega)).trans ((hs6 b (by omega) (fun e => by have := (hol b e).1; omega)).trans h.brain)
  · exact heap_setCell_same wz wb 1 _ _ _ hzwb
  · have e1 : (Q ++ [(erN kb vb n, enN n)]).length = Q.length + 1 := by simp
    have e2 : eCs (Q ++ [(erN kb vb n, enN n)]) = eCs Q ++ [.slice (some ⟨kb, 0, none⟩) n n, .slice (some ⟨vb, 0, none⟩) n n] := by
      rw [eCs_append]
      show _ ++ (eC _ _ ++ []) = _
      unfold eC erN enN
      rw [List.length_replicate]
      rfl
    rw [e1, e2]
    exact own_moved hown fun j hj => ho j (own_off hown hzwb walk_type j hj)
  · exact KIn.moved h.nums ((KIn.low' h.nums).both ((off h.no_ints h.nums).both hX)) fun j hj => hall j ⟨hj.1, hj.2.1, hj.2.2⟩
  · intro q hq
    rcases List.mem_append.1 hq with hq | hq
    · exact (hent q hq).mono fun j hj => ⟨hj.2.1, hgj j hj.1 hj.2.2⟩
    · rw [List.mem_singleton.1 hq]
      exact ⟨lon_nil hkr ⟨by omega, hgk kb hk.1 hk.2⟩, lon_nil hvr ⟨by omega, hgk vb hv.1 hv.2⟩⟩
  · exact ((h.below.trans (hb.mono hlow)).grown hgrow (by omega) fun k hk => (hol k hk).1).setCell hnw _
  · show World.rowIs _ kb _ (List.replicate n []).length _
    rw [List.length_replicate]
    exact hkr.congr fun i _ => (slC_nil n i).symm
  · show World.rowIs _ vb _ (List.replicate n []).length _
    rw [List.length_replicate]
    exact hvr.congr fun i _ => (slC_nil n i).symm
end Sp
end Go.Proofs.YtkdkeokldcehhaaGreatDoor
namespace Go.Proofs.YtkdkeokldcehhaaGreatDoor
open Go.ChangeShapes Go.WideShapes Go.ChangeAt Go.RowKit Nm Cf Vc Br Sf Sp

namespace Sp
theorem elem_ents : Tryz.prog.elem 24 = 29 := by kernel_rfl
theorem under_ents : Tryz.prog.underlying 24 = some (.slice (Tryz.prog.elem 24)) := by kernel_rfl
theorem info_entry2 : (Tryz.prog.info? 29).map (fun i => (i.zero, i.size, i.bytes)) = some (some (.agg #[.slice none 0 0, .slice none 0 0]), 2, 48) := by kernel_rfl
theorem size_ents (W : World) : (sizeOf (Tryz.prog.elem 24)).run Tryz.prog W = .ok 2 W := by
  obtain ⟨i0, hi, _, hz1, _⟩ := info_parts info_entry2
  rw [elem_ents]
  simp [sizeOf, typeInfo, hi, hz1]
theorem cut_ents (g n c i d : Nat) (I : Int) (hI : I = (i : Int)) (h1 : i ≤ n) (h2 : i < c) (hd : d = n - i) (W : World) :
    (Instr.slice 24 (.slice (some ⟨g, 0, none⟩) n c) (some (.int .i64 I)) none none).run Tryz.prog W = .ok (.slice (some ⟨g, i * 2, none⟩) d (c - i)) W := by
  subst hI hd
  rw [run_slice_l (P := Tryz.prog) (w := W) 24 _ n c under_ents .i64 (i : Int) (by omega) (by omega), size_ents]
  have e : ¬ c = i := by omega
  simp [Result.andThen, sliced, Addr.add, e]
  omega
/-- Behind k blocks: what the entry has, the rest empty. -/
def ksOf (x : Cfg) (s : ByteArray) (P : List Ent) (z0 : List Int) (k : Nat) : List (List Int) := (through x s P z0 k).1 ++ List.replicate (bN x - k) []
def vsOf (x : Cfg) (s : ByteArray) (P : List Ent) (z0 : List Int) (k : Nat) : List (List Int) := (through x s P z0 k).2.1 ++ List.replicate (bN x - k) []
section
variable (x : Cfg) (s : ByteArray) (P : List Ent) (z0 : List Int)
theorem thr_length (k : Nat) : (through x s P z0 k).1.length = k ∧ (through x s P z0 k).2.1.length = k := ⟨(rowsB_iff.1 (through_rows x s P z0 k).1).1, (rowsB_iff.1 (through_rows x s P z0 k).2).1⟩
theorem ks_zero : ksOf x s P z0 0 = List.replicate (bN x) [] := rfl
theorem vs_zero : vsOf x s P z0 0 = List.replicate (bN x) [] := rfl
theorem ks_all : ksOf x s P z0 (bN x) = (through x s P z0 (bN x)).1 := by unfold ksOf; rw [Nat.sub_self]; simp
theorem vs_all : vsOf x s P z0 (bN x) = (through x s P z0 (bN x)).2.1 := by unfold vsOf; rw [Nat.sub_self]; simp
theorem ks_length {k : Nat} (h : k ≤ bN x) : (ksOf x s P z0 k).length = bN x := by unfold ksOf; rw [List.length_append, (thr_length x s P z0 k).1, List.length_replicate]; omega
theorem vs_length {k : Nat} (h : k ≤ bN x) : (vsOf x s P z0 k).length = bN x := by unfold vsOf; rw [List.length_append, (thr_length x s P z0 k).2, List.length_replicate]; omega
theorem set_next {L : List (List Int)} {k n : Nat} (hL : L.length = k) (hk : k < n) (l : List Int) : (L ++ List.replicate (n - k) []).set k l = (L ++ [l]) ++ List.replicate (n - (k + 1)) [] := by
  obtain ⟨m, hm⟩ : ∃ m, n - k = m + 1 := ⟨n - k - 1, by omega⟩
  rw [hm, show n - (k + 1) = m by omega, List.replicate_succ, List.set_append, if_neg (by omega), hL, Nat.sub_self, List.set_cons_zero, List.append_assoc, List.singleton_append]
theorem ks_next {k : Nat} (h : k < bN x) : (ksOf x s P z0 k).set k (keyL x s k (through x s P z0 k).2.2) = ksOf x s P z0 (k + 1) := set_next (thr_length x s P z0 k).1 h _
theorem vs_next {k : Nat} (h : k < bN x) : (vsOf x s P z0 k).set k (valL x s k (through x s P z0 k).2.2) = vsOf x s P z0 (k + 1) := set_next (thr_length x s P z0 k).2 h _
end
theorem take_snoc {ts : List Int} {j : Nat} (h : j < ts.length) : ts.take (j + 1) = ts.take j ++ [ts.getD j 0] := by
  rw [List.getD_eq_getElem?_getD, List.getElem?_eq_getElem h]
  simp
theorem run_next (x : Cfg) (s : ByteArray) (P : List Ent) {ts : List Int} {j : Nat} (h : j < ts.length) : P ++ runE x s P (ts.take (j + 1)) = (P ++ runE x s P (ts.take j)) ++ [entZ x s (P ++ runE x s P (ts.take j)) (ts.getD j 0)] := by
  rw [take_snoc h, runE_append, List.append_assoc]
  rfl
theorem run_scores (x : Cfg) (s : ByteArray) (P : List Ent) {ts : List Int} {k : Nat} (h : ts.length = k + 1) : runS x s P ts = scoZ x s (P ++ runE x s P (ts.take k)) (ts.getD k 0) := by
  have e : ts = ts.take k ++ [ts.getD k 0] := by
    conv => lhs; rw [← List.take_length (l := ts), h, take_snoc (by omega)]
  conv => lhs; rw [e]
  rw [runS_append x s (by simp)]
  rfl
theorem all_good {x : Cfg} {P : List Ent} (h : P.all (goodE x) = true) {s : ByteArray} {ts : List Int} : ∀ e ∈ P ++ runE x s P ts, goodE x e = true := fun e he => by
  rcases List.mem_append.1 he with he | he
  · exact List.all_eq_true.1 h e he
  · exact runE_good x s ts P e he
theorem goodQ_of {x : Cfg} {Q : List (Er × Ent)} {P : List Ent} (e : past Q = P) (h : ∀ e ∈ P, goodE x e = true) : GoodQ x Q := fun q hq => h q.2 (by rw [← e]; exact List.mem_map_of_mem hq)
/-- What a slice of the places behind those that were there holds. -/
theorem EsIn.cut {w : World} {g : Nat} {Q R : List (Er × Ent)} {p : Nat → Prop} (h : ∀ j u, (eCs (Q ++ R))[j]? = some u → w.cell? ⟨g, j, none⟩ = some u) (he : ∀ q ∈ Q ++ R, EOn p w q.1 q.2) : EsIn w (some ⟨g, Q.length * 2, none⟩) R :=
  ⟨fun _ => ⟨g, Q.length * 2, rfl, fun j u hj => by
    refine h (Q.length * 2 + j) u ?_
    rw [eCs_append, List.getElem?_append_right (by rw [eCs_length]; omega), eCs_length, show Q.length * 2 + j - Q.length * 2 = j by omega]
    exact hj⟩, fun q hq => (he q (List.mem_append.2 (.inr hq))).mono fun _ _ => trivial⟩
end Sp
end Go.Proofs.YtkdkeokldcehhaaGreatDoor
namespace Go.Proofs.YtkdkeokldcehhaaGreatDoor
open Go.ChangeShapes Go.WideShapes Go.ChangeAt Go.RowKit Vc

namespace Vc
theorem vcLess (a b : Nat) (h : a < b) : b - ((a : Int) + 1).toNat < b - (a : Int).toNat := by omega
theorem rows_same {zs us : List Int} (hl : zs.length = us.length) (h : ∀ i, i < zs.length → zs.getD i 0 = us.getD i 0) : zs = us := by
  apply List.ext_getElem hl
  intro i h1 h2
  have := h i h1
  rwa [List.getD_eq_getElem?_getD, List.getElem?_eq_getElem h1, List.getD_eq_getElem?_getD, List.getElem?_eq_getElem h2] at this
end Vc
section
variable (w : World) (A : Option Addr) (n c : Nat) (B : Option Addr) (m c' : Nat) (zs us : List Int)
set_option maxRecDepth 100000 in
set_option maxHeartbeats 800000 in
theorem ints_any (hz : zs.length = n) (hu : us.length = m) (hm : n ≤ 1000000) (hA : KIn .i64 w A zs) (hB : KIn .i64 w B us) :
    Calls Tryz.prog 16 #[.slice A n c, .slice B m c'] w fun e w' => e = .returned (.bool (decide (zs = us))) ∧ ∃ k, w' = w.drewN k := by
  have HA := Lib.hid hA
  have HB := Lib.hid hB
  have HZ := Lib.hid hz
  have HU := Lib.hid hu
  clear hA hB hz hu
  by_cases hnm : n = m
  · subst hnm
    have HL := Lib.hid (show zs.length = us.length from HZ.out.trans HU.out.symm)
    have t1 : ((n : Int) == (n : Int)) = true := beq_self_eq_true _
    go_enter Tryz.func16, Tryz.ntmps16
    go_wp2_with (fail)
    go_loopw [5] (fun i wr => ∃ j d : Nat, i = .int .i64 (j : Int) ∧ j ≤ n ∧ (∀ k, k < j → zs.getD k 0 = us.getD k 0) ∧ wr = w.drewN d) (fun i _ => match i with | .int _ k => n - k.toNat | _ => 0)
    case atStart => exact ⟨0, 0, rfl, Nat.zero_le _, fun k hk => absurd hk (Nat.not_lt_zero k), rfl⟩
    case round =>
      obtain ⟨j, d, rfl, hj, he, rfl⟩ := hrel
      have HE := Lib.hid he
      clear he
      have x2 : 0 ≤ (j : Int) := by omega
      by_cases hlt : j < n
      · have x0 : (j : Int) < (n : Int) := by omega
        have x1 : decide ((j : Int) < (n : Int)) = true := decide_eq_true x0
        have HJ := Lib.hid (show j + 1 ≤ n by omega)
        obtain ⟨pa, oa, rfl, hc1⟩ := HA.out.at (show j < zs.length by rw [HZ.out]; exact hlt)
        obtain ⟨pb, ob, rfl, hc2⟩ := HB.out.at (show j < us.length by rw [HU.out]; exact hlt)
        by_cases hzu : zs.getD j 0 = us.getD j 0
        · have HE2 := Lib.hid (show ∀ k, k < j + 1 → zs.getD k 0 = us.getD k 0 from fun k hk => by
            by_cases hkj : k = j
            · rw [hkj]; exact hzu
            · exact HE.out k (by omega))
          rw [← hzu] at hc2
          clear hzu
          generalize zs.getD j 0 = z at hc1 hc2
          have t2 : (z == z) = true := beq_self_eq_true _
          have x3 := IntWalk.wrap64_in ((j : Int) + 1) (by omega)
          go_wp2_with (fail)
          go_quiet (fail)
          go_wp2_with (fail)
          exact ⟨⟨j + 1, _, rfl, HJ.out, HE2.out, rfl⟩, vcLess j n hlt⟩
        · have HN := Lib.hid (show decide (zs = us) = false from decide_eq_false fun e => hzu (by rw [e]))
          generalize zs.getD j 0 = z at hc1 hzu
          generalize us.getD j 0 = u at hc2 hzu
          have t2 : (z == u) = false := beq_eq_false_iff_ne.2 hzu
          clear hzu
          go_wp2_with (fail)
          go_quiet (fail)
          go_wp2_with (fail)
          refine bodyPost_ret (results_tmp rfl _ _ _) rfl ?_
          rw [HN.out]
          exact ⟨rfl, _, World.drewN_drewN ..⟩
      · have hke : j = n := by omega
        have x0 : ¬ (j : Int) < (n : Int) := by omega
        have x1 : decide ((j : Int) < (n : Int)) = false := decide_eq_false x0
        have HN := Lib.hid (show decide (zs = us) = true from decide_eq_true (rows_same HL.out fun i hi => HE.out i (by have := HZ.out; omega)))
        go_wp2_with (fail)
        refine bodyPost_ret (results_tmp rfl _ _ _) rfl ?_
        rw [HN.out]
        exact ⟨rfl, d, rfl⟩
  · have HN := Lib.hid (show decide (zs = us) = false from decide_eq_false fun e => hnm (by rw [← HZ.out, ← HU.out, e]))
    have t1 : ((n : Int) == (m : Int)) = false := beq_eq_false_iff_ne.2 (by omega)
    clear hnm
    go_enter Tryz.func16, Tryz.ntmps16
    go_wp2_with (fail)
    refine bodyPost_ret (results_tmp rfl _ _ _) rfl ?_
    rw [HN.out]
    exact ⟨rfl, 0, rfl⟩
end
end Go.Proofs.YtkdkeokldcehhaaGreatDoor
namespace Go.Proofs.YtkdkeokldcehhaaGreatDoor
open Go.ChangeShapes Go.WideShapes Go.ChangeAt Go.RowKit Nm Cf Vc Br Sp

section
variable (w : World) (A : Option Addr) (n c : Nat) (B : Option Addr) (m c' : Nat) (zs us : List Int)
set_option maxRecDepth 100000 in
set_option maxHeartbeats 800000 in
theorem equal_any (hz : zs.length = n) (hu : us.length = m) (hm : n ≤ 4611686018427387904) (hA : KIn .i64 w A zs) (hB : KIn .i64 w B us) :
    Calls Tryz.prog 31 #[.slice A n c, .slice B m c'] w fun e w' => e = .returned (.bool (decide (zs = us))) ∧ ∃ k, w' = w.drewN k := by
  have HA := Lib.hid hA
  have HB := Lib.hid hB
  have HZ := Lib.hid hz
  have HU := Lib.hid hu
  clear hA hB hz hu
  by_cases hnm : n = m
  · subst hnm
    have HL := Lib.hid (show zs.length = us.length from HZ.out.trans HU.out.symm)
    have t1 : ((n : Int) == (n : Int)) = true := beq_self_eq_true _
    go_enter Tryz.func31, Tryz.ntmps31
    go_wp2_with (fail)
    go_loopw [13] (fun i wr => ∃ j d : Nat, i = .int .i64 (j : Int) ∧ j ≤ n ∧ (∀ k, k < j → zs.getD k 0 = us.getD k 0) ∧ wr = w.drewN d) (fun i _ => match i with | .int _ k => n - k.toNat | _ => 0)
    case atStart => exact ⟨0, 0, rfl, Nat.zero_le _, fun k hk => absurd hk (Nat.not_lt_zero k), rfl⟩
    case round =>
      obtain ⟨j, d, rfl, hj, he, rfl⟩ := hrel
      have HE := Lib.hid he
      clear he
      have x2 : 0 ≤ (j : Int) := by omega
      by_cases hlt : j < n
      · have x0 : (j : Int) < (n : Int) := by omega
        have x1 : decide ((j : Int) < (n : Int)) = true := decide_eq_true x0
        have HJ := Lib.hid (show j + 1 ≤ n by omega)
        obtain ⟨pa, oa, rfl, hc1⟩ := HA.out.at (show j < zs.length by rw [HZ.out]; exact hlt)
        obtain ⟨pb, ob, rfl, hc2⟩ := HB.out.at (show j < us.length by rw [HU.out]; exact hlt)
        by_cases hzu : zs.getD j 0 = us.getD j 0
        · have HE2 := Lib.hid (show ∀ k, k < j + 1 → zs.getD k 0 = us.getD k 0 from fun k hk => by
            by_cases hkj : k = j
            · rw [hkj]; exact hzu
            · exact HE.out k (by omega))
          rw [← hzu] at hc2
          clear hzu
          generalize zs.getD j 0 = z at hc1 hc2
          have t2 : (z == z) = true := beq_self_eq_true _
          have x3 := IntWalk.wrap64_in ((j : Int) + 1) (by omega)
          go_wp2_with (fail)
          go_quiet (fail)
          go_wp2_with (fail)
          exact ⟨⟨j + 1, _, rfl, HJ.out, HE2.out, rfl⟩, vcLess j n hlt⟩
        · have HN := Lib.hid (show decide (zs = us) = false from decide_eq_false fun e => hzu (by rw [e]))
          generalize zs.getD j 0 = z at hc1 hzu
          generalize us.getD j 0 = u at hc2 hzu
          have t2 : (z == u) = false := beq_eq_false_iff_ne.2 hzu
          clear hzu
          go_wp2_with (fail)
          go_quiet (fail)
          go_wp2_with (fail)
          refine bodyPost_ret (results_tmp rfl _ _ _) rfl ?_
          rw [HN.out]
          exact ⟨rfl, _, World.drewN_drewN ..⟩
      · have hke : j = n := by omega
        have x0 : ¬ (j : Int) < (n : Int) := by omega
        have x1 : decide ((j : Int) < (n : Int)) = false := decide_eq_false x0
        have HN := Lib.hid (show decide (zs = us) = true from decide_eq_true (rows_same HL.out fun i hi => HE.out i (by have := HZ.out; omega)))
        go_wp2_with (fail)
        refine bodyPost_ret (results_tmp rfl _ _ _) rfl ?_
        rw [HN.out]
        exact ⟨rfl, d, rfl⟩
  · have HN := Lib.hid (show decide (zs = us) = false from decide_eq_false fun e => hnm (by rw [← HZ.out, ← HU.out, e]))
    have t1 : ((n : Int) == (m : Int)) = false := beq_eq_false_iff_ne.2 (by omega)
    clear hnm
    go_enter Tryz.func31, Tryz.ntmps31
    go_wp2_with (fail)
    refine bodyPost_ret (results_tmp rfl _ _ _) rfl ?_
    rw [HN.out]
    exact ⟨rfl, 0, rfl⟩
end
theorem eg_equal : ∀ args w, (callFunc 31 args).run Tryz.prog w = .ok (.enter 31 args) w := Go.Proofs.enters_of Tryz.func31 (by kernel_rfl) rfl
namespace Sp
theorem lists_same {L M : List (List Int)} (hl : L.length = M.length) (h : ∀ i, i < L.length → L.getD i [] = M.getD i []) : L = M := by
  apply List.ext_getElem hl
  intro i h1 h2
  have := h i h1
  rwa [List.getD_eq_getElem?_getD, List.getElem?_eq_getElem h1, List.getD_eq_getElem?_getD, List.getElem?_eq_getElem h2] at this
end Sp
set_option maxRecDepth 100000 in
set_option maxHeartbeats 1600000 in
theorem eqfunc_any (w : World) (A : Option Addr) (n c : Nat) (B : Nat → Option Addr) (C : Nat → Nat) (L : List (List Int)) (A' : Option Addr) (m c' : Nat) (B' : Nat → Option Addr) (C' : Nat → Nat) (M : List (List Int))
    (hL : L.length = n) (hM : M.length = m) (hm : n ≤ 1000000) (hlen : ∀ i, i < n → (L.getD i []).length ≤ 4611686018427387904) (hA : LIn w A B C L) (hB : LIn w A' B' C' M) :
    Calls Tryz.prog 30 #[.slice A n c, .slice A' m c', .func (.func 31) #[] #[]] w fun e w' => e = .returned (.bool (decide (L = M))) ∧ Below w.heap.size w w' := by
  have HA := Lib.hid hA
  have HB := Lib.hid hB
  have HZ := Lib.hid hL
  have HU := Lib.hid hM
  have HLEN := Lib.hid hlen
  have eg := eg_equal
  clear hA hB hL hM hlen
  by_cases hnm : n = m
  · subst hnm
    have HL := Lib.hid (show L.length = M.length from HZ.out.trans HU.out.symm)
    have t1 : ((n : Int) == (n : Int)) = true := beq_self_eq_true _
    have t1' : ((n : Int) != (n : Int)) = false := by simp
    go_enter Tryz.func30, Tryz.ntmps30
    go_wp2_with (fail)
    go_loopw [17] (fun i wr => ∃ j d : Nat, i = .int .i64 (j : Int) ∧ j ≤ n ∧ (∀ k, k < j → L.getD k [] = M.getD k []) ∧ wr = w.drewN d) (fun i _ => match i with | .int _ k => n - k.toNat | _ => 0)
    case atStart => exact ⟨0, 0, rfl, Nat.zero_le _, fun k hk => absurd hk (Nat.not_lt_zero k), rfl⟩
    case round =>
      obtain ⟨j, d, rfl, hj, he, rfl⟩ := hrel
      have HE := Lib.hid he
      clear he
      have x2 : 0 ≤ (j : Int) := by omega
      by_cases hlt : j < n
      · have x0 : (j : Int) < (n : Int) := by omega
        have x1 : decide ((j : Int) < (n : Int)) = true := decide_eq_true x0
        have HJ := Lib.hid hlt
        obtain ⟨pa, oa, rfl, hc1, hk1⟩ := HA.out.at (show j < L.length by rw [HZ.out]; exact hlt)
        obtain ⟨pb, ob, rfl, hc2, hk2⟩ := HB.out.at (show j < M.length by rw [HU.out]; exact hlt)
        have HC := Lib.hid (equal_any (w.drewN d) (B j) _ (C j) (B' j) _ (C' j) (L.getD j []) (M.getD j []) rfl rfl (HLEN.out j hlt) hk1 hk2)
        clear hk1 hk2
        have x3 := IntWalk.wrap64_in ((j : Int) + 1) (by omega)
        by_cases hzu : L.getD j [] = M.getD j []
        · have HE2 := Lib.hid (show ∀ k, k < j + 1 → L.getD k [] = M.getD k [] from fun k hk => by
            by_cases hkj : k = j
            · rw [hkj]; exact hzu
            · exact HE.out k (by omega))
          rw [decide_eq_true hzu] at HC
          clear hzu
          generalize (L.getD j []).length = l1 at hc1 HC
          generalize (M.getD j []).length = l2 at hc2 HC
          generalize B j = b1 at hc1 HC
          generalize C j = q1 at hc1 HC
          generalize B' j = b2 at hc2 HC
          generalize C' j = q2 at hc2 HC
          go_wp2_with (go_at_fn 31; refine HC.out.mono ?_; rintro e w2 ⟨rfl, k2, rfl⟩)
          exact ⟨⟨j + 1, d + k2, rfl, HJ.out, HE2.out, rfl⟩, vcLess j n HJ.out⟩
        · have HN := Lib.hid (show decide (L = M) = false from decide_eq_false fun e => hzu (by rw [e]))
          rw [decide_eq_false hzu] at HC
          clear hzu
          generalize (L.getD j []).length = l1 at hc1 HC
          generalize (M.getD j []).length = l2 at hc2 HC
          generalize B j = b1 at hc1 HC
          generalize C j = q1 at hc1 HC
          generalize B' j = b2 at hc2 HC
          generalize C' j = q2 at hc2 HC
          go_wp2_with (go_at_fn 31; refine HC.out.mono ?_; rintro e w2 ⟨rfl, k2, rfl⟩)
          refine bodyPost_ret (results_tmp rfl _ _ _) rfl ?_
          rw [HN.out]
          exact ⟨rfl, below_drewN (Below.refl _ _) _⟩
      · have hke : j = n := by omega
        have x0 : ¬ (j : Int) < (n : Int) := by omega
        have x1 : decide ((j : Int) < (n : Int)) = false := decide_eq_false x0
        have HN := Lib.hid (show decide (L = M) = true from decide_eq_true (lists_same HL.out fun i hi => HE.out i (by have := HZ.out; omega)))
        go_wp2_with (fail)
        refine bodyPost_ret (results_tmp rfl _ _ _) rfl ?_
        rw [HN.out]
        exact ⟨rfl, below_drewN (Below.refl _ _) _⟩
  · have HN := Lib.hid (show decide (L = M) = false from decide_eq_false fun e => hnm (by rw [← HZ.out, ← HU.out, e]))
    have t1 : ((n : Int) == (m : Int)) = false := beq_eq_false_iff_ne.2 (by omega)
    clear hnm
    go_enter Tryz.func30, Tryz.ntmps30
    go_wp2_with (fail)
    refine bodyPost_ret (results_tmp rfl _ _ _) rfl ?_
    rw [HN.out]
    exact ⟨rfl, Below.refl _ _⟩
namespace Sp
def sameE (e f : Ent) : Bool := decide (e.ks = f.ks) && decide (e.vs = f.vs)
theorem sameE_self (e : Ent) : sameE e e = true := by unfold sameE; simp
/-- Rows that can be told. -/
structure EntFit (e : Ent) : Prop where
  k : e.ks.length ≤ 1000000
  v : e.vs.length ≤ 1000000
  ks : ∀ i, i < e.ks.length → (e.ks.getD i []).length ≤ 4611686018427387904
  vs : ∀ i, i < e.vs.length → (e.vs.getD i []).length ≤ 4611686018427387904
end Sp
set_option maxRecDepth 100000 in
set_option maxHeartbeats 1600000 in
theorem step_same (w : World) (r : Er) (e : Ent) (r' : Er) (e' : Ent) (he : EOn (fun _ => True) w r e) (he' : EOn (fun _ => True) w r' e') (ht : EntFit e) :
    Calls Tryz.prog 12 #[eV r e, eV r' e'] w fun z w' => z = .returned (.bool (sameE e e')) ∧ Below w.heap.size w w' := by
  have HK := Lib.hid (fun W (hW : Below w.heap.size w W) => eqfunc_any W r.kA e.ks.length r.kc r.kB r.kC e.ks r'.kA e'.ks.length r'.kc r'.kB r'.kC e'.ks rfl rfl ht.k ht.ks (he.k.is.below hW (Nat.le_refl _)) (he'.k.is.below hW (Nat.le_refl _)))
  have HV := Lib.hid (fun W (hW : Below w.heap.size w W) => eqfunc_any W r.vA e.vs.length r.vc r.vB r.vC e.vs r'.vA e'.vs.length r'.vc r'.vB r'.vC e'.vs rfl rfl ht.v ht.vs (he.v.is.below hW (Nat.le_refl _)) (he'.v.is.below hW (Nat.le_refl _)))
  unfold sameE eV
  generalize decide (e.ks = e'.ks) = k1 at HK ⊢
  generalize decide (e.vs = e'.vs) = k2 at HV ⊢
  generalize e.ks.length = n1 at *
  generalize e.vs.length = n2 at *
  generalize e'.ks.length = n3 at *
  generalize e'.vs.length = n4 at *
  generalize r.kA = A1 at *
  generalize r.kc = q1 at *
  generalize r.vA = A2 at *
  generalize r.vc = q2 at *
  generalize r'.kA = A3 at *
  generalize r'.kc = q3 at *
  generalize r'.vA = A4 at *
  generalize r'.vc = q4 at *
  have hb1 := (Below.refl w.heap.size w).alloc (Nat.le_refl _) (.cells #[.slice A1 n1 q1, .slice A2 n2 q2] 29 (0, 0))
  have hn1 := heap_alloc_new w (.cells #[.slice A1 n1 q1, .slice A2 n2 q2] 29 (0, 0))
  have hb2 := hb1.alloc hb1.size (.cells #[.slice A3 n3 q3, .slice A4 n4 q4] 29 (0, 0))
  have hn1' := (heap_alloc_old _ (.cells #[.slice A3 n3 q3, .slice A4 n4 q4] 29 (0, 0)) (Array.getElem?_eq_some_iff.1 hn1).1).trans hn1
  have hn2 := heap_alloc_new (w.alloc (.cells #[.slice A1 n1 q1, .slice A2 n2 q2] 29 (0, 0))) (.cells #[.slice A3 n3 q3, .slice A4 n4 q4] 29 (0, 0))
  rw [World.size_alloc] at hn2
  have HB2 := Lib.hid hb2
  have HN1 := Lib.hid hn1'
  have HN2 := Lib.hid hn2
  have hcells := fun (W : World) (h1 : W.heap[w.heap.size]? = some (.cells #[.slice A1 n1 q1, .slice A2 n2 q2] 29 (0, 0))) (h2 : W.heap[w.heap.size + 1]? = some (.cells #[.slice A3 n3 q3, .slice A4 n4 q4] 29 (0, 0))) =>
    show W.cell? ⟨w.heap.size, 0, none⟩ = some (.slice A1 n1 q1) ∧ W.cell? ⟨w.heap.size, 1, none⟩ = some (.slice A2 n2 q2) ∧ W.cell? ⟨w.heap.size + 1, 0, none⟩ = some (.slice A3 n3 q3) ∧ W.cell? ⟨w.heap.size + 1, 1, none⟩ = some (.slice A4 n4 q4) from
    ⟨by rw [cell_of_row _ _ _ _ _ _ h1]; rfl, by rw [cell_of_row _ _ _ _ _ _ h1]; rfl, by rw [cell_of_row _ _ _ _ _ _ h2]; rfl, by rw [cell_of_row _ _ _ _ _ _ h2]; rfl⟩
  have HCL := Lib.hid hcells
  obtain ⟨c0, c1, c2, c3⟩ := hcells _ hn1' hn2
  clear he he' ht hb1 hn1 hb2 hn1' hn2 hcells
  go_enter Tryz.func12, Tryz.ntmps12
  go_wp2_with (fail)
  refine (HK.out _ HB2.out).mono ?_
  rintro z w1 ⟨rfl, b1⟩
  have HB3 := Lib.hid (HB2.out.trans (b1.mono HB2.out.size))
  clear c0 c1 c2 c3
  obtain ⟨c0, c1, c2, c3⟩ := HCL.out w1 ((b1.block _ (Array.getElem?_eq_some_iff.1 HN1.out).1).trans HN1.out) ((b1.block _ (Array.getElem?_eq_some_iff.1 HN2.out).1).trans HN2.out)
  clear b1
  cases k1 with
  | false =>
    go_wp2_with (fail)
    exact bodyPost_ret (results_tmp rfl _ _ _) rfl ⟨rfl, HB3.out⟩
  | true =>
    go_wp2_with (fail)
    refine (HV.out _ HB3.out).mono ?_
    rintro z w2 ⟨rfl, b2⟩
    have HB4 := Lib.hid (HB3.out.trans (b2.mono HB3.out.size))
    clear b2
    go_wp2_with (fail)
    exact bodyPost_ret (results_tmp rfl _ _ _) rfl ⟨rfl, HB4.out⟩
end Go.Proofs.YtkdkeokldcehhaaGreatDoor
namespace Go.Proofs.YtkdkeokldcehhaaGreatDoor
open Go.ChangeShapes Go.WideShapes Go.ChangeAt Go.RowKit Cf Vc Br Nr Sf Ac Sp

namespace Sp
section
variable {x : Cfg} {s : ByteArray} {ts : List Int} (he : errR x [] ts = 0)
include he
theorem one_ok {j : Nat} (hj : j < ts.length) : errZ x (runE x s [] (ts.take j)) (ts.getD j 0) = 0 := by
  obtain ⟨_, _, h2, h3⟩ := errR_ok.1 he
  have h4 : ((([] : List Ent).length : Nat) : Int) = 0 := rfl
  rw [← errR_one]
  refine errR_ok.2 ⟨by simp, List.all_eq_true.2 fun e hh => runE_good x s _ _ e hh, ?_, ?_⟩
  · have := List.all_eq_true.1 h2 (ts.getD j 0) (by rw [List.getD_eq_getElem?_getD, List.getElem?_eq_getElem hj]; exact List.getElem_mem _)
    show (tokB x (ts.getD j 0) && true) = true
    rw [this]
    rfl
  · rw [runE_length, List.length_take]
    simp only [List.length_singleton, Nat.min_def]
    split <;> omega
theorem take_ok {k : Nat} (h0 : 0 < k) (hk : k < ts.length) : errR x [] (ts.take k) = 0 := by
  obtain ⟨_, _, h2, h3⟩ := errR_ok.1 he
  have h4 : ((([] : List Ent).length : Nat) : Int) = 0 := rfl
  refine errR_ok.2 ⟨fun e => ?_, rfl, List.all_eq_true.2 fun z hz => List.all_eq_true.1 h2 z (List.mem_of_mem_take hz), ?_⟩
  · have := congrArg List.length e
    rw [List.length_take] at this
    have h5 : min k ts.length = 0 := this
    omega
  · rw [List.length_take]
    show ((0 : Nat) : Int) + ((min k ts.length : Nat) : Int) ≤ x.c
    omega
theorem drop_ok {k : Nat} (hk : k < ts.length) : errR x (runE x s [] (ts.take k)) (ts.drop k) = 0 := by
  obtain ⟨_, _, h2, h3⟩ := errR_ok.1 he
  have h4 : ((([] : List Ent).length : Nat) : Int) = 0 := rfl
  refine errR_ok.2 ⟨fun e => ?_, List.all_eq_true.2 fun e hh => runE_good x s _ _ e hh, List.all_eq_true.2 fun z hz => List.all_eq_true.1 h2 z (List.mem_of_mem_drop hz), ?_⟩
  · have := congrArg List.length e
    rw [List.length_drop] at this
    simp at this
    omega
  · rw [runE_length, List.length_take, List.length_drop, Nat.min_def]
    split <;> omega
end
theorem runS_parts (x : Cfg) (s : ByteArray) {ts : List Int} {k : Nat} (hk : k < ts.length) : runS x s (runE x s [] (ts.take k)) (ts.drop k) = runS x s [] ts := by
  conv => rhs; rw [← List.take_append_drop k ts]
  rw [runS_append x s (fun e => by have := congrArg List.length e; rw [List.length_drop] at this; simp at this; omega)]
  rfl
theorem runE_parts (x : Cfg) (s : ByteArray) (ts : List Int) (k : Nat) : runE x s [] ts = runE x s [] (ts.take k) ++ runE x s (runE x s [] (ts.take k)) (ts.drop k) := by
  conv => lhs; rw [← List.take_append_drop k ts]
  rw [runE_append]
  rfl
theorem past_getD {Q : List (Er × Ent)} {P : List Ent} (h : past Q = P) {i : Nat} {e : Ent} (hi : P[i]? = some e) : (Q.getD i noQ).2 = e := by
  rw [← h] at hi
  unfold past at hi
  rw [List.getElem?_map] at hi
  obtain ⟨q, hq, rfl⟩ := Option.map_eq_some_iff.1 hi
  rw [List.getD_eq_getElem?_getD, hq]
  rfl
theorem runE_get (x : Cfg) (s : ByteArray) {ts : List Int} {j : Nat} (hj : j < ts.length) : (runE x s [] ts)[j]? = some (entZ x s (runE x s [] (ts.take j)) (ts.getD j 0)) := by
  rw [runE_at x s ts [] j hj]
  rw [List.getD_eq_getElem?_getD, List.getElem?_eq_getElem hj]
  rfl
theorem ent_fit {x : Cfg} (h : In x) {e : Ent} (hg : goodE x e = true) : EntFit e := by
  obtain ⟨h1, h2⟩ := goodE_iff.1 hg
  obtain ⟨a1, a2⟩ := rowsB_iff.1 h1
  obtain ⟨b1, b2⟩ := rowsB_iff.1 h2
  have hb := h.b3
  have hd := h.d16
  obtain ⟨hdx, _, hbx, _⟩ := dims h
  have hm : ∀ {L : List (List Int)} {i : Nat}, i < L.length → L.getD i [] ∈ L := fun {L i} hl => by
    rw [List.getD_eq_getElem?_getD, List.getElem?_eq_getElem hl]
    exact List.getElem_mem _
  exact ⟨by omega, by omega, fun i hi => by have := (rowB_iff.1 (a2 _ (hm hi))).1; omega, fun i hi => by have := (rowB_iff.1 (b2 _ (hm hi))).1; omega⟩
theorem vN_small {x : Cfg} {s : ByteArray} (h : Ok x s) : vN x ≤ 32 := by have := h.good.is.v32; have := (dims h.good.is).2.2.2; omega
theorem sum_parts {k m n : Nat} (h : k + m = n) (hn : n ≤ 1000000) : wrap64 ((k : Int) + (m : Int)) = (n : Int) ∧ IntKind.i64.wrap ((k : Int) + (m : Int)) = (n : Int) := ⟨(IntWalk.wrap64_in _ (by omega)).trans (by omega), (IntWalk.i64_in _ (by omega)).trans (by omega)⟩
end Sp
end Go.Proofs.YtkdkeokldcehhaaGreatDoor
namespace Go.Proofs.YtkdkeokldcehhaaGreatDoor
open Go.ChangeShapes Go.WideShapes Go.ChangeAt Go.RowKit Cf Vc Br Nr Sf Ac Sp

namespace Sp
/-- Entries that a law gathers: in a row of its own, their rows elsewhere. -/
structure Gath (B : Nat) (w : World) (v : Value) (R : List (Er × Ent)) : Prop where
  own : w.ownsRow B 29 2 v R.length (eCs R)
  all : ∀ q ∈ R, EOn (fun j => v.ownBlock ≠ some j) w q.1 q.2
theorem Gath.slice {B : Nat} {w : World} {v : Value} {R : List (Er × Ent)} (h : Gath B w v R) : ∃ A c, v = .slice A R.length c := by
  rcases h.own.2 with ⟨e, h0⟩ | ⟨g, cap, cur, e, _⟩
  · exact ⟨none, 0, by rw [e, h0]⟩
  · exact ⟨_, _, e⟩
theorem Gath.es {B : Nat} {w : World} {A : Option Addr} {n c : Nat} {R : List (Er × Ent)} (h : Gath B w (.slice A n c) R) : EsIn w A R := by
  refine ⟨fun h0 => ?_, fun q hq => (h.all q hq).mono fun _ _ => trivial⟩
  rcases h.own.2 with ⟨_, h1⟩ | ⟨g, cap, cur, e, _, hb, _, _, _, ht⟩
  · omega
  · injection e with e1 e2 e3
    subst e1
    refine ⟨g, 0, rfl, fun j u hj => ?_⟩
    rw [cell_of_row w g _ _ _ _ hb, Nat.zero_add]
    rw [← ht] at hj
    have hj2 : j < (cur.toList.take (R.length * 2)).length := (List.getElem?_eq_some_iff.1 hj).1
    rw [List.getElem?_take_of_lt (by rw [List.length_take] at hj2; omega)] at hj
    rw [← Array.getElem?_toList]
    exact hj
theorem Gath.step {B : Nat} {w w' : World} {v : Value} {R : List (Er × Ent)} (h : Gath B w v R) (hb : Below w.heap.size w w') : Gath B w' v R :=
  ⟨own_moved h.own fun k hk => hb.block k (h.own.lt k hk).2, fun q hq => (h.all q hq).below hb⟩
theorem Gath.more {B M : Nat} {w wz : World} {v : Value} {R : List (Er × Ent)} {r : Er} {e : Ent} {g cap : Nat} (h : Gath B w v R) (he : EOn (fun _ => True) w r e) (hf : Fr M r e) (hM : ∀ k, v.ownBlock = some k → k < M)
    (hown : wz.ownsRow B 29 2 (.slice (some ⟨g, 0, none⟩) (R.length + 1) cap) (R.length + 1) (eCs R ++ eC r e)) (hgrow : w.grownBy wz v.ownBlock) (hat : v.ownBlock = some g ∨ g = w.heap.size) :
    Gath B wz (.slice (some ⟨g, 0, none⟩) (R.length + 1) cap) (R ++ [(r, e)]) := by
  have hs : ∀ j, j < w.heap.size → v.ownBlock ≠ some j → wz.heap[j]? = w.heap[j]? := fun j hj hne => hgrow.block j hj fun e => hne e.symm
  have hg : ∀ j, j < w.heap.size ∧ v.ownBlock ≠ some j → (Value.slice (some ⟨g, 0, none⟩) (R.length + 1) cap).ownBlock ≠ some j := fun j hj e => by
    have e' : g = j := Option.some.inj e
    rcases hat with hat | hat
    · exact hj.2 (by rw [hat, e'])
    · omega
  have hm : ∀ q ∈ R ++ [(r, e)], EOn (fun j => j < w.heap.size ∧ v.ownBlock ≠ some j) w q.1 q.2 := fun q hq => by
    rcases List.mem_append.1 hq with hq | hq
    · exact (h.all q hq).new.also (h.all q hq)
    · rw [List.mem_singleton.1 hq]
      exact ((he.new).also ((hf.on he).mono (q := fun j => v.ownBlock ≠ some j) fun j hj e => by have := hM j e; omega))
  refine ⟨?_, fun q hq => ((hm q hq).moved fun j hj => hs j hj.1 hj.2).mono hg⟩
  have e1 : (R ++ [(r, e)]).length = R.length + 1 := by simp
  have e2 : eCs (R ++ [(r, e)]) = eCs R ++ eC r e := by rw [eCs_append]; simp [eCs]
  rw [e1, e2]
  exact hown
theorem any_more (x : Cfg) {ts : List Int} {j : Nat} (h : j < ts.length) : (ts.take (j + 1)).any (fun z => !tokB x z) = ((ts.take j).any (fun z => !tokB x z) || !tokB x (ts.getD j 0)) := by
  rw [take_snoc h, List.any_append]
  simp
/-- Whether tokens can't be run. -/
theorem bad_of {x : Cfg} {ts : List Int} (h : errR x [] ts ≠ 0) : ((decide (ts = []) || decide (x.c < (ts.length : Int))) || ts.any (fun z => !tokB x z)) = true := by
  by_cases h1 : ts = []
  · simp [h1]
  · by_cases h2 : x.c < (ts.length : Int)
    · simp [h2]
    · by_cases h3 : ts.all (tokB x) = true
      · exact absurd (errR_ok.2 ⟨h1, rfl, h3, by simp; omega⟩) h
      · have : ts.any (fun z => !tokB x z) = true := by
          rw [← List.not_all_eq_any_not]
          simpa using h3
        rw [this, Bool.or_true]
/-- Several more. -/
theorem Gath.many {B M : Nat} {w wz : World} {v : Value} {R S : List (Er × Ent)} {g cap : Nat} (h : Gath B w v R) (he : ∀ q ∈ S, EOn (fun _ => True) w q.1 q.2) (hf : ∀ q ∈ S, Fr M q.1 q.2) (hM : ∀ k, v.ownBlock = some k → k < M)
    (hown : wz.ownsRow B 29 2 (.slice (some ⟨g, 0, none⟩) (R.length + S.length) cap) (R.length + S.length) (eCs R ++ eCs S)) (hgrow : w.grownBy wz v.ownBlock) (hat : v.ownBlock = some g ∨ g = w.heap.size) :
    Gath B wz (.slice (some ⟨g, 0, none⟩) (R.length + S.length) cap) (R ++ S) := by
  have hs : ∀ j, j < w.heap.size → v.ownBlock ≠ some j → wz.heap[j]? = w.heap[j]? := fun j hj hne => hgrow.block j hj fun e => hne e.symm
  have hg : ∀ j, j < w.heap.size ∧ v.ownBlock ≠ some j → (Value.slice (some ⟨g, 0, none⟩) (R.length + S.length) cap).ownBlock ≠ some j := fun j hj e => by
    have e' : g = j := Option.some.inj e
    rcases hat with hat | hat
    · exact hj.2 (by rw [hat, e'])
    · omega
  have hm : ∀ q ∈ R ++ S, EOn (fun j => j < w.heap.size ∧ v.ownBlock ≠ some j) w q.1 q.2 := fun q hq => by
    rcases List.mem_append.1 hq with hq | hq
    · exact (h.all q hq).new.also (h.all q hq)
    · exact (((he q hq).new).also (((hf q hq).on (he q hq)).mono (q := fun j => v.ownBlock ≠ some j) fun j hj e => by have := hM j e; omega))
  refine ⟨?_, fun q hq => ((hm q hq).moved fun j hj => hs j hj.1 hj.2).mono hg⟩
  rw [List.length_append, eCs_append]
  exact hown
theorem noEs (w : World) : EsIn w none [] := ⟨fun h => absurd h (by simp), fun q hq => by cases hq⟩
end Sp
end Go.Proofs.YtkdkeokldcehhaaGreatDoor
namespace Go.Proofs.YtkdkeokldcehhaaGreatDoor
open Go Go.RowKit

section
variable {P : Program} {md : Region.Mode} {ops : Array Oper} {Q : Exit → Act → World → Prop} {S : World → Prop} {n : Nat}
/-- Whatever order is picked from here on; S holds behind every operation but the last. -/
def wpAnyU (P : Program) (md : Region.Mode) (ops : Array Oper) (Q : Exit → Act → World → Prop) (S : World → Prop) (n : Nat) : Nat → Array Bool → Act → World → Prop
  | 0, listed, a, w => Region.ready md ops listed = [] ∧ Q .normal a w
  | fuel + 1, listed, a, w =>
    (Region.ready md ops listed = [] → Q .normal a w) ∧
    ∀ i ∈ Region.ready md ops listed, wpOp P ops Q i (fun a' w' => (i < n → S w') ∧ wpAnyU P md ops Q S n fuel (listed.setIfInBounds i true) a' w') a w
theorem wpAny_of_U : ∀ (fuel : Nat) (listed : Array Bool) (a : Act) (w : World), wpAnyU P md ops Q S n fuel listed a w → wpAny P md ops Q fuel listed a w
  | 0, _, _, _, h => h
  | fuel + 1, _, _, _, h => ⟨h.1, fun i hi => wpOp_mono (fun a' w' h' => wpAny_of_U fuel _ a' w' h'.2) (h.2 i hi)⟩
theorem wpAnyU_first {i : Nat} {oi : Oper} {v : Value} (hi : ops[i]? = some oi) (hsel : ∀ (j : Nat) (o : Oper) cs b, ops[j]? = some o → o.op ≠ .select cs b)
    (hs : Region.sinkB md ops n = true) (hc : Region.chainB md ops n = true) (hn : n < ops.size) (hin : i < n)
    (hQ : ∀ c a w, Q (.panic c) (a.put oi.dst v) w → Q (.panic c) a w) :
    ∀ (fuel : Nat) (listed : Array Bool) (a : Act) (w : World), HeadInv md ops n listed →
      (∀ j oj, ops[j]? = some oj → j ≠ i → listed.getD j true = false → (∀ e ∈ oj.after, Region.binds md e = true → e.on ≠ i) → oi.apart ops oj = true) →
      i ∈ Region.ready md ops listed → YieldsIf P ops S oi v a → S w →
      wpAnyU P md ops Q S n fuel (listed.setIfInBounds i true) (a.put oi.dst v) w → wpAnyU P md ops Q S n (fuel + 1) listed a w := by
  intro fuel
  induction fuel with
  | zero =>
    intro listed a w inv _ hr hy hS H
    refine ⟨fun h => (by rw [h] at hr; cases hr), fun j hj => ?_⟩
    by_cases hji : j = i
    · subst hji; exact hy.wpOp hi hS ⟨fun _ => hS, H⟩
    · have := ready_mono hj hji
      rw [H.1] at this
      cases this
  | succ fuel ih =>
    intro listed a w inv hfree hr hy hS H
    have hun := (mem_ready.1 hr).1
    refine ⟨fun h => (by rw [h] at hr; cases hr), fun j hj => ?_⟩
    have hjn : j < n := by
      rcases Nat.lt_or_ge j n with h | h
      · exact h
      · exact absurd hj (tail_waits hs hc hn inv _ i rfl hin hun j h)
    by_cases hji : j = i
    · subst hji; exact hy.wpOp hi hS ⟨fun _ => hS, H⟩
    · have h1 := H.2 j (ready_mono hj hji)
      obtain ⟨hjun, oj, hoj, hall⟩ := mem_ready.1 hj
      have hnot : ∀ e ∈ oj.after, Region.binds md e = true → e.on ≠ i := fun e he hb heq => by
        have h1 := hall e he hb
        rw [heq, getD_both hun] at h1
        cases h1
      have h2 := wpOp_putIf hoj (hfree j oj hoj hji hjun hnot) (fun cs b => hsel i oi cs b hi) (fun cs b => hsel j oj cs b hoj) hQ hy h1
      have hfree' : ∀ k ok, ops[k]? = some ok → k ≠ i → (listed.setIfInBounds j true).getD k true = false →
          (∀ e ∈ ok.after, Region.binds md e = true → e.on ≠ i) → oi.apart ops ok = true := fun k ok hk hki hunk hno => by
        refine hfree k ok hk hki ?_ hno
        by_cases hjk : j = k
        · subst hjk; exact hjun
        · rw [getD_set_ne true hjk] at hunk; exact hunk
      refine wpOp_mono (fun a' w' h3 => ⟨h3.2.1, ih (listed.setIfInBounds j true) a' w' (inv.set hj hjn) hfree' (ready_mono hr (Ne.symm hji)) h3.1 (h3.2.1 hjn) ?_⟩) h2
      rw [Array.setIfInBounds_comm _ _ hji]
      exact h3.2.2
/-- The same, told of what is listed. -/
def wpAnyV (P : Program) (md : Region.Mode) (ops : Array Oper) (Q : Exit → Act → World → Prop) (S : World → Prop) (n : Nat) (fuel : Nat) (listed : Array Bool) (a : Act) (w : World) : Prop :=
  Region.noSelect ops = true ∧ Region.sinkB md ops n = true ∧ Region.chainB md ops n = true ∧ n < ops.size → HeadInv md ops n listed → wpAnyU P md ops Q S n fuel listed a w
theorem wpAnyV_take {i : Nat} {oi : Oper} {v : Value} {fuel : Nat} {listed : Array Bool} {a : Act} {w : World} (d : Tmp) (hi : ops[i]? = some oi) (hd : oi.dst = some d) (hin : i < n)
    (hf : Region.free md ops listed i = true) (hr : (Region.ready md ops listed).contains i = true)
    (hQ : ∀ c a w, Q (.panic c) (a.put (some d) v) w → Q (.panic c) a w) (hy : YieldsIf P ops S oi v a) (hS : S w)
    (h : wpAnyV P md ops Q S n fuel (listed.setIfInBounds i true) (a.put (some d) v) w) : wpAnyV P md ops Q S n (fuel + 1) listed a w := fun ⟨k1, k2, k3, k4⟩ inv => by
  have hr' : i ∈ Region.ready md ops listed := by simpa using hr
  refine wpAnyU_first hi (Region.noSelect_spec k1) k2 k3 k4 hin ?_ fuel listed a w inv (Region.free_spec hi hf) hr' hy hS ?_
  · rw [hd]; exact hQ
  · rw [hd]; exact h ⟨k1, k2, k3, k4⟩ (inv.set hr' hin)
def StepV (P : Program) (md : Region.Mode) (ops : Array Oper) (Q : Exit → Act → World → Prop) (S : World → Prop) (n : Nat) (fuel : Nat) (listed : Array Bool) (a : Act) (w : World) (i : Nat) (o : Oper) : Prop :=
  ∀ K' : Act → World → Prop, Shut (∀ a w, S w → (S w → wpAnyV P md ops Q S n fuel (listed.setIfInBounds i true) a w) → K' a w) → if Region.wanted o (yielded ops a.tmps) = true then Oper.wp P o a w K' Q else K' (a.put o.dst undef) w
theorem stepV {fuel : Nat} {listed : Array Bool} {a : Act} {w : World} {i : Nat} {o : Oper} (ho : ops[i]? = some o) (hin : i < n) (h : StepV P md ops Q S n fuel listed a w i o)
    (hk : Region.noSelect ops = true ∧ Region.sinkB md ops n = true ∧ Region.chainB md ops n = true ∧ n < ops.size) (inv : HeadInv md ops n listed) (hr : i ∈ Region.ready md ops listed) :
    wpOp P ops Q i (fun a' w' => (i < n → S w') ∧ wpAnyU P md ops Q S n fuel (listed.setIfInBounds i true) a' w') a w :=
  wpOp_step ho fun K' hK => h K' fun a w hS hW => hK a w ⟨fun _ => hS, hW hS hk (inv.set hr hin)⟩
theorem wpAnyV_one {fuel : Nat} {listed : Array Bool} {a : Act} {w : World} {i : Nat} {o : Oper} (hr : Region.ready md ops listed = [i]) (ho : ops[i]? = some o) (hin : i < n) (h : StepV P md ops Q S n fuel listed a w i o) : wpAnyV P md ops Q S n (fuel + 1) listed a w := fun hk inv =>
  ⟨fun h0 => (by rw [hr] at h0; cases h0), fun j hj => by
    have hj' := hj
    rw [hr] at hj
    rw [List.mem_singleton.1 hj] at hj' ⊢
    exact stepV ho hin h hk inv hj'⟩
theorem wpAnyV_two {fuel : Nat} {listed : Array Bool} {a : Act} {w : World} {i j : Nat} {o o' : Oper} (hr : Region.ready md ops listed = [i, j]) (ho : ops[i]? = some o) (ho' : ops[j]? = some o') (hin : i < n) (hjn : j < n)
    (h : StepV P md ops Q S n fuel listed a w i o) (h' : StepV P md ops Q S n fuel listed a w j o') : wpAnyV P md ops Q S n (fuel + 1) listed a w := fun hk inv =>
  ⟨fun h0 => (by rw [hr] at h0; cases h0), fun k hkr => by
    have hk' := hkr
    rw [hr] at hkr
    rcases List.mem_cons.1 hkr with e | e
    · subst e; exact stepV ho hin h hk inv hk'
    · rw [List.mem_singleton.1 e] at hk' ⊢; exact stepV ho' hjn h' hk inv hk'⟩
theorem wpAnyV_last {fuel : Nat} {listed : Array Bool} {a : Act} {w : World} {o : Oper} (hr : Region.ready md ops listed = [n]) (ho : ops[n]? = some o) (hd : Region.ready md ops (listed.setIfInBounds n true) = [])
    (h : ∀ K' : Act → World → Prop, Shut (∀ a w, Q .normal a w → K' a w) → if Region.wanted o (yielded ops a.tmps) = true then Oper.wp P o a w K' Q else K' (a.put o.dst undef) w) : wpAnyV P md ops Q S n (fuel + 1) listed a w := fun _ _ =>
  ⟨fun h0 => (by rw [hr] at h0; cases h0), fun j hj => by
    rw [hr] at hj
    rw [List.mem_singleton.1 hj]
    refine wpOp_step ho fun K' hK => h K' fun a w hq => hK a w ⟨fun hlt => absurd hlt (Nat.lt_irrefl _), ?_⟩
    cases fuel with
    | zero => exact ⟨hd, hq⟩
    | succ f => exact ⟨fun _ => hq, fun k hk => by rw [hd] at hk; cases hk⟩⟩
theorem wp_region_heldV {id : Nat} {a : Act} {w : World} (n : Nat) (hm : P.follows .mixedOrders = true) (h1 : Region.noSelect ops = true) (h2 : Region.sinkB .any ops n = true) (h3 : Region.chainB .any ops n = true) (h4 : n < ops.size) (hS : S w.drew)
    (h : S w.drew → wpAnyV P .any ops Q S n ops.size (Array.replicate ops.size false) a w.drew) : (Code.region id ops true).wp P Q a w :=
  wp_region_any hm (wpAny_of_U _ _ _ _ (h hS ⟨h1, h2, h3, h4⟩ ⟨by simp, fun j oj _ hl => (by rw [getD_replicate_false] at hl; cases hl), fun t _ ht => getD_in (by simpa using ht) (getD_replicate_false _ _)⟩))
end
end Go.Proofs.YtkdkeokldcehhaaGreatDoor
namespace Go.Proofs.YtkdkeokldcehhaaGreatDoor
open Go.ChangeShapes Go.WideShapes Go.ChangeAt Go.RowKit Nm Cf Vc Br Nr Sf Sp

namespace Sp
theorem info_entry : (Tryz.prog.info? 29).map (fun i => (i.zero, i.size, i.bytes)) = some (some (.agg #[.slice none 0 0, .slice none 0 0]), 2, 48) := by kernel_rfl
theorem two_one (A B : Option Addr) {n m c d : Nat} : ∀ u ∈ [Value.slice A n c, .slice B m d], u.oneCell' = true := fun u hu => by
  simp at hu
  rcases hu with rfl | rfl <;> rfl
end Sp
set_option maxRecDepth 100000 in
set_option maxHeartbeats 12800000 in
theorem walk_enter (w0 w : World) (N b wb : Nat) (x : Cfg) (s : ByteArray) (Q : List (Er × Ent)) (v : Value) (X : Option Addr) (c : Nat) (z : List Int) (h : Wk w0 N b wb x s Q v X c z w) (hk : Ok x s)
    (tok : Int) (ht0 : 0 ≤ tok) (ht1 : tok < x.v) (hQ : (Q.length : Int) < x.c) (hQl : Q.length ≤ 900) :
    Calls Tryz.prog 63 #[.pointer (some ⟨wb, 0, none⟩), .int .i64 tok] w fun e' w' => e' = .returned (.tuple #[]) ∧ ∃ kb vb r v' X' c', Wp w0 N b wb kb vb x s Q r (enN (bN x)) v' X' c' (startL x s tok Q.length) w' := by
  have hgood := hk.good
  obtain ⟨_, _, hbx, _⟩ := dims hgood.is
  have hd16 : dN x ≤ 16 := by have := hgood.is.d16; have := (dims hgood.is).1; omega
  have hb3 : bN x ≤ 3 := by have := hgood.is.b3; omega
  have hr0 := row_len (p := 0) hk (by omega) ht0 (by show tok < x.v; exact ht1)
  have hr1 := row_len (p := 1) hk (by omega) (a := (Q.length : Int)) (by omega) (by show (Q.length : Int) < x.c; exact hQ)
  have HR0 := Lib.hid (fun W (hW : Below w.heap.size w W) => show Calls Tryz.prog 90 #[.pointer (some ⟨b, 0, none⟩), .int .i64 0, .int .i64 0, .int .i64 tok] W fun e w' => ∃ A c, e = .returned (.slice A (dN x) c) ∧ KIn .i64 w' A (rowZ x s 0 0 tok) ∧ Below W.heap.size W w' from by
    have := brain_row W b x s (Br.stays h.brain hW) hk 0 0 tok
    unfold RowSays at this
    rw [show (rowZ x s 0 0 tok).length = dN x from hr0] at this
    exact this)
  have HR1 := Lib.hid (fun W (hW : Below w.heap.size w W) => show Calls Tryz.prog 90 #[.pointer (some ⟨b, 0, none⟩), .int .i64 1, .int .i64 0, .int .i64 (Q.length : Int)] W fun e w' => ∃ A c, e = .returned (.slice A (dN x) c) ∧ KIn .i64 w' A (rowZ x s 1 0 (Q.length : Int)) ∧ Below W.heap.size W w' from by
    have := brain_row W b x s (Br.stays h.brain hW) hk 1 0 (Q.length : Int)
    unfold RowSays at this
    rw [show (rowZ x s 1 0 (Q.length : Int)).length = dN x from hr1] at this
    exact this)
  have HPL := Lib.hid (fun W A d B e (hA : KIn .i64 W A (rowZ x s 0 0 tok)) (hB : KIn .i64 W B (rowZ x s 1 0 (Q.length : Int))) => show Calls Tryz.prog 89 #[.slice A (dN x) d, .slice B (dN x) e] W fun e w' => ∃ A c, e = .returned (.slice A (dN x) c) ∧ KIn .i64 w' A (plusL [rowZ x s 0 0 tok, rowZ x s 1 0 (Q.length : Int)] (dN x)) ∧ Below W.heap.size W w' from by
    have := step_plus W A d B e _ _ (dN x) hr0 hr1 (by omega) hA hB
    unfold RowSays at this
    rw [plusL_length] at this
    exact this)
  have HSC := Lib.hid (fun W A d (hA : KIn .i64 W A (plusL [rowZ x s 0 0 tok, rowZ x s 1 0 (Q.length : Int)] (dN x))) => show Calls Tryz.prog 88 #[.slice A (dN x) d, .int .i64 16, .int .i64 0] W fun e w' => ∃ A c, e = .returned (.slice A (dN x) c) ∧ KIn .i64 w' A (startL x s tok Q.length) ∧ (∀ a, A = some a → W.heap.size ≤ a.block) ∧ Below W.heap.size W w' from by
    have := vecs_scale_new W 16 0 A (dN x) d _ (plusL_length _ _) (by omega) hA
    rw [start_scale] at this
    unfold RowSaysN at this
    rw [(rowB_iff.1 (startL_row x s tok Q.length)).1] at this
    exact this.mono fun e w' ⟨A, c, h1, h2, _, h3, h4⟩ => ⟨A, c, h1, h2, h3, h4⟩)
  have hsl := (rowB_iff.1 (startL_row x s tok Q.length)).1
  have HSL := Lib.hid hsl
  have H := Lib.hid h
  have HK := Lib.hid (fun W (hW : Below w.heap.size w W) => show W.cell? ⟨wb, 0, none⟩ = some (.pointer (some ⟨b, 0, none⟩)) from (three (h.step hW).blk).1)
  have HC := Lib.hid (fun W (hW : Below w.heap.size w W) => show W.cell? ⟨wb, 2, none⟩ = some (.slice X z.length c) ∧ W.frozen? ⟨wb, 2, none⟩ = false from ⟨(three (h.step hW).blk).2.2.1, (three (h.step hW).blk).2.2.2 2⟩)
  have HST := Lib.hid (fun (W : World) (u : Value) (hW : W.cell? ⟨wb, 0, none⟩ = some (.pointer (some ⟨b, 0, none⟩))) (hc : ∃ n t v0, W.heap[wb]? = some (.cells #[.pointer (some ⟨b, 0, none⟩), v0, n] t (0, 0))) => show (W.setCell ⟨wb, 2, none⟩ u).cell? ⟨wb, 0, none⟩ = some (.pointer (some ⟨b, 0, none⟩)) from by
    obtain ⟨n, t, v0, hc⟩ := hc
    rw [cell_of_row _ _ _ _ _ _ (heap_setCell_same W wb 2 _ _ u hc)]
    rfl)
  obtain ⟨vA, vc, hv⟩ : ∃ vA vc, v = .slice vA Q.length vc := by
    rcases h.own.2 with ⟨e, h0⟩ | ⟨g, cap, cur, e, _⟩
    · exact ⟨none, 0, by rw [e, h0]⟩
    · exact ⟨_, _, e⟩
  have HV := Lib.hid hv
  have k1 := (three h.blk).2.1
  rw [hv] at k1
  have HBX := Lib.hid (And.intro hbx hb3)
  have HQL := Lib.hid hQl
  have B0 := Lib.hid (show Below w.heap.size w w.drew from below_drewN (Below.refl _ _) 1)
  have k0 := HK.out _ B0.out
  clear hgood hbx hd16 hb3 hr0 hr1 hsl hv h hk ht0 ht1 hQ hQl
  go_enter Tryz.func63, Tryz.ntmps63
  go_wp2_with (fail)
  go_region_held3 (fun W : World => W.cell? ⟨wb, 0, none⟩ = some (.pointer (some ⟨b, 0, none⟩))) (first | exact k0 | assumption | exact HST.out _ _ (by assumption) (by assumption)) (first
    | (go_at_call 90; (with_reducible refine (HR0.out _ B0.out).mono ?_); rintro e' w1 ⟨A1, c1, rfl, ha, b1⟩; have R1 := Lib.hid ha; have B1 := Lib.hid (B0.out.trans (b1.mono B0.out.size)); have k1 := HK.out _ B1.out; clear ha b1)
    | (go_at_call 90; (with_reducible refine (HR1.out _ B1.out).mono ?_); rintro e' w2 ⟨A2, c2, rfl, ha, b2⟩; have R2 := Lib.hid ha; have R12 := Lib.hid (R1.out.below b2 (Nat.le_refl _)); have B2 := Lib.hid (B1.out.trans (b2.mono B1.out.size)); have k2 := HK.out _ B2.out; clear ha b2)
    | (go_at_call 89; (with_reducible refine (HPL.out _ _ _ _ _ R12.out R2.out).mono ?_); rintro e' w3 ⟨A3, c3, rfl, ha, b3⟩; have R3 := Lib.hid ha; have B3 := Lib.hid (B2.out.trans (b3.mono B2.out.size)); have k3 := HK.out _ B3.out; clear ha b3)
    | (go_at_call 88; (with_reducible refine (HSC.out _ _ _ R3.out).mono ?_); rintro e' w4 ⟨A4, c4, rfl, ha, hn, b4⟩; have R4 := Lib.hid ha; have RN := Lib.hid (fun a ha => Nat.le_trans B3.out.size (hn a ha)); have B4 := Lib.hid (B3.out.trans (b4.mono B3.out.size)); have k4 := HK.out _ B4.out; have k5 := (HC.out _ B4.out).1; have f5 := (HC.out _ B4.out).2; have hcb : ∃ n t v0, w4.heap[wb]? = some (.cells #[.pointer (some ⟨b, 0, none⟩), v0, n] t (0, 0)) := ⟨_, _, _, (H.out.step B4.out).blk⟩; clear ha hn b4))
  refine gen_post (fun W : World => Wk w0 N b wb x s Q v A4 c4 (startL x s tok Q.length) W ∧ Ft (fun j => v.ownBlock ≠ some j) A4 (startL x s tok Q.length).length) ?_ ?_
  · have h1 := (H.out.step B4.out).setX (c' := c4) R4.out
    rw [HSL.out] at h1
    exact ⟨h1, fun _ a ha e => by have h2 := RN.out a ha; have h3 := (H.out.own.lt _ e).2; omega⟩
  clear k0 HR0 HR1 HPL HSC HK HC HST H RN R1 B1 R2 R12 B2 R3 B3 R4 B4 k1 k2 k3 k4 k5 f5 hcb B0
  rintro w6 ⟨u1, u2⟩
  have HBX2 := Lib.hid (show (bN x : Int) = x.b from HBX.out.1)
  have HN3 := Lib.hid (show bN x ≤ 3 from HBX.out.2)
  generalize hnb : bN x = n at HBX2 HN3
  have HNB := Lib.hid hnb
  clear hnb
  have hk0 := fun W (hW : Below w6.heap.size w6 W) => show W.cell? ⟨wb, 1, none⟩ = some v ∧ W.cell? ⟨wb, 0, none⟩ = some (.pointer (some ⟨b, 0, none⟩)) ∧ W.cell? ⟨b, 3, none⟩ = some (.int .i64 (n : Int)) from ⟨(three (u1.step hW).blk).2.1, (three (u1.step hW).blk).1, by rw [HBX2.out]; exact (seven (u1.step hW).brain).2.2.2.1⟩
  have HSA := Lib.hid hk0
  have B0 := below_drewN (Below.refl w6.heap.size w6) 1
  have k0 : (fun W : World => W.cell? ⟨wb, 1, none⟩ = some v ∧ W.cell? ⟨wb, 0, none⟩ = some (.pointer (some ⟨b, 0, none⟩)) ∧ W.cell? ⟨b, 3, none⟩ = some (.int .i64 (n : Int))) w6.drew := HSA.out _ B0
  have BA := Lib.hid (show Below w6.heap.size w6 (w6.alloc (.cells (madeCells #[.slice none 0 0] n) 45)).drew from below_drewN ((Below.refl _ _).alloc (Nat.le_refl _) _) 1)
  have BB := Lib.hid (show Below w6.heap.size w6 ((w6.alloc (.cells (madeCells #[.slice none 0 0] n) 45)).alloc (.cells (madeCells #[.slice none 0 0] n) 45)).drew from below_drewN (((Below.refl _ _).alloc (Nat.le_refl _) _).alloc (by simp) _) 1)
  have hbc := fun kb vb => show Below w6.heap.size w6 ((((w6.alloc (.cells (madeCells #[.slice none 0 0] n) 45)).alloc (.cells (madeCells #[.slice none 0 0] n) 45)).alloc (.cells #[.slice (some ⟨kb, 0, none⟩) n n, .slice (some ⟨vb, 0, none⟩) n n] 29)).drew) from below_drewN ((((Below.refl _ _).alloc (Nat.le_refl _) _).alloc (by simp) _).alloc (by simp; omega) _) 1
  have HBC := Lib.hid hbc
  have HOWN := Lib.hid (fun kb vb => show World.ownsRow ((((w6.alloc (.cells (madeCells #[.slice none 0 0] n) 45)).alloc (.cells (madeCells #[.slice none 0 0] n) 45)).alloc (.cells #[.slice (some ⟨kb, 0, none⟩) n n, .slice (some ⟨vb, 0, none⟩) n n] 29)).drew) N 29 2 v Q.length (eCs Q) from own_moved u1.own fun k hk => (hbc kb vb).block k (u1.own.lt k hk).2)
  have hnew := fun kb vb => show ((((w6.alloc (.cells (madeCells #[.slice none 0 0] n) 45)).alloc (.cells (madeCells #[.slice none 0 0] n) 45)).alloc (.cells #[.slice (some ⟨kb, 0, none⟩) n n, .slice (some ⟨vb, 0, none⟩) n n] 29)).drew).heap[w6.heap.size + 2]? = some ((.cells #[.slice (some ⟨kb, 0, none⟩) n n, .slice (some ⟨vb, 0, none⟩) n n] 29)) from by
    have h9 := heap_alloc_new ((w6.alloc (.cells (madeCells #[.slice none 0 0] n) 45)).alloc (.cells (madeCells #[.slice none 0 0] n) 45)) ((.cells #[.slice (some ⟨kb, 0, none⟩) n n, .slice (some ⟨vb, 0, none⟩) n n] 29))
    have e9 : ((w6.alloc (.cells (madeCells #[.slice none 0 0] n) 45)).alloc (.cells (madeCells #[.slice none 0 0] n) 45)).heap.size = w6.heap.size + 2 := by simp
    rw [e9] at h9
    exact h9
  have HNEW := Lib.hid (fun kb vb => World.news_of_block (hnew kb vb))
  have HLOW := Lib.hid (fun kb vb => show N ≤ ((((w6.alloc (.cells (madeCells #[.slice none 0 0] n) 45)).alloc (.cells (madeCells #[.slice none 0 0] n) 45)).alloc (.cells #[.slice (some ⟨kb, 0, none⟩) n n, .slice (some ⟨vb, 0, none⟩) n n] 29)).drew).heap.size from Nat.le_trans u1.low (hbc kb vb).size)
  have r1 : (w6.alloc (.cells (madeCells #[.slice none 0 0] n) 45)).rowIs w6.heap.size 45 n (fun _ => .slice none 0 0) := World.rowIs_made w6 (.slice none 0 0) n 45
  have r2 : ((w6.alloc (.cells (madeCells #[.slice none 0 0] n) 45)).alloc (.cells (madeCells #[.slice none 0 0] n) 45)).rowIs (w6.heap.size + 1) 45 n (fun _ => .slice none 0 0) := by
    have := World.rowIs_made (w6.alloc (.cells (madeCells #[.slice none 0 0] n) 45)) (.slice none 0 0) n 45
    rwa [World.size_alloc] at this
  have HENT := Lib.hid (fun kb vb (wz : World) g cap (hkv : (kb = w6.heap.size ∧ vb = w6.heap.size + 1) ∨ (kb = w6.heap.size + 1 ∧ vb = w6.heap.size)) (hown : wz.ownsRow N 29 2 (.slice (some ⟨g, 0, none⟩) (Q.length + 1) cap) (Q.length + 1) (eCs Q ++ [.slice (some ⟨kb, 0, none⟩) n n, .slice (some ⟨vb, 0, none⟩) n n])) (hgrow : World.grownBy ((((w6.alloc (.cells (madeCells #[.slice none 0 0] n) 45)).alloc (.cells (madeCells #[.slice none 0 0] n) 45)).alloc (.cells #[.slice (some ⟨kb, 0, none⟩) n n, .slice (some ⟨vb, 0, none⟩) n n] 29)).drew) wz v.ownBlock) (hat : v.ownBlock = some g ∨ g = ((((w6.alloc (.cells (madeCells #[.slice none 0 0] n) 45)).alloc (.cells (madeCells #[.slice none 0 0] n) 45)).alloc (.cells #[.slice (some ⟨kb, 0, none⟩) n n, .slice (some ⟨vb, 0, none⟩) n n] 29)).drew).heap.size) =>
    show Wp w0 N b wb kb vb x s Q (erN kb vb n) (enN n) (.slice (some ⟨g, 0, none⟩) (Q.length + 1) cap) A4 c4 (startL x s tok Q.length) (wz.setCell ⟨wb, 1, none⟩ (.slice (some ⟨g, 0, none⟩) (Q.length + 1) cap)) from by
      have hs : ((((w6.alloc (.cells (madeCells #[.slice none 0 0] n) 45)).alloc (.cells (madeCells #[.slice none 0 0] n) 45)).alloc (.cells #[.slice (some ⟨kb, 0, none⟩) n n, .slice (some ⟨vb, 0, none⟩) n n] 29)).drew).heap.size = w6.heap.size + 3 := by show (((w6.alloc (.cells (madeCells #[.slice none 0 0] n) 45)).alloc (.cells (madeCells #[.slice none 0 0] n) 45)).alloc (.cells #[.slice (some ⟨kb, 0, none⟩) n n, .slice (some ⟨vb, 0, none⟩) n n] 29)).heap.size = _; simp
      have q1 := (r1.alloc (.cells (madeCells #[.slice none 0 0] n) 45)).alloc (.cells #[.slice (some ⟨kb, 0, none⟩) n n, .slice (some ⟨vb, 0, none⟩) n n] 29)
      have q2 := r2.alloc (.cells #[.slice (some ⟨kb, 0, none⟩) n n, .slice (some ⟨vb, 0, none⟩) n n] 29)
      rcases hkv with ⟨rfl, rfl⟩ | ⟨rfl, rfl⟩
      · exact u1.entered u2 (hbc _ _) ⟨Nat.le_refl _, by omega⟩ ⟨by omega, by omega⟩ (by omega) (q1.of_block rfl) (q2.of_block rfl) hown hgrow hat
      · exact u1.entered u2 (hbc _ _) ⟨by omega, by omega⟩ ⟨Nat.le_refl _, by omega⟩ (by omega) (q2.of_block rfl) (q1.of_block rfl) hown hgrow hat)
  have hnwb : v.ownBlock ≠ some wb := fun e => own_off u1.own u1.blk walk_type wb e rfl
  have hz6 := fun kb vb (wz : World) (hgrow : World.grownBy ((((w6.alloc (.cells (madeCells #[.slice none 0 0] n) 45)).alloc (.cells (madeCells #[.slice none 0 0] n) 45)).alloc (.cells #[.slice (some ⟨kb, 0, none⟩) n n, .slice (some ⟨vb, 0, none⟩) n n] 29)).drew) wz v.ownBlock) (j : Nat) (hj : j < w6.heap.size) (hne : v.ownBlock ≠ some j) => show wz.heap[j]? = w6.heap[j]? from (hgrow.block j (Nat.lt_of_lt_of_le hj (hbc kb vb).size) fun e => hne e.symm).trans ((hbc kb vb).block j hj)
  have HSZ := Lib.hid (fun kb vb (wz : World) (hgrow : World.grownBy ((((w6.alloc (.cells (madeCells #[.slice none 0 0] n) 45)).alloc (.cells (madeCells #[.slice none 0 0] n) 45)).alloc (.cells #[.slice (some ⟨kb, 0, none⟩) n n, .slice (some ⟨vb, 0, none⟩) n n] 29)).drew) wz v.ownBlock) => show (fun W : World => W.cell? ⟨wb, 1, none⟩ = some v ∧ W.cell? ⟨wb, 0, none⟩ = some (.pointer (some ⟨b, 0, none⟩)) ∧ W.cell? ⟨b, 3, none⟩ = some (.int .i64 (n : Int))) wz from by
    have e1 := hz6 kb vb wz hgrow wb u1.lt hnwb
    have e2 := hz6 kb vb wz hgrow b (Nat.lt_of_lt_of_le u1.old u1.low) (fun e => by have := (u1.own.lt b e).1; have := u1.old; omega)
    have a := hk0 w6 (Below.refl _ _)
    exact ⟨(World.cell?_of_block (w := w6) (a := ⟨wb, 1, none⟩) e1).trans a.1, (World.cell?_of_block (w := w6) (a := ⟨wb, 0, none⟩) e1).trans a.2.1, (World.cell?_of_block (w := w6) (a := ⟨b, 3, none⟩) e2).trans a.2.2⟩)
  have HFZ := Lib.hid (fun kb vb (wz : World) (hgrow : World.grownBy ((((w6.alloc (.cells (madeCells #[.slice none 0 0] n) 45)).alloc (.cells (madeCells #[.slice none 0 0] n) 45)).alloc (.cells #[.slice (some ⟨kb, 0, none⟩) n n, .slice (some ⟨vb, 0, none⟩) n n] 29)).drew) wz v.ownBlock) => show wz.frozen? ⟨wb, 1, none⟩ = false from (World.frozen?_of_block (w := w6) (a := ⟨wb, 1, none⟩) (hz6 kb vb wz hgrow wb u1.lt hnwb)).trans ((three u1.blk).2.2.2 1))
  obtain ⟨j0, hj0, hy0, hy1, hy2⟩ := info_parts info_entry
  have HJ := Lib.hid hj0
  have HY0 := Lib.hid hy0
  have HY1 := Lib.hid hy1
  have HY2 := Lib.hid hy2
  obtain ⟨i0, hi0, hz0, hz1, hz2⟩ := info_parts info_ints
  have hmk : ∀ W, (Instr.makeSlice 27 (.int .i64 (n : Int)) (.int .i64 (n : Int))).run Tryz.prog W = .ok (.slice (some ⟨W.heap.size, 0, none⟩) n n) (W.alloc (.cells (madeCells #[.slice none 0 0] n) 45)) := fun W =>
    run_make_row 27 45 i0 (.slice none 0 0) Tryz.underlying27 hi0 hz0 hz1 rfl .i64 .i64 n (by rw [hz2]; have := HN3.out; omega) (by have := HN3.out; omega) W
  clear hj0 hy0 hy1 hy2 hi0 hz0 hz1 hz2 u1 u2 hk0 B0 hbc hnew r1 r2 hnwb hz6
  go_wp2_with (fail)
  -- HANDV 0
  refine wp_region_noPanic ?_
  refine wp_region_heldV (S := (fun W : World => W.cell? ⟨wb, 1, none⟩ = some v ∧ W.cell? ⟨wb, 0, none⟩ = some (.pointer (some ⟨b, 0, none⟩)) ∧ W.cell? ⟨b, 3, none⟩ = some (.int .i64 (n : Int)))) 30 (by kernel_rfl) (by kernel_rfl) (by kernel_rfl) (by kernel_rfl) (by decide) k0 (fun hHeld => ?_)
  refine wpAnyV_take (i := 0) (v := .pointer (some ⟨wb, 0, none⟩)) 27 rfl rfl (by decide) (by kernel_rfl) (by kernel_rfl) (fun _ _ _ h => h) (Or.inl ⟨by rfl, ?_⟩) hHeld ?_
  · intro W hW
    try dsimp only at hW
    go_simp
  simp only [Act.put, List.setIfInBounds_toArray, List.set_cons_succ, List.set_cons_zero]
  refine wpAnyV_take (i := 1) (v := .pointer (some ⟨wb, 0, none⟩)) 28 rfl rfl (by decide) (by kernel_rfl) (by kernel_rfl) (fun _ _ _ h => h) (Or.inl ⟨by rfl, ?_⟩) hHeld ?_
  · intro W hW
    try dsimp only at hW
    go_simp
  simp only [Act.put, List.setIfInBounds_toArray, List.set_cons_succ, List.set_cons_zero]
  refine wpAnyV_take (i := 2) (v := .pointer (some ⟨wb, 0, none⟩)) 29 rfl rfl (by decide) (by kernel_rfl) (by kernel_rfl) (fun _ _ _ h => h) (Or.inl ⟨by rfl, ?_⟩) hHeld ?_
  · intro W hW
    try dsimp only at hW
    go_simp
  simp only [Act.put, List.setIfInBounds_toArray, List.set_cons_succ, List.set_cons_zero]
  refine wpAnyV_take (i := 3) (v := .pointer (some ⟨wb, 1, none⟩)) 30 rfl rfl (by decide) (by kernel_rfl) (by kernel_rfl) (fun _ _ _ h => h) (Or.inl ⟨by rfl, ?_⟩) hHeld ?_
  · intro W hW
    try dsimp only at hW
    go_simp
  simp only [Act.put, List.setIfInBounds_toArray, List.set_cons_succ, List.set_cons_zero]
  refine wpAnyV_take (i := 4) (v := v) 31 rfl rfl (by decide) (by kernel_rfl) (by kernel_rfl) (fun _ _ _ h => h) (Or.inl ⟨by rfl, ?_⟩) hHeld ?_
  · intro W hW
    try dsimp only at hW
    go_simp
  simp only [Act.put, List.setIfInBounds_toArray, List.set_cons_succ, List.set_cons_zero]
  refine wpAnyV_take (i := 5) (v := .pointer (some ⟨wb, 0, none⟩)) 32 rfl rfl (by decide) (by kernel_rfl) (by kernel_rfl) (fun _ _ _ h => h) (Or.inl ⟨by rfl, ?_⟩) hHeld ?_
  · intro W hW
    try dsimp only at hW
    go_simp
  simp only [Act.put, List.setIfInBounds_toArray, List.set_cons_succ, List.set_cons_zero]
  refine wpAnyV_take (i := 6) (v := .pointer (some ⟨wb, 0, none⟩)) 33 rfl rfl (by decide) (by kernel_rfl) (by kernel_rfl) (fun _ _ _ h => h) (Or.inl ⟨by rfl, ?_⟩) hHeld ?_
  · intro W hW
    try dsimp only at hW
    go_simp
  simp only [Act.put, List.setIfInBounds_toArray, List.set_cons_succ, List.set_cons_zero]
  refine wpAnyV_take (i := 7) (v := .pointer (some ⟨wb, 0, none⟩)) 34 rfl rfl (by decide) (by kernel_rfl) (by kernel_rfl) (fun _ _ _ h => h) (Or.inl ⟨by rfl, ?_⟩) hHeld ?_
  · intro W hW
    try dsimp only at hW
    go_simp
  simp only [Act.put, List.setIfInBounds_toArray, List.set_cons_succ, List.set_cons_zero]
  refine wpAnyV_take (i := 8) (v := .pointer (some ⟨b, 0, none⟩)) 35 rfl rfl (by decide) (by kernel_rfl) (by kernel_rfl) (fun _ _ _ h => h) (Or.inl ⟨by rfl, ?_⟩) hHeld ?_
  · intro W hW
    try dsimp only at hW
    go_simp
  simp only [Act.put, List.setIfInBounds_toArray, List.set_cons_succ, List.set_cons_zero]
  refine wpAnyV_take (i := 9) (v := .pointer (some ⟨b, 0, none⟩)) 36 rfl rfl (by decide) (by kernel_rfl) (by kernel_rfl) (fun _ _ _ h => h) (Or.inl ⟨by rfl, ?_⟩) hHeld ?_
  · intro W hW
    try dsimp only at hW
    go_simp
  simp only [Act.put, List.setIfInBounds_toArray, List.set_cons_succ, List.set_cons_zero]
  refine wpAnyV_take (i := 10) (v := .pointer (some ⟨b, 0, none⟩)) 37 rfl rfl (by decide) (by kernel_rfl) (by kernel_rfl) (fun _ _ _ h => h) (Or.inl ⟨by rfl, ?_⟩) hHeld ?_
  · intro W hW
    try dsimp only at hW
    go_simp
  simp only [Act.put, List.setIfInBounds_toArray, List.set_cons_succ, List.set_cons_zero]
  refine wpAnyV_take (i := 11) (v := .pointer (some ⟨b, 0, none⟩)) 38 rfl rfl (by decide) (by kernel_rfl) (by kernel_rfl) (fun _ _ _ h => h) (Or.inl ⟨by rfl, ?_⟩) hHeld ?_
  · intro W hW
    try dsimp only at hW
    go_simp
  simp only [Act.put, List.setIfInBounds_toArray, List.set_cons_succ, List.set_cons_zero]
  refine wpAnyV_take (i := 12) (v := .pointer (some ⟨b, 3, none⟩)) 39 rfl rfl (by decide) (by kernel_rfl) (by kernel_rfl) (fun _ _ _ h => h) (Or.inl ⟨by rfl, ?_⟩) hHeld ?_
  · intro W hW
    try dsimp only at hW
    go_simp
  simp only [Act.put, List.setIfInBounds_toArray, List.set_cons_succ, List.set_cons_zero]
  refine wpAnyV_take (i := 13) (v := .int .i64 (n : Int)) 40 rfl rfl (by decide) (by kernel_rfl) (by kernel_rfl) (fun _ _ _ h => h) (Or.inl ⟨by rfl, ?_⟩) hHeld ?_
  · intro W hW
    try dsimp only at hW
    go_simp
  simp only [Act.put, List.setIfInBounds_toArray, List.set_cons_succ, List.set_cons_zero]
  refine wpAnyV_take (i := 15) (v := .pointer (some ⟨wb, 0, none⟩)) 42 rfl rfl (by decide) (by kernel_rfl) (by kernel_rfl) (fun _ _ _ h => h) (Or.inl ⟨by rfl, ?_⟩) hHeld ?_
  · intro W hW
    try dsimp only at hW
    go_simp
  simp only [Act.put, List.setIfInBounds_toArray, List.set_cons_succ, List.set_cons_zero]
  refine wpAnyV_take (i := 16) (v := .pointer (some ⟨wb, 0, none⟩)) 43 rfl rfl (by decide) (by kernel_rfl) (by kernel_rfl) (fun _ _ _ h => h) (Or.inl ⟨by rfl, ?_⟩) hHeld ?_
  · intro W hW
    try dsimp only at hW
    go_simp
  simp only [Act.put, List.setIfInBounds_toArray, List.set_cons_succ, List.set_cons_zero]
  refine wpAnyV_take (i := 17) (v := .pointer (some ⟨wb, 0, none⟩)) 44 rfl rfl (by decide) (by kernel_rfl) (by kernel_rfl) (fun _ _ _ h => h) (Or.inl ⟨by rfl, ?_⟩) hHeld ?_
  · intro W hW
    try dsimp only at hW
    go_simp
  simp only [Act.put, List.setIfInBounds_toArray, List.set_cons_succ, List.set_cons_zero]
  refine wpAnyV_take (i := 18) (v := .pointer (some ⟨b, 0, none⟩)) 45 rfl rfl (by decide) (by kernel_rfl) (by kernel_rfl) (fun _ _ _ h => h) (Or.inl ⟨by rfl, ?_⟩) hHeld ?_
  · intro W hW
    try dsimp only at hW
    go_simp
  simp only [Act.put, List.setIfInBounds_toArray, List.set_cons_succ, List.set_cons_zero]
  refine wpAnyV_take (i := 19) (v := .pointer (some ⟨b, 0, none⟩)) 46 rfl rfl (by decide) (by kernel_rfl) (by kernel_rfl) (fun _ _ _ h => h) (Or.inl ⟨by rfl, ?_⟩) hHeld ?_
  · intro W hW
    try dsimp only at hW
    go_simp
  simp only [Act.put, List.setIfInBounds_toArray, List.set_cons_succ, List.set_cons_zero]
  refine wpAnyV_take (i := 20) (v := .pointer (some ⟨b, 0, none⟩)) 47 rfl rfl (by decide) (by kernel_rfl) (by kernel_rfl) (fun _ _ _ h => h) (Or.inl ⟨by rfl, ?_⟩) hHeld ?_
  · intro W hW
    try dsimp only at hW
    go_simp
  simp only [Act.put, List.setIfInBounds_toArray, List.set_cons_succ, List.set_cons_zero]
  refine wpAnyV_take (i := 21) (v := .pointer (some ⟨b, 0, none⟩)) 48 rfl rfl (by decide) (by kernel_rfl) (by kernel_rfl) (fun _ _ _ h => h) (Or.inl ⟨by rfl, ?_⟩) hHeld ?_
  · intro W hW
    try dsimp only at hW
    go_simp
  simp only [Act.put, List.setIfInBounds_toArray, List.set_cons_succ, List.set_cons_zero]
  refine wpAnyV_take (i := 22) (v := .pointer (some ⟨b, 3, none⟩)) 49 rfl rfl (by decide) (by kernel_rfl) (by kernel_rfl) (fun _ _ _ h => h) (Or.inl ⟨by rfl, ?_⟩) hHeld ?_
  · intro W hW
    try dsimp only at hW
    go_simp
  simp only [Act.put, List.setIfInBounds_toArray, List.set_cons_succ, List.set_cons_zero]
  refine wpAnyV_take (i := 23) (v := .int .i64 (n : Int)) 50 rfl rfl (by decide) (by kernel_rfl) (by kernel_rfl) (fun _ _ _ h => h) (Or.inl ⟨by rfl, ?_⟩) hHeld ?_
  · intro W hW
    try dsimp only at hW
    go_simp
  simp only [Act.put, List.setIfInBounds_toArray, List.set_cons_succ, List.set_cons_zero]
  refine wpAnyV_two (i := 14) (j := 24) (by kernel_rfl) rfl rfl (by decide) (by decide) (fun K hK => ?_) (fun K hK => ?_)
  · go_simp
    refine hK.out _ _ (HSA.out _ BA.out) (fun hHeld2 => ?_)
    clear hK K hHeld
    have hHeld := hHeld2
    clear hHeld2
    try simp only [Act.put, List.setIfInBounds_toArray, List.set_cons_succ, List.set_cons_zero]
    refine wpAnyV_one (i := 24) (by kernel_rfl) rfl (by decide) (fun K hK => ?_)
    go_simp
    refine hK.out _ _ (HSA.out _ BB.out) (fun hHeld2 => ?_)
    clear hK K hHeld
    have hHeld := hHeld2
    clear hHeld2
    try simp only [Act.put, List.setIfInBounds_toArray, List.set_cons_succ, List.set_cons_zero]
    refine wpAnyV_take (i := 25) (v := .agg #[.slice (some ⟨w6.heap.size, 0, none⟩) n n, .slice (some ⟨w6.heap.size + 1, 0, none⟩) n n]) 52 rfl rfl (by decide) (by kernel_rfl) (by kernel_rfl) (fun _ _ _ h => h) (Or.inl ⟨by rfl, ?_⟩) hHeld ?_
    · intro W hW
      try dsimp only at hW
      go_simp
    simp only [Act.put, List.setIfInBounds_toArray, List.set_cons_succ, List.set_cons_zero]
    refine wpAnyV_one (i := 26) (by kernel_rfl) rfl (by decide) (fun K hK => ?_)
    go_simp
    refine hK.out _ _ (HSA.out _ (HBC.out (w6.heap.size) (w6.heap.size + 1))) (fun hHeld2 => ?_)
    clear hK K hHeld
    have hHeld := hHeld2
    clear hHeld2
    try simp only [Act.put, List.setIfInBounds_toArray, List.set_cons_succ, List.set_cons_zero]
    refine wpAnyV_one (i := 27) (by kernel_rfl) rfl (by decide) (fun K hK => ?_)
    refine step_append_lies _ (by rfl) _ _ _ (by rfl) N 29 j0 _ 2 48 Tryz.underlying24 HJ.out HY0.out HY1.out HY2.out rfl (by omega) v Q.length _ (by rfl) (HOWN.out (w6.heap.size) (w6.heap.size + 1)) ⟨w6.heap.size + 2, 0, none⟩ 1 1 [.slice (some ⟨w6.heap.size, 0, none⟩) n n, .slice (some ⟨w6.heap.size + 1, 0, none⟩) n n] (by rfl) rfl (HNEW.out (w6.heap.size) (w6.heap.size + 1)) (two_one _ _) (by omega) (by unfold maxLen; have := HQL.out; omega) (by have := HQL.out; omega) (HLOW.out (w6.heap.size) (w6.heap.size + 1)) _ rfl ?_
    intro g cap wz hown hgrow hat hlt
    have HF := Lib.hid (HENT.out (w6.heap.size) (w6.heap.size + 1) wz g cap (.inl ⟨rfl, rfl⟩) hown hgrow hat)
    have hsz := HSZ.out (w6.heap.size) (w6.heap.size + 1) wz hgrow
    have fz := HFZ.out (w6.heap.size) (w6.heap.size + 1) wz hgrow
    have cz := hsz.1
    clear hown hgrow hat hlt
    refine hK.out _ _ hsz (fun hHeld2 => ?_)
    clear hK K hHeld
    have hHeld := hHeld2
    clear hHeld2
    try simp only [Act.put, List.setIfInBounds_toArray]
    refine wpAnyV_take (i := 28) (v := .pointer (some ⟨wb, 0, none⟩)) 55 rfl rfl (by decide) (by kernel_rfl) (by kernel_rfl) (fun _ _ _ h => h) (Or.inl ⟨by rfl, ?_⟩) hHeld ?_
    · intro W hW
      try dsimp only at hW
      go_simp
    simp only [Act.put]
    refine wpAnyV_take (i := 29) (v := .pointer (some ⟨wb, 1, none⟩)) 56 rfl rfl (by decide) (by kernel_rfl) (by kernel_rfl) (fun _ _ _ h => h) (Or.inl ⟨by rfl, ?_⟩) hHeld ?_
    · intro W hW
      try dsimp only at hW
      go_simp
    simp only [Act.put]
    refine wpAnyV_last (by kernel_rfl) rfl (by kernel_rfl) (fun K hK => ?_)
    go_simp
    refine hK.out _ _ ?_
    refine NoPanic.normal ?_
    go_wp2_with (fail)
    go_end0
    have hf := HF.out
    rw [← HNB.out] at hf
    exact ⟨rfl, _, _, _, _, _, _, hf⟩
  · go_simp
    refine hK.out _ _ (HSA.out _ BA.out) (fun hHeld2 => ?_)
    clear hK K hHeld
    have hHeld := hHeld2
    clear hHeld2
    try simp only [Act.put, List.setIfInBounds_toArray, List.set_cons_succ, List.set_cons_zero]
    refine wpAnyV_one (i := 14) (by kernel_rfl) rfl (by decide) (fun K hK => ?_)
    go_simp
    refine hK.out _ _ (HSA.out _ BB.out) (fun hHeld2 => ?_)
    clear hK K hHeld
    have hHeld := hHeld2
    clear hHeld2
    try simp only [Act.put, List.setIfInBounds_toArray, List.set_cons_succ, List.set_cons_zero]
    refine wpAnyV_take (i := 25) (v := .agg #[.slice (some ⟨w6.heap.size + 1, 0, none⟩) n n, .slice (some ⟨w6.heap.size, 0, none⟩) n n]) 52 rfl rfl (by decide) (by kernel_rfl) (by kernel_rfl) (fun _ _ _ h => h) (Or.inl ⟨by rfl, ?_⟩) hHeld ?_
    · intro W hW
      try dsimp only at hW
      go_simp
    simp only [Act.put, List.setIfInBounds_toArray, List.set_cons_succ, List.set_cons_zero]
    refine wpAnyV_one (i := 26) (by kernel_rfl) rfl (by decide) (fun K hK => ?_)
    go_simp
    refine hK.out _ _ (HSA.out _ (HBC.out (w6.heap.size + 1) (w6.heap.size))) (fun hHeld2 => ?_)
    clear hK K hHeld
    have hHeld := hHeld2
    clear hHeld2
    try simp only [Act.put, List.setIfInBounds_toArray, List.set_cons_succ, List.set_cons_zero]
    refine wpAnyV_one (i := 27) (by kernel_rfl) rfl (by decide) (fun K hK => ?_)
    refine step_append_lies _ (by rfl) _ _ _ (by rfl) N 29 j0 _ 2 48 Tryz.underlying24 HJ.out HY0.out HY1.out HY2.out rfl (by omega) v Q.length _ (by rfl) (HOWN.out (w6.heap.size + 1) (w6.heap.size)) ⟨w6.heap.size + 2, 0, none⟩ 1 1 [.slice (some ⟨w6.heap.size + 1, 0, none⟩) n n, .slice (some ⟨w6.heap.size, 0, none⟩) n n] (by rfl) rfl (HNEW.out (w6.heap.size + 1) (w6.heap.size)) (two_one _ _) (by omega) (by unfold maxLen; have := HQL.out; omega) (by have := HQL.out; omega) (HLOW.out (w6.heap.size + 1) (w6.heap.size)) _ rfl ?_
    intro g cap wz hown hgrow hat hlt
    have HF := Lib.hid (HENT.out (w6.heap.size + 1) (w6.heap.size) wz g cap (.inr ⟨rfl, rfl⟩) hown hgrow hat)
    have hsz := HSZ.out (w6.heap.size + 1) (w6.heap.size) wz hgrow
    have fz := HFZ.out (w6.heap.size + 1) (w6.heap.size) wz hgrow
    have cz := hsz.1
    clear hown hgrow hat hlt
    refine hK.out _ _ hsz (fun hHeld2 => ?_)
    clear hK K hHeld
    have hHeld := hHeld2
    clear hHeld2
    try simp only [Act.put, List.setIfInBounds_toArray]
    refine wpAnyV_take (i := 28) (v := .pointer (some ⟨wb, 0, none⟩)) 55 rfl rfl (by decide) (by kernel_rfl) (by kernel_rfl) (fun _ _ _ h => h) (Or.inl ⟨by rfl, ?_⟩) hHeld ?_
    · intro W hW
      try dsimp only at hW
      go_simp
    simp only [Act.put]
    refine wpAnyV_take (i := 29) (v := .pointer (some ⟨wb, 1, none⟩)) 56 rfl rfl (by decide) (by kernel_rfl) (by kernel_rfl) (fun _ _ _ h => h) (Or.inl ⟨by rfl, ?_⟩) hHeld ?_
    · intro W hW
      try dsimp only at hW
      go_simp
    simp only [Act.put]
    refine wpAnyV_last (by kernel_rfl) rfl (by kernel_rfl) (fun K hK => ?_)
    go_simp
    refine hK.out _ _ ?_
    refine NoPanic.normal ?_
    go_wp2_with (fail)
    go_end0
    have hf := HF.out
    rw [← HNB.out] at hf
    exact ⟨rfl, _, _, _, _, _, _, hf⟩
  -- VDNAH 0
end Go.Proofs.YtkdkeokldcehhaaGreatDoor
