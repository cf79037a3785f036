/-
  A token through a model, in plain words: entries, heads, blocks, scores; many tokens, one behind the other; that neither the parts of a run nor the order of what is behind one plays a part. No program's function here. Conditions: those of each lemma.
  Entries behind slices: where their keys and values lie, and what a store elsewhere leaves. No program's function here. No conditions but those of each lemma.
  The law's own comparison of two rows of numbers: whether they are the same. Conditions: the rows' numbers are there.
  Package step: what Same answers, and the library's slices.Equal and EqualFunc on which it stands. Conditions: the rows and entries are there.
  Small words for entries' rows: a cell turned, slices in a row, an entry in a block of its own. No program's function here. No conditions.
  The library's slices.IndexFunc and ContainsFunc at three types, by what the function that is handed on says of each element. Conditions: the elements are there, at most a million; the function answers, and turns nothing that lay.
  A region that draws its order and ends in one operation that waits for all others (a store into what the region has loaded): loads are taken first under a condition that need hold up to that operation alone. No program here. No conditions.
-/
import Derived.Test.YtlapinecmiacoaaMe8
import Derived.Test.YtlapinecmiacoaaMe9
import Derived.Test.YtlapinecmiacoaaMe10
import Derived.Test.YtlapinecmiacoaaMe11
import Derived.Test.YtlapinecmiacoaaMe7
import Derived.Test.YtlapinecmiacoaaMe1
import Derived.Shelf.Abstract
import Derived.BigQuiet
import Derived.Laws.AppendOwn
import Derived.Deep.QuietTactic
import Derived.Deep.RegionHeld3
import Derived.StillTail
set_option maxRecDepth 100000
namespace Go.Proofs.Ytlapinecmiacoaa
open Go.ChangeShapes Go.WideShapes Go.ChangeAt Go.RowKit Cf Vc Br Sf Nr Ac
open Go.Proofs.Ytlapinecmiacoaa.Nm (sat shift dot sum)
namespace Sp

/-! What a step is -/
structure Ent where
  ks : List (List Int)
  vs : List (List Int)
def dN (x : Cfg) : Nat := x.d.toNat
def hN (x : Cfg) : Nat := x.h.toNat
def bN (x : Cfg) : Nat := x.b.toNat
def vN (x : Cfg) : Nat := x.v.toNat
def nH (x : Cfg) : Nat := (x.d.tdiv x.h).toNat
/-- A part of a block times a row, shifted by 6. -/
def tim (x : Cfg) (s : ByteArray) (p k : Nat) (v : List Int) : List Int := timesL (listD (pieceB x s (p : Int) (k : Int))) (rowsZ x (p : Int)).toNat (colsZ x (p : Int)).toNat v 6
def gains (x : Cfg) (s : ByteArray) (p k : Nat) : List Int := rowZ x s (p : Int) (k : Int) 0
/-- The numbers of the head i, of n each. -/
def cutH (n i : Nat) (v : List Int) : List Int := (v.drop (i * n)).take n
def scoreH (n i : Nat) (q r : List Int) : Int := shift (dot (cutH n i q) (cutH n i r)) 9
def mixH (n i : Nat) (q : List Int) (K V : List (List Int)) : List Int := mixL (weightsL (K.map (scoreH n i q))) (V.map (cutH n i)) n
def lookL (H n : Nat) (q : List Int) (K V : List (List Int)) : List Int := (List.range H).flatMap fun i => mixH n i q K V
def normK (x : Cfg) (s : ByteArray) (p k : Nat) (z : List Int) : List Int := ofL (gains x s p k) z
def keyL (x : Cfg) (s : ByteArray) (k : Nat) (z : List Int) : List Int := tim x s 4 k (normK x s 2 k z)
def valL (x : Cfg) (s : ByteArray) (k : Nat) (z : List Int) : List Int := tim x s 5 k (normK x s 2 k z)
def seenL (x : Cfg) (s : ByteArray) (k : Nat) (K V : List (List Int)) (z : List Int) : List Int := lookL (hN x) (nH x) (tim x s 3 k (normK x s 2 k z)) (K ++ [keyL x s k z]) (V ++ [valL x s k z])
def midL (x : Cfg) (s : ByteArray) (k : Nat) (K V : List (List Int)) (z : List Int) : List Int := plusL [z, tim x s 6 k (seenL x s k K V z)] (dN x)
def downL (x : Cfg) (s : ByteArray) (k : Nat) (m : List Int) : List Int := plusL [m, tim x s 10 k (pairsL (tim x s 8 k (normK x s 7 k m)) (tim x s 9 k (normK x s 7 k m)))] (dN x)
def blockL (x : Cfg) (s : ByteArray) (k : Nat) (K V : List (List Int)) (z : List Int) : List Int := downL x s k (midL x s k K V z)
def kAt (past : List Ent) (k : Nat) : List (List Int) := past.map fun e => e.ks.getD k []
def vAt (past : List Ent) (k : Nat) : List (List Int) := past.map fun e => e.vs.getD k []
/-- Behind k blocks: the keys, the values, and the row. -/
def through (x : Cfg) (s : ByteArray) (past : List Ent) (z : List Int) : Nat → List (List Int) × List (List Int) × List Int
  | 0 => ([], [], z)
  | k + 1 => ((through x s past z k).1 ++ [keyL x s k (through x s past z k).2.2], (through x s past z k).2.1 ++ [valL x s k (through x s past z k).2.2], blockL x s k (kAt past k) (vAt past k) (through x s past z k).2.2)
def startL (x : Cfg) (s : ByteArray) (tok : Int) (place : Nat) : List Int := (List.range (dN x)).map fun i => sat (16 * ((rowZ x s 0 0 tok).getD i 0 + (rowZ x s 1 0 (place : Int)).getD i 0))
def scoresL (x : Cfg) (s : ByteArray) (z : List Int) : List Int := (List.range (vN x)).map fun t : Nat => shift (dot (rowZ x s 0 0 (t : Int)) (normK x s 11 0 z)) 5
def endT (x : Cfg) (s : ByteArray) (past : List Ent) (tok : Int) : List (List Int) × List (List Int) × List Int := through x s past (startL x s tok past.length) (bN x)
def entZ (x : Cfg) (s : ByteArray) (past : List Ent) (tok : Int) : Ent := ⟨(endT x s past tok).1, (endT x s past tok).2.1⟩
def scoZ (x : Cfg) (s : ByteArray) (past : List Ent) (tok : Int) : List Int := scoresL x s (endT x s past tok).2.2

/-! What can be an entry; errors -/
def actB (z : Int) : Bool := decide (-32767 ≤ z) && decide (z ≤ 32767)
def rowB (d : Nat) (l : List Int) : Bool := decide (l.length = d) && l.all actB
def rowsB (n d : Nat) (L : List (List Int)) : Bool := decide (L.length = n) && L.all (rowB d)
def goodE (x : Cfg) (e : Ent) : Bool := rowsB (bN x) (dN x) e.ks && rowsB (bN x) (dN x) e.vs
def errZ (x : Cfg) (past : List Ent) (tok : Int) : Int := if past.all (goodE x) = true then (if 0 ≤ tok ∧ tok < x.v then (if (past.length : Int) < x.c then 0 else 12) else 3) else 1
theorem actB_iff {z : Int} : actB z = true ↔ -32767 ≤ z ∧ z ≤ 32767 := by unfold actB; simp
theorem rowB_iff {d : Nat} {l : List Int} : rowB d l = true ↔ l.length = d ∧ ∀ z ∈ l, -32767 ≤ z ∧ z ≤ 32767 := by
  unfold rowB
  simp only [Bool.and_eq_true, decide_eq_true_iff, List.all_eq_true, actB_iff]
theorem rowsB_iff {n d : Nat} {L : List (List Int)} : rowsB n d L = true ↔ L.length = n ∧ ∀ l ∈ L, rowB d l = true := by
  unfold rowsB
  simp only [Bool.and_eq_true, decide_eq_true_iff, List.all_eq_true]
theorem goodE_iff {x : Cfg} {e : Ent} : goodE x e = true ↔ rowsB (bN x) (dN x) e.ks = true ∧ rowsB (bN x) (dN x) e.vs = true := by
  unfold goodE
  rw [Bool.and_eq_true]

/-! Lengths -/
theorem dims {x : Cfg} (h : In x) : (dN x : Int) = x.d ∧ (hN x : Int) = x.h ∧ (bN x : Int) = x.b ∧ (vN x : Int) = x.v := by
  have := h.d1; have := h.h1; have := h.b1; have := h.v2
  unfold dN hN bN vN
  omega
theorem heads {x : Cfg} (h : Cf.Good x) : hN x * nH x = dN x := by
  obtain ⟨h1, h2, _, _⟩ := dims h.is
  have h3 := Int.tdiv_mul_add_tmod x.d x.h
  rw [h.rest, Int.add_zero] at h3
  have h4 : 0 ≤ x.d.tdiv x.h := Int.tdiv_nonneg (by have := h.is.d1; omega) (by have := h.is.h1; omega)
  have h5 : (nH x : Int) = x.d.tdiv x.h := by unfold nH; omega
  have h6 : ((hN x * nH x : Nat) : Int) = (dN x : Int) := by
    rw [Int.natCast_mul, h2, h5, h1, Int.mul_comm]
    exact h3
  exact Int.ofNat.inj h6
theorem tim_length (x : Cfg) (s : ByteArray) (p k : Nat) (v : List Int) : (tim x s p k v).length = (rowsZ x (p : Int)).toNat := timesL_length _ _ _ _ _
theorem tim_acts (x : Cfg) (s : ByteArray) (p k : Nat) (v : List Int) : ∀ z ∈ tim x s p k v, -32767 ≤ z ∧ z ≤ 32767 := fun z hz => by
  unfold tim timesL at hz
  obtain ⟨i, _, rfl⟩ := List.mem_map.1 hz
  exact sat_in _
theorem rows_mid (x : Cfg) {p : Nat} (h : p = 3 ∨ p = 4 ∨ p = 5 ∨ p = 6 ∨ p = 10) : (rowsZ x (p : Int)).toNat = dN x := by
  rcases h with rfl | rfl | rfl | rfl | rfl <;> rfl
theorem tim_row {x : Cfg} {s : ByteArray} {p k : Nat} {v : List Int} (h : p = 3 ∨ p = 4 ∨ p = 5 ∨ p = 6 ∨ p = 10) : rowB (dN x) (tim x s p k v) = true := rowB_iff.2 ⟨(tim_length x s p k v).trans (rows_mid x h), tim_acts x s p k v⟩
theorem cutH_length {n i H : Nat} {v : List Int} (hv : v.length = H * n) (hi : i < H) : (cutH n i v).length = n := by
  unfold cutH
  rw [List.length_take, List.length_drop, hv]
  have h1 : (i + 1) * n ≤ H * n := Nat.mul_le_mul_right _ hi
  rw [Nat.succ_mul] at h1
  omega
theorem mixH_length (n i : Nat) (q : List Int) (K V : List (List Int)) : (mixH n i q K V).length = n := mixL_length _ _ _
theorem lookL_length (H n : Nat) (q : List Int) (K V : List (List Int)) : (lookL H n q K V).length = H * n := by
  unfold lookL
  induction H with
  | zero => rw [Nat.zero_mul]; rfl
  | succ H ih => rw [List.range_succ, List.flatMap_append, List.length_append, ih, Nat.succ_mul]; simp [mixH_length]
theorem plusL_acts (L : List (List Int)) (n : Nat) : rowB n (plusL L n) = true := rowB_iff.2 ⟨plusL_length _ _, fun z hz => by
  unfold plusL at hz
  obtain ⟨i, _, rfl⟩ := List.mem_map.1 hz
  exact sat_in _⟩
theorem startL_row (x : Cfg) (s : ByteArray) (tok : Int) (place : Nat) : rowB (dN x) (startL x s tok place) = true := rowB_iff.2 ⟨by simp [startL], fun z hz => by
  unfold startL at hz
  obtain ⟨i, _, rfl⟩ := List.mem_map.1 hz
  exact sat_in _⟩
theorem scoresL_length (x : Cfg) (s : ByteArray) (z : List Int) : (scoresL x s z).length = vN x := by simp [scoresL]
theorem gains_length {x : Cfg} {s : ByteArray} (h : Cf.Good x) {p k : Nat} (hp : p = 2 ∨ p = 7 ∨ p = 11) (hk : (k : Int) < timesZ x (p : Int)) : (gains x s p k).length = dN x := by
  have hi : isZ x (p : Int) (k : Int) = true := isZ_iff.2 ⟨h, by omega, by omega, by omega, hk⟩
  unfold gains rowZ
  have h1 : rowsZ x (p : Int) = 1 := by rcases hp with rfl | rfl | rfl <;> rfl
  rw [if_pos ⟨hi, by omega, by omega⟩, rowD_length]
  rcases hp with rfl | rfl | rfl <;> rfl
theorem normK_length {x : Cfg} {s : ByteArray} (h : Cf.Good x) {p k : Nat} (hp : p = 2 ∨ p = 7 ∨ p = 11) (hk : (k : Int) < timesZ x (p : Int)) {z : List Int} (hz : z.length = dN x) : (normK x s p k z).length = dN x := by
  unfold normK
  rw [ofL_same ((gains_length h hp hk).trans hz.symm), normL_length, hz]
theorem through_row (x : Cfg) (s : ByteArray) (past : List Ent) (z : List Int) (hz : rowB (dN x) z = true) : ∀ k, rowB (dN x) (through x s past z k).2.2 = true
  | 0 => hz
  | _ + 1 => plusL_acts _ _
theorem through_rows (x : Cfg) (s : ByteArray) (past : List Ent) (z : List Int) : ∀ k, rowsB k (dN x) (through x s past z k).1 = true ∧ rowsB k (dN x) (through x s past z k).2.1 = true
  | 0 => ⟨rfl, rfl⟩
  | k + 1 => by
    obtain ⟨h1, h2⟩ := through_rows x s past z k
    obtain ⟨a1, a2⟩ := rowsB_iff.1 h1
    obtain ⟨b1, b2⟩ := rowsB_iff.1 h2
    refine ⟨rowsB_iff.2 ⟨?_, ?_⟩, rowsB_iff.2 ⟨?_, ?_⟩⟩
    · show ((through x s past z k).1 ++ [_]).length = k + 1
      rw [List.length_append, a1]
      rfl
    · intro l hl
      rcases List.mem_append.1 hl with hl | hl
      · exact a2 l hl
      · rw [List.mem_singleton.1 hl]
        exact tim_row (by omega)
    · show ((through x s past z k).2.1 ++ [_]).length = k + 1
      rw [List.length_append, b1]
      rfl
    · intro l hl
      rcases List.mem_append.1 hl with hl | hl
      · exact b2 l hl
      · rw [List.mem_singleton.1 hl]
        exact tim_row (by omega)
theorem entZ_good (x : Cfg) (s : ByteArray) (past : List Ent) (tok : Int) : goodE x (entZ x s past tok) = true := goodE_iff.2 (through_rows x s past _ (bN x))

/-! Weights of scores -/
theorem weights_in (l : List Int) : InW 65536 (weightsL l) := fun i hi => by
  rw [weightsL_length] at hi
  rw [weightsL_at l i hi]
  exact expZ_in _
theorem weights_some {l : List Int} (h : 0 < l.length) : 0 < total (weightsL l) := by
  obtain ⟨z, hz, he⟩ := high_is (l := l) (by intro e; rw [e] at h; exact absurd h (by simp))
  have h1 : ∀ ws : List Int, InW 65536 ws → ∀ w ∈ ws, w ≤ total ws := fun ws => by
    induction ws with
    | nil => intro _ w hw; cases hw
    | cons a ws ih =>
      intro hW w hw
      obtain ⟨h2, h3⟩ := inW_cons hW
      have h4 := (total_in (m := 65536) (by omega) ws h3).1
      rw [total_cons]
      rcases List.mem_cons.1 hw with rfl | hw
      · omega
      · have := ih h3 w hw; omega
  have h2 : (65536 : Int) ∈ weightsL l := by
    unfold weightsL
    refine List.mem_map.2 ⟨z, hz, ?_⟩
    rw [he, Int.sub_self, expZ_zero]
  have := h1 _ (weights_in l) _ h2
  omega

/-! Many tokens -/
def runE (x : Cfg) (s : ByteArray) (past : List Ent) : List Int → List Ent
  | [] => []
  | t :: ts => entZ x s past t :: runE x s (past ++ [entZ x s past t]) ts
def runS (x : Cfg) (s : ByteArray) (past : List Ent) : List Int → List Int
  | [] => []
  | [t] => scoZ x s past t
  | t :: u :: ts => runS x s (past ++ [entZ x s past t]) (u :: ts)
theorem runE_length (x : Cfg) (s : ByteArray) : ∀ (ts : List Int) (past : List Ent), (runE x s past ts).length = ts.length
  | [], _ => rfl
  | t :: ts, past => by
    show (runE x s (past ++ [entZ x s past t]) ts).length + 1 = ts.length + 1
    rw [runE_length x s ts]
theorem runE_append (x : Cfg) (s : ByteArray) (us : List Int) : ∀ (ts : List Int) (past : List Ent), runE x s past (ts ++ us) = runE x s past ts ++ runE x s (past ++ runE x s past ts) us
  | [], past => by
    show runE x s past us = runE x s (past ++ []) us
    rw [List.append_nil]
  | t :: ts, past => by
    show entZ x s past t :: runE x s (past ++ [entZ x s past t]) (ts ++ us) = entZ x s past t :: (runE x s (past ++ [entZ x s past t]) ts ++ runE x s (past ++ (entZ x s past t :: runE x s (past ++ [entZ x s past t]) ts)) us)
    rw [runE_append x s us ts, List.append_assoc, List.singleton_append]
theorem runS_append (x : Cfg) (s : ByteArray) {us : List Int} (hu : us ≠ []) : ∀ (ts : List Int) (past : List Ent), runS x s past (ts ++ us) = runS x s (past ++ runE x s past ts) us
  | [], past => by
    show runS x s past us = runS x s (past ++ []) us
    rw [List.append_nil]
  | t :: ts, past => by
    have h1 : ∃ v vs, ts ++ us = v :: vs := by
      cases ts with
      | nil => exact List.exists_cons_of_ne_nil hu
      | cons a ts => exact ⟨a, ts ++ us, rfl⟩
    obtain ⟨v, vs, hv⟩ := h1
    have h2 : runS x s past ((t :: ts) ++ us) = runS x s (past ++ [entZ x s past t]) (ts ++ us) := by
      show runS x s past (t :: (ts ++ us)) = _
      rw [hv]
      rfl
    rw [h2, runS_append x s hu ts]
    show _ = runS x s (past ++ (entZ x s past t :: runE x s (past ++ [entZ x s past t]) ts)) us
    rw [List.append_assoc, List.singleton_append]
theorem runE_one (x : Cfg) (s : ByteArray) (past : List Ent) (t : Int) : runE x s past [t] = [entZ x s past t] := rfl
theorem runE_good (x : Cfg) (s : ByteArray) : ∀ (ts : List Int) (past : List Ent), ∀ e ∈ runE x s past ts, goodE x e = true
  | [], _, e, he => by cases he
  | t :: ts, past, e, he => by
    rcases List.mem_cons.1 he with rfl | he
    · exact entZ_good x s past t
    · exact runE_good x s ts _ e he
/-- The entry of the token i, and the scores, are those of one step behind what is ahead. -/
theorem runE_at (x : Cfg) (s : ByteArray) (ts : List Int) (past : List Ent) (i : Nat) (h : i < ts.length) : (runE x s past ts)[i]? = some (entZ x s (past ++ runE x s past (ts.take i)) ts[i]) := by
  have h1 : ts = ts.take i ++ (ts[i] :: ts.drop (i + 1)) := by rw [← List.drop_eq_getElem_cons h, List.take_append_drop]
  have h2 : (runE x s past (ts.take i)).length = i := by rw [runE_length, List.length_take]; omega
  conv => lhs; rw [h1]
  rw [runE_append, List.getElem?_append_right (by omega), h2, Nat.sub_self]
  rfl

/-! The order of what is behind one -/
theorem high_same {l m : List Int} (h : ∀ z, z ∈ l ↔ z ∈ m) : highL l = highL m := by
  by_cases hl : l = []
  · have hm : m = [] := List.eq_nil_iff_forall_not_mem.2 fun z hz => by rw [hl] at h; exact absurd ((h z).2 hz) (by simp)
    rw [hl, hm]
  · have hm : m ≠ [] := fun hm => hl (List.eq_nil_iff_forall_not_mem.2 fun z hz => by rw [hm] at h; exact absurd ((h z).1 hz) (by simp))
    obtain ⟨a, ha, ea⟩ := high_is hl
    obtain ⟨b, hb, eb⟩ := high_is hm
    have h1 := high_ge ((h a).1 ha)
    have h2 := high_ge ((h b).2 hb)
    omega
theorem numer_perm {α : Type} {L M : List α} (h : L.Perm M) (f : α → Int) (r : α → List Int) (k : Nat) : numer (L.map f) (L.map r) k = numer (M.map f) (M.map r) k := by
  induction h with
  | nil => rfl
  | cons a _ ih => rw [List.map_cons, List.map_cons, List.map_cons, List.map_cons, numer_cons, numer_cons, ih]
  | swap a b l =>
    rw [List.map_cons, List.map_cons, List.map_cons, List.map_cons, List.map_cons, List.map_cons, List.map_cons, List.map_cons, numer_cons, numer_cons, numer_cons, numer_cons]
    omega
  | trans _ _ h1 h2 => exact h1.trans h2
theorem total_perm {α : Type} {L M : List α} (h : L.Perm M) (f : α → Int) : total (L.map f) = total (M.map f) := by
  induction h with
  | nil => rfl
  | cons a _ ih => rw [List.map_cons, List.map_cons, total_cons, total_cons, ih]
  | swap a b l =>
    rw [List.map_cons, List.map_cons, List.map_cons, List.map_cons, total_cons, total_cons, total_cons, total_cons]
    omega
  | trans _ _ h1 h2 => exact h1.trans h2
theorem mixH_perm (n i : Nat) (q : List Int) {L M : List (List Int × List Int)} (h : L.Perm M) : mixH n i q (L.map (·.1)) (L.map (·.2)) = mixH n i q (M.map (·.1)) (M.map (·.2)) := by
  unfold mixH weightsL
  have hh : highL ((L.map (·.1)).map (scoreH n i q)) = highL ((M.map (·.1)).map (scoreH n i q)) := high_same fun z => by
    rw [List.map_map, List.map_map]
    exact (h.map _).mem_iff
  rw [hh]
  generalize highL ((M.map (·.1)).map (scoreH n i q)) = t
  simp only [List.map_map]
  unfold mixL
  refine List.map_congr_left fun k _ => ?_
  rw [numer_perm h, total_perm h]
theorem lookL_perm (H n : Nat) (q : List Int) {L M : List (List Int × List Int)} (h : L.Perm M) : lookL H n q (L.map (·.1)) (L.map (·.2)) = lookL H n q (M.map (·.1)) (M.map (·.2)) := by
  unfold lookL
  congr 1
  funext i
  exact mixH_perm n i q h
theorem seen_perm (x : Cfg) (s : ByteArray) (k : Nat) {past other : List Ent} (h : past.Perm other) (z : List Int) : seenL x s k (kAt past k) (vAt past k) z = seenL x s k (kAt other k) (vAt other k) z := by
  have e : ∀ p : List Ent, kAt p k ++ [keyL x s k z] = (p.map (fun e => (e.ks.getD k [], e.vs.getD k [])) ++ [(keyL x s k z, valL x s k z)]).map (·.1) ∧ vAt p k ++ [valL x s k z] = (p.map (fun e => (e.ks.getD k [], e.vs.getD k [])) ++ [(keyL x s k z, valL x s k z)]).map (·.2) := fun p => by
    unfold kAt vAt
    constructor <;> rw [List.map_append, List.map_map] <;> rfl
  unfold seenL
  rw [(e past).1, (e past).2, (e other).1, (e other).2]
  exact lookL_perm _ _ _ ((h.map _).append_right _)
theorem through_perm (x : Cfg) (s : ByteArray) {past other : List Ent} (h : past.Perm other) (z : List Int) : ∀ k, through x s past z k = through x s other z k
  | 0 => rfl
  | k + 1 => by
    unfold through
    rw [through_perm x s h z k]
    unfold blockL midL
    rw [seen_perm x s k h]
theorem endT_perm (x : Cfg) (s : ByteArray) {past other : List Ent} (h : past.Perm other) (tok : Int) : endT x s past tok = endT x s other tok := by
  unfold endT
  rw [h.length_eq, through_perm x s h]
theorem errZ_perm (x : Cfg) {past other : List Ent} (h : past.Perm other) (tok : Int) : errZ x past tok = errZ x other tok := by
  have e : past.all (goodE x) = other.all (goodE x) := by
    rw [Bool.eq_iff_iff, List.all_eq_true, List.all_eq_true]
    exact ⟨fun hh e he => hh e (h.mem_iff.2 he), fun hh e he => hh e (h.mem_iff.1 he)⟩
  unfold errZ
  rw [e, h.length_eq]
theorem turned_perm (past : List Ent) (k : Nat) : past.Perm (past.drop k ++ past.take k) := by
  conv => lhs; rw [← List.take_append_drop k past]
  exact List.perm_append_comm
end Sp
end Go.Proofs.Ytlapinecmiacoaa
namespace Go.Proofs.Ytlapinecmiacoaa
open Go.ChangeShapes Go.WideShapes Go.ChangeAt Go.RowKit Nm Cf Vc Br
namespace Sp

/-! Where something lies: of nothing nothing is asked -/
def Ft (p : Nat → Prop) (A : Option Addr) (n : Nat) : Prop := 0 < n → ∀ a, A = some a → p a.block
theorem Ft.mono {p q : Nat → Prop} {A : Option Addr} {n : Nat} (h : Ft p A n) (hq : ∀ j, p j → q j) : Ft q A n := fun h0 a ha => hq _ (h h0 a ha)
theorem Ft.both {p q : Nat → Prop} {A : Option Addr} {n : Nat} (h : Ft p A n) (k : Ft q A n) : Ft (fun j => p j ∧ q j) A n := fun h0 a ha => ⟨h h0 a ha, k h0 a ha⟩
theorem KIn.moved {p : Nat → Prop} {kd : IntKind} {w w' : World} {A : Option Addr} {zs : List Int} (h : KIn kd w A zs) (hf : Ft p A zs.length) (hb : ∀ j, p j → w'.heap[j]? = w.heap[j]?) : KIn kd w' A zs := fun h0 => by
  obtain ⟨pb, po, rfl, hc⟩ := h h0
  exact ⟨pb, po, rfl, fun i hi => (World.cell?_of_block (w := w) (a := ⟨pb, po + i, none⟩) (hb pb (hf h0 _ rfl))).trans (hc i hi)⟩
theorem KIn.low' {kd : IntKind} {w : World} {A : Option Addr} {zs : List Int} (h : KIn kd w A zs) : Ft (· < w.heap.size) A zs.length := fun h0 a ha => KIn.low h h0 a ha
theorem LIn.moved {p : Nat → Prop} {w w' : World} {A : Option Addr} {B : Nat → Option Addr} {C : Nat → Nat} {L : List (List Int)} (h : LIn w A B C L) (hf : Ft p A L.length) (hg : ∀ i, i < L.length → Ft p (B i) (L.getD i []).length) (hb : ∀ j, p j → w'.heap[j]? = w.heap[j]?) : LIn w' A B C L := fun h0 => by
  obtain ⟨pb, po, rfl, hc⟩ := h h0
  exact ⟨pb, po, rfl, fun i hi => ⟨(World.cell?_of_block (w := w) (a := ⟨pb, po + i, none⟩) (hb pb (hf h0 _ rfl))).trans (hc i hi).1, KIn.moved (hc i hi).2 (hg i hi) hb⟩⟩
/-- Rows of numbers, in blocks of which p holds; none is cut short. -/
structure LOn (p : Nat → Prop) (w : World) (A : Option Addr) (B : Nat → Option Addr) (C : Nat → Nat) (L : List (List Int)) : Prop where
  is : LIn w A B C L
  here : Ft p A L.length
  there : ∀ i, i < L.length → Ft p (B i) (L.getD i []).length
  cap : ∀ i, i < L.length → (L.getD i []).length ≤ C i
theorem LOn.mono {p q : Nat → Prop} {w : World} {A : Option Addr} {B : Nat → Option Addr} {C : Nat → Nat} {L : List (List Int)} (h : LOn p w A B C L) (hq : ∀ j, p j → q j) : LOn q w A B C L := ⟨h.is, h.here.mono hq, fun i hi => (h.there i hi).mono hq, h.cap⟩
theorem LOn.moved {p : Nat → Prop} {w w' : World} {A : Option Addr} {B : Nat → Option Addr} {C : Nat → Nat} {L : List (List Int)} (h : LOn p w A B C L) (hb : ∀ j, p j → w'.heap[j]? = w.heap[j]?) : LOn p w' A B C L := ⟨LIn.moved h.is h.here h.there hb, h.here, h.there, h.cap⟩
theorem LOn.new {w : World} {A : Option Addr} {B : Nat → Option Addr} {C : Nat → Nat} {L : List (List Int)} (h : LIn w A B C L) (hc : ∀ i, i < L.length → (L.getD i []).length ≤ C i) : LOn (· < w.heap.size) w A B C L := ⟨h, fun h0 a ha => by
  obtain ⟨pb, po, rfl, hx⟩ := h h0
  injection ha with ha
  rw [← ha]
  exact block_lt_of_cell (hx 0 h0).1, fun i hi h0 a ha => by
  obtain ⟨pb, po, _, _, hk⟩ := h.at hi
  exact KIn.low hk h0 a ha, hc⟩
theorem LOn.nil (p : Nat → Prop) (w : World) (A : Option Addr) (B : Nat → Option Addr) (C : Nat → Nat) : LOn p w A B C [] := ⟨fun h => absurd h (by simp), fun h => absurd h (by simp), fun i hi => absurd hi (by simp), fun i hi => absurd hi (by simp)⟩
theorem LOn.also {p q : Nat → Prop} {w : World} {A : Option Addr} {B : Nat → Option Addr} {C : Nat → Nat} {L : List (List Int)} (h : LOn p w A B C L) (k : LOn q w A B C L) : LOn (fun j => p j ∧ q j) w A B C L := ⟨h.is, h.here.both k.here, fun i hi => (h.there i hi).both (k.there i hi), h.cap⟩

/-! An entry -/
/-- Where an entry's rows lie. -/
structure Er where
  kA : Option Addr
  kc : Nat
  kB : Nat → Option Addr
  kC : Nat → Nat
  vA : Option Addr
  vc : Nat
  vB : Nat → Option Addr
  vC : Nat → Nat
structure EOn (p : Nat → Prop) (w : World) (r : Er) (e : Ent) : Prop where
  k : LOn p w r.kA r.kB r.kC e.ks
  v : LOn p w r.vA r.vB r.vC e.vs
theorem EOn.mono {p q : Nat → Prop} {w : World} {r : Er} {e : Ent} (h : EOn p w r e) (hq : ∀ j, p j → q j) : EOn q w r e := ⟨h.k.mono hq, h.v.mono hq⟩
theorem EOn.moved {p : Nat → Prop} {w w' : World} {r : Er} {e : Ent} (h : EOn p w r e) (hb : ∀ j, p j → w'.heap[j]? = w.heap[j]?) : EOn p w' r e := ⟨h.k.moved hb, h.v.moved hb⟩
theorem EOn.also {p q : Nat → Prop} {w : World} {r : Er} {e : Ent} (h : EOn p w r e) (k : EOn q w r e) : EOn (fun j => p j ∧ q j) w r e := ⟨h.k.also k.k, h.v.also k.v⟩
theorem EOn.new {p : Nat → Prop} {w : World} {r : Er} {e : Ent} (h : EOn p w r e) : EOn (· < w.heap.size) w r e := ⟨LOn.new h.k.is h.k.cap, LOn.new h.v.is h.v.cap⟩
theorem EOn.below {p : Nat → Prop} {w w' : World} {r : Er} {e : Ent} (h : EOn p w r e) (hb : Below w.heap.size w w') : EOn p w' r e :=
  (((h.also h.new).moved fun j hj => hb.block j hj.2)).mono fun _ hj => hj.1
/-- An entry's two cells, and its value. -/
def eC (r : Er) (e : Ent) : List Value := [.slice r.kA e.ks.length r.kc, .slice r.vA e.vs.length r.vc]
def eV (r : Er) (e : Ent) : Value := .agg #[.slice r.kA e.ks.length r.kc, .slice r.vA e.vs.length r.vc]
def eCs (Q : List (Er × Ent)) : List Value := Q.flatMap fun q => eC q.1 q.2
theorem eCs_length (Q : List (Er × Ent)) : (eCs Q).length = Q.length * 2 := by
  induction Q with
  | nil => rfl
  | cons q Q ih =>
    show (eC q.1 q.2 ++ eCs Q).length = (Q.length + 1) * 2
    rw [List.length_append, ih]
    show 2 + Q.length * 2 = _
    omega
theorem eCs_append (Q R : List (Er × Ent)) : eCs (Q ++ R) = eCs Q ++ eCs R := by simp [eCs]
theorem eCs_at (Q : List (Er × Ent)) (i : Nat) (q : Er × Ent) (h : Q[i]? = some q) : (eCs Q)[i * 2]? = some (.slice q.1.kA q.2.ks.length q.1.kc) ∧ (eCs Q)[i * 2 + 1]? = some (.slice q.1.vA q.2.vs.length q.1.vc) := by
  induction Q generalizing i with
  | nil => simp at h
  | cons a Q ih =>
    match i with
    | 0 =>
      simp at h
      subst h
      exact ⟨rfl, rfl⟩
    | i + 1 =>
      have := ih i (by simpa using h)
      rw [show (i + 1) * 2 = i * 2 + 2 by omega, show i * 2 + 2 + 1 = i * 2 + 1 + 2 by omega]
      exact this
theorem eCs_one (Q : List (Er × Ent)) : ∀ u ∈ eCs Q, u.oneCell' = true := by
  intro u hu
  obtain ⟨q, _, hq⟩ := List.mem_flatMap.1 hu
  unfold eC at hq
  simp at hq
  rcases hq with rfl | rfl <;> rfl
/-- Entries behind a slice. -/
def EsAt (w : World) (A : Option Addr) (Q : List (Er × Ent)) : Prop := 0 < Q.length → ∃ pb po, A = some ⟨pb, po, none⟩ ∧ ∀ j u, (eCs Q)[j]? = some u → w.cell? ⟨pb, po + j, none⟩ = some u
structure EsIn (w : World) (A : Option Addr) (Q : List (Er × Ent)) : Prop where
  row : EsAt w A Q
  all : ∀ q ∈ Q, EOn (fun _ => True) w q.1 q.2
theorem EsAt.below {w w' : World} {A : Option Addr} {Q : List (Er × Ent)} (h : EsAt w A Q) (hb : Below w.heap.size w w') : EsAt w' A Q := fun h0 => by
  obtain ⟨pb, po, e, hc⟩ := h h0
  exact ⟨pb, po, e, fun j u hj => (hb.cell (p := ⟨pb, po + j, none⟩) (block_lt_of_cell (hc j u hj))).trans (hc j u hj)⟩
theorem EsIn.below {w w' : World} {A : Option Addr} {Q : List (Er × Ent)} (h : EsIn w A Q) (hb : Below w.heap.size w w') : EsIn w' A Q := ⟨h.row.below hb, fun q hq => (h.all q hq).below hb⟩
theorem EsAt.cell {w : World} {A : Option Addr} {Q : List (Er × Ent)} (h : EsAt w A Q) {i : Nat} {q : Er × Ent} (hi : Q[i]? = some q) : ∃ pb po, A = some ⟨pb, po, none⟩ ∧ w.cell? ⟨pb, po + i * 2, none⟩ = some (.slice q.1.kA q.2.ks.length q.1.kc) ∧ w.cell? ⟨pb, po + i * 2 + 1, none⟩ = some (.slice q.1.vA q.2.vs.length q.1.vc) := by
  have h0 : 0 < Q.length := by have := (List.getElem?_eq_some_iff.1 hi).1; omega
  obtain ⟨pb, po, e, hc⟩ := h h0
  obtain ⟨h1, h2⟩ := eCs_at Q i q hi
  exact ⟨pb, po, e, hc _ _ h1, hc _ _ h2⟩
end Sp
end Go.Proofs.Ytlapinecmiacoaa
namespace Go.Proofs.Ytlapinecmiacoaa
open Go.ChangeShapes Go.WideShapes Go.ChangeAt Go.RowKit Vc

namespace Vc
theorem vcLess (a b : Nat) (h : a < b) : b - ((a : Int) + 1).toNat < b - (a : Int).toNat := by omega
theorem rows_same {zs us : List Int} (hl : zs.length = us.length) (h : ∀ i, i < zs.length → zs.getD i 0 = us.getD i 0) : zs = us := by
  apply List.ext_getElem hl
  intro i h1 h2
  have := h i h1
  rwa [List.getD_eq_getElem?_getD, List.getElem?_eq_getElem h1, List.getD_eq_getElem?_getD, List.getElem?_eq_getElem h2] at this
end Vc
section
variable (w : World) (A : Option Addr) (n c : Nat) (B : Option Addr) (m c' : Nat) (zs us : List Int)
end
end Go.Proofs.Ytlapinecmiacoaa
namespace Go.Proofs.Ytlapinecmiacoaa
open Go.ChangeShapes Go.WideShapes Go.ChangeAt Go.RowKit Nm Cf Vc Br Sp

section
variable (w : World) (A : Option Addr) (n c : Nat) (B : Option Addr) (m c' : Nat) (zs us : List Int)
set_option maxRecDepth 100000 in
set_option maxHeartbeats 800000 in
theorem equal_any (hz : zs.length = n) (hu : us.length = m) (hm : n ≤ 4611686018427387904) (hA : KIn .i64 w A zs) (hB : KIn .i64 w B us) :
    Calls Try.prog 37 #[.slice A n c, .slice B m c'] w fun e w' => e = .returned (.bool (decide (zs = us))) ∧ ∃ k, w' = w.drewN k := by
  have HA := Lib.hid hA
  have HB := Lib.hid hB
  have HZ := Lib.hid hz
  have HU := Lib.hid hu
  clear hA hB hz hu
  by_cases hnm : n = m
  · subst hnm
    have HL := Lib.hid (show zs.length = us.length from HZ.out.trans HU.out.symm)
    have t1 : ((n : Int) == (n : Int)) = true := beq_self_eq_true _
    go_enter Try.func37, Try.ntmps37
    go_wp2_with (fail)
    go_loopw [13] (fun i wr => ∃ j d : Nat, i = .int .i64 (j : Int) ∧ j ≤ n ∧ (∀ k, k < j → zs.getD k 0 = us.getD k 0) ∧ wr = w.drewN d) (fun i _ => match i with | .int _ k => n - k.toNat | _ => 0)
    case atStart => exact ⟨0, 0, rfl, Nat.zero_le _, fun k hk => absurd hk (Nat.not_lt_zero k), rfl⟩
    case round =>
      obtain ⟨j, d, rfl, hj, he, rfl⟩ := hrel
      have HE := Lib.hid he
      clear he
      have x2 : 0 ≤ (j : Int) := by omega
      by_cases hlt : j < n
      · have x0 : (j : Int) < (n : Int) := by omega
        have x1 : decide ((j : Int) < (n : Int)) = true := decide_eq_true x0
        have HJ := Lib.hid (show j + 1 ≤ n by omega)
        obtain ⟨pa, oa, rfl, hc1⟩ := HA.out.at (show j < zs.length by rw [HZ.out]; exact hlt)
        obtain ⟨pb, ob, rfl, hc2⟩ := HB.out.at (show j < us.length by rw [HU.out]; exact hlt)
        by_cases hzu : zs.getD j 0 = us.getD j 0
        · have HE2 := Lib.hid (show ∀ k, k < j + 1 → zs.getD k 0 = us.getD k 0 from fun k hk => by
            by_cases hkj : k = j
            · rw [hkj]; exact hzu
            · exact HE.out k (by omega))
          rw [← hzu] at hc2
          clear hzu
          generalize zs.getD j 0 = z at hc1 hc2
          have t2 : (z == z) = true := beq_self_eq_true _
          have x3 := IntWalk.wrap64_in ((j : Int) + 1) (by omega)
          go_wp2_with (fail)
          go_quiet (fail)
          go_wp2_with (fail)
          exact ⟨⟨j + 1, _, rfl, HJ.out, HE2.out, rfl⟩, vcLess j n hlt⟩
        · have HN := Lib.hid (show decide (zs = us) = false from decide_eq_false fun e => hzu (by rw [e]))
          generalize zs.getD j 0 = z at hc1 hzu
          generalize us.getD j 0 = u at hc2 hzu
          have t2 : (z == u) = false := beq_eq_false_iff_ne.2 hzu
          clear hzu
          go_wp2_with (fail)
          go_quiet (fail)
          go_wp2_with (fail)
          refine bodyPost_ret (results_tmp rfl _ _ _) rfl ?_
          rw [HN.out]
          exact ⟨rfl, _, World.drewN_drewN ..⟩
      · have hke : j = n := by omega
        have x0 : ¬ (j : Int) < (n : Int) := by omega
        have x1 : decide ((j : Int) < (n : Int)) = false := decide_eq_false x0
        have HN := Lib.hid (show decide (zs = us) = true from decide_eq_true (rows_same HL.out fun i hi => HE.out i (by have := HZ.out; omega)))
        go_wp2_with (fail)
        refine bodyPost_ret (results_tmp rfl _ _ _) rfl ?_
        rw [HN.out]
        exact ⟨rfl, d, rfl⟩
  · have HN := Lib.hid (show decide (zs = us) = false from decide_eq_false fun e => hnm (by rw [← HZ.out, ← HU.out, e]))
    have t1 : ((n : Int) == (m : Int)) = false := beq_eq_false_iff_ne.2 (by omega)
    clear hnm
    go_enter Try.func37, Try.ntmps37
    go_wp2_with (fail)
    refine bodyPost_ret (results_tmp rfl _ _ _) rfl ?_
    rw [HN.out]
    exact ⟨rfl, 0, rfl⟩
end
theorem eg_equal : ∀ args w, (callFunc 37 args).run Try.prog w = .ok (.enter 37 args) w := Go.Proofs.enters_of Try.func37 (by kernel_rfl) rfl
namespace Sp
theorem lists_same {L M : List (List Int)} (hl : L.length = M.length) (h : ∀ i, i < L.length → L.getD i [] = M.getD i []) : L = M := by
  apply List.ext_getElem hl
  intro i h1 h2
  have := h i h1
  rwa [List.getD_eq_getElem?_getD, List.getElem?_eq_getElem h1, List.getD_eq_getElem?_getD, List.getElem?_eq_getElem h2] at this
end Sp
set_option maxRecDepth 100000 in
set_option maxHeartbeats 1600000 in
theorem eqfunc_any (w : World) (A : Option Addr) (n c : Nat) (B : Nat → Option Addr) (C : Nat → Nat) (L : List (List Int)) (A' : Option Addr) (m c' : Nat) (B' : Nat → Option Addr) (C' : Nat → Nat) (M : List (List Int))
    (hL : L.length = n) (hM : M.length = m) (hm : n ≤ 1000000) (hlen : ∀ i, i < n → (L.getD i []).length ≤ 4611686018427387904) (hA : LIn w A B C L) (hB : LIn w A' B' C' M) :
    Calls Try.prog 36 #[.slice A n c, .slice A' m c', .func (.func 37) #[] #[]] w fun e w' => e = .returned (.bool (decide (L = M))) ∧ Below w.heap.size w w' := by
  have HA := Lib.hid hA
  have HB := Lib.hid hB
  have HZ := Lib.hid hL
  have HU := Lib.hid hM
  have HLEN := Lib.hid hlen
  have eg := eg_equal
  clear hA hB hL hM hlen
  by_cases hnm : n = m
  · subst hnm
    have HL := Lib.hid (show L.length = M.length from HZ.out.trans HU.out.symm)
    have t1 : ((n : Int) == (n : Int)) = true := beq_self_eq_true _
    have t1' : ((n : Int) != (n : Int)) = false := by simp
    go_enter Try.func36, Try.ntmps36
    go_wp2_with (fail)
    go_loopw [17] (fun i wr => ∃ j d : Nat, i = .int .i64 (j : Int) ∧ j ≤ n ∧ (∀ k, k < j → L.getD k [] = M.getD k []) ∧ wr = w.drewN d) (fun i _ => match i with | .int _ k => n - k.toNat | _ => 0)
    case atStart => exact ⟨0, 0, rfl, Nat.zero_le _, fun k hk => absurd hk (Nat.not_lt_zero k), rfl⟩
    case round =>
      obtain ⟨j, d, rfl, hj, he, rfl⟩ := hrel
      have HE := Lib.hid he
      clear he
      have x2 : 0 ≤ (j : Int) := by omega
      by_cases hlt : j < n
      · have x0 : (j : Int) < (n : Int) := by omega
        have x1 : decide ((j : Int) < (n : Int)) = true := decide_eq_true x0
        have HJ := Lib.hid hlt
        obtain ⟨pa, oa, rfl, hc1, hk1⟩ := HA.out.at (show j < L.length by rw [HZ.out]; exact hlt)
        obtain ⟨pb, ob, rfl, hc2, hk2⟩ := HB.out.at (show j < M.length by rw [HU.out]; exact hlt)
        have HC := Lib.hid (equal_any (w.drewN d) (B j) _ (C j) (B' j) _ (C' j) (L.getD j []) (M.getD j []) rfl rfl (HLEN.out j hlt) hk1 hk2)
        clear hk1 hk2
        have x3 := IntWalk.wrap64_in ((j : Int) + 1) (by omega)
        by_cases hzu : L.getD j [] = M.getD j []
        · have HE2 := Lib.hid (show ∀ k, k < j + 1 → L.getD k [] = M.getD k [] from fun k hk => by
            by_cases hkj : k = j
            · rw [hkj]; exact hzu
            · exact HE.out k (by omega))
          rw [decide_eq_true hzu] at HC
          clear hzu
          generalize (L.getD j []).length = l1 at hc1 HC
          generalize (M.getD j []).length = l2 at hc2 HC
          generalize B j = b1 at hc1 HC
          generalize C j = q1 at hc1 HC
          generalize B' j = b2 at hc2 HC
          generalize C' j = q2 at hc2 HC
          go_wp2_with (go_at_fn 37; refine HC.out.mono ?_; rintro e w2 ⟨rfl, k2, rfl⟩)
          exact ⟨⟨j + 1, d + k2, rfl, HJ.out, HE2.out, rfl⟩, vcLess j n HJ.out⟩
        · have HN := Lib.hid (show decide (L = M) = false from decide_eq_false fun e => hzu (by rw [e]))
          rw [decide_eq_false hzu] at HC
          clear hzu
          generalize (L.getD j []).length = l1 at hc1 HC
          generalize (M.getD j []).length = l2 at hc2 HC
          generalize B j = b1 at hc1 HC
          generalize C j = q1 at hc1 HC
          generalize B' j = b2 at hc2 HC
          generalize C' j = q2 at hc2 HC
          go_wp2_with (go_at_fn 37; refine HC.out.mono ?_; rintro e w2 ⟨rfl, k2, rfl⟩)
          refine bodyPost_ret (results_tmp rfl _ _ _) rfl ?_
          rw [HN.out]
          exact ⟨rfl, below_drewN (Below.refl _ _) _⟩
      · have hke : j = n := by omega
        have x0 : ¬ (j : Int) < (n : Int) := by omega
        have x1 : decide ((j : Int) < (n : Int)) = false := decide_eq_false x0
        have HN := Lib.hid (show decide (L = M) = true from decide_eq_true (lists_same HL.out fun i hi => HE.out i (by have := HZ.out; omega)))
        go_wp2_with (fail)
        refine bodyPost_ret (results_tmp rfl _ _ _) rfl ?_
        rw [HN.out]
        exact ⟨rfl, below_drewN (Below.refl _ _) _⟩
  · have HN := Lib.hid (show decide (L = M) = false from decide_eq_false fun e => hnm (by rw [← HZ.out, ← HU.out, e]))
    have t1 : ((n : Int) == (m : Int)) = false := beq_eq_false_iff_ne.2 (by omega)
    clear hnm
    go_enter Try.func36, Try.ntmps36
    go_wp2_with (fail)
    refine bodyPost_ret (results_tmp rfl _ _ _) rfl ?_
    rw [HN.out]
    exact ⟨rfl, Below.refl _ _⟩
namespace Sp
def sameE (e f : Ent) : Bool := decide (e.ks = f.ks) && decide (e.vs = f.vs)
theorem sameE_self (e : Ent) : sameE e e = true := by unfold sameE; simp
/-- Rows that can be told. -/
structure EntFit (e : Ent) : Prop where
  k : e.ks.length ≤ 1000000
  v : e.vs.length ≤ 1000000
  ks : ∀ i, i < e.ks.length → (e.ks.getD i []).length ≤ 4611686018427387904
  vs : ∀ i, i < e.vs.length → (e.vs.getD i []).length ≤ 4611686018427387904
end Sp
set_option maxRecDepth 100000 in
set_option maxHeartbeats 1600000 in
theorem step_same (w : World) (r : Er) (e : Ent) (r' : Er) (e' : Ent) (he : EOn (fun _ => True) w r e) (he' : EOn (fun _ => True) w r' e') (ht : EntFit e) :
    Calls Try.prog 27 #[eV r e, eV r' e'] w fun z w' => z = .returned (.bool (sameE e e')) ∧ Below w.heap.size w w' := by
  have HK := Lib.hid (fun W (hW : Below w.heap.size w W) => eqfunc_any W r.kA e.ks.length r.kc r.kB r.kC e.ks r'.kA e'.ks.length r'.kc r'.kB r'.kC e'.ks rfl rfl ht.k ht.ks (he.k.is.below hW (Nat.le_refl _)) (he'.k.is.below hW (Nat.le_refl _)))
  have HV := Lib.hid (fun W (hW : Below w.heap.size w W) => eqfunc_any W r.vA e.vs.length r.vc r.vB r.vC e.vs r'.vA e'.vs.length r'.vc r'.vB r'.vC e'.vs rfl rfl ht.v ht.vs (he.v.is.below hW (Nat.le_refl _)) (he'.v.is.below hW (Nat.le_refl _)))
  unfold sameE eV
  generalize decide (e.ks = e'.ks) = k1 at HK ⊢
  generalize decide (e.vs = e'.vs) = k2 at HV ⊢
  generalize e.ks.length = n1 at *
  generalize e.vs.length = n2 at *
  generalize e'.ks.length = n3 at *
  generalize e'.vs.length = n4 at *
  generalize r.kA = A1 at *
  generalize r.kc = q1 at *
  generalize r.vA = A2 at *
  generalize r.vc = q2 at *
  generalize r'.kA = A3 at *
  generalize r'.kc = q3 at *
  generalize r'.vA = A4 at *
  generalize r'.vc = q4 at *
  have hb1 := (Below.refl w.heap.size w).alloc (Nat.le_refl _) (.cells #[.slice A1 n1 q1, .slice A2 n2 q2] 36 (0, 0))
  have hn1 := heap_alloc_new w (.cells #[.slice A1 n1 q1, .slice A2 n2 q2] 36 (0, 0))
  have hb2 := hb1.alloc hb1.size (.cells #[.slice A3 n3 q3, .slice A4 n4 q4] 36 (0, 0))
  have hn1' := (heap_alloc_old _ (.cells #[.slice A3 n3 q3, .slice A4 n4 q4] 36 (0, 0)) (Array.getElem?_eq_some_iff.1 hn1).1).trans hn1
  have hn2 := heap_alloc_new (w.alloc (.cells #[.slice A1 n1 q1, .slice A2 n2 q2] 36 (0, 0))) (.cells #[.slice A3 n3 q3, .slice A4 n4 q4] 36 (0, 0))
  rw [World.size_alloc] at hn2
  have HB2 := Lib.hid hb2
  have HN1 := Lib.hid hn1'
  have HN2 := Lib.hid hn2
  have hcells := fun (W : World) (h1 : W.heap[w.heap.size]? = some (.cells #[.slice A1 n1 q1, .slice A2 n2 q2] 36 (0, 0))) (h2 : W.heap[w.heap.size + 1]? = some (.cells #[.slice A3 n3 q3, .slice A4 n4 q4] 36 (0, 0))) =>
    show W.cell? ⟨w.heap.size, 0, none⟩ = some (.slice A1 n1 q1) ∧ W.cell? ⟨w.heap.size, 1, none⟩ = some (.slice A2 n2 q2) ∧ W.cell? ⟨w.heap.size + 1, 0, none⟩ = some (.slice A3 n3 q3) ∧ W.cell? ⟨w.heap.size + 1, 1, none⟩ = some (.slice A4 n4 q4) from
    ⟨by rw [cell_of_row _ _ _ _ _ _ h1]; rfl, by rw [cell_of_row _ _ _ _ _ _ h1]; rfl, by rw [cell_of_row _ _ _ _ _ _ h2]; rfl, by rw [cell_of_row _ _ _ _ _ _ h2]; rfl⟩
  have HCL := Lib.hid hcells
  obtain ⟨c0, c1, c2, c3⟩ := hcells _ hn1' hn2
  clear he he' ht hb1 hn1 hb2 hn1' hn2 hcells
  go_enter Try.func27, Try.ntmps27
  go_wp2_with (fail)
  refine (HK.out _ HB2.out).mono ?_
  rintro z w1 ⟨rfl, b1⟩
  have HB3 := Lib.hid (HB2.out.trans (b1.mono HB2.out.size))
  clear c0 c1 c2 c3
  obtain ⟨c0, c1, c2, c3⟩ := HCL.out w1 ((b1.block _ (Array.getElem?_eq_some_iff.1 HN1.out).1).trans HN1.out) ((b1.block _ (Array.getElem?_eq_some_iff.1 HN2.out).1).trans HN2.out)
  clear b1
  cases k1 with
  | false =>
    go_wp2_with (fail)
    exact bodyPost_ret (results_tmp rfl _ _ _) rfl ⟨rfl, HB3.out⟩
  | true =>
    go_wp2_with (fail)
    refine (HV.out _ HB3.out).mono ?_
    rintro z w2 ⟨rfl, b2⟩
    have HB4 := Lib.hid (HB3.out.trans (b2.mono HB3.out.size))
    clear b2
    go_wp2_with (fail)
    exact bodyPost_ret (results_tmp rfl _ _ _) rfl ⟨rfl, HB4.out⟩
end Go.Proofs.Ytlapinecmiacoaa
namespace Go.Proofs.Ytlapinecmiacoaa
open Go.ChangeShapes Go.WideShapes Go.ChangeAt Go.RowKit Nm Cf Vc Br

namespace Sp
section
variable {W W' : World} {N : Nat} {v : Value}
theorem own_moved {e : TypeId} {size n : Nat} {xs : List Value} (h : W.ownsRow N e size v n xs) (hb : ∀ k, v.ownBlock = some k → W'.heap[k]? = W.heap[k]?) : W'.ownsRow N e size v n xs := by
  refine ⟨h.1, ?_⟩
  rcases h.2 with h2 | ⟨g, cap, cur, rfl, h3, h4, h5⟩
  · exact .inl h2
  · exact .inr ⟨g, cap, cur, rfl, h3, (hb g rfl).trans h4, h5⟩
end
def updF {α : Type} (f : Nat → α) (k : Nat) (a : α) (i : Nat) : α := if i = k then a else f i
theorem updF_same {α : Type} (f : Nat → α) (k : Nat) (a : α) : updF f k a k = a := if_pos rfl
theorem updF_other {α : Type} (f : Nat → α) (k : Nat) (a : α) {i : Nat} (h : i ≠ k) : updF f k a i = f i := if_neg h
/-- The cells of a row of slices. -/
def slC (B : Nat → Option Addr) (C : Nat → Nat) (L : List (List Int)) (i : Nat) : Value := .slice (B i) (L.getD i []).length (C i)
theorem slC_ints (B : Nat → Option Addr) (C : Nat → Nat) (L : List (List Int)) : ∀ i kd z, slC B C L i ≠ .int kd z := fun i kd z e => by cases e
def enO (a b : Value) : Obj := .cells #[a, b] 36 (0, 0)
theorem enI (a b : Value) : (Try.prog.info? 36).map (·.size) = some (#[a, b] : Array Value).size := by
  show _ = some 2
  kernel_rfl
section
variable {W : World} {b : Nat} {a0 b0 : Value} (h : W.heap[b]? = some (enO a0 b0)) (p q : Value)
include h
theorem en0 : W.cell? ⟨b, 0, none⟩ = some a0 := by rw [cell_of_row _ _ _ _ _ _ h]; rfl
theorem en1 : W.cell? ⟨b, 1, none⟩ = some b0 := by rw [cell_of_row _ _ _ _ _ _ h]; rfl
theorem enFz (i : Nat) : W.frozen? ⟨b, i, none⟩ = false := frozen_of_row W b i _ _ h
theorem set2 : ((W.setCell ⟨b, 0, none⟩ p).setCell ⟨b, 1, none⟩ q).heap[b]? = some (enO p q) := heap_setCell_same _ b 1 _ _ _ (heap_setCell_same W b 0 _ _ _ h)
end
end Sp
open Sp
namespace Rf
theorem stays {w1 w2 : World} {b : Nat} {o : Obj} (h : w1.heap[b]? = some o) (hb : Below w1.heap.size w1 w2) : w2.heap[b]? = some o := (hb.block b (Array.getElem?_eq_some_iff.1 h).1).trans h
def lC (B : Nat → Option Addr) (C : Nat → Nat) (L : List (List Int)) : List Value := (List.range L.length).map (slC B C L)
section
variable {N n : Nat} {p : Nat → Prop} {W W' wz : World} {v : Value} {B : Nat → Option Addr} {C : Nat → Nat} {L : List (List Int)}
theorem lC_length : (lC B C L).length = L.length := by simp [lC]
theorem lC_at {i : Nat} (h : i < L.length) : (lC B C L)[i]? = some (.slice (B i) (L.getD i []).length (C i)) := by
  unfold lC
  rw [List.getElem?_map, List.getElem?_range h]
  rfl
theorem lC_add (hn : L.length = n) (A : Option Addr) (c : Nat) (l : List Int) : lC (updF B n A) (updF C n c) (L ++ [l]) = lC B C L ++ [.slice A l.length c] := by
  subst hn
  unfold lC
  rw [List.length_append, List.length_singleton, List.range_succ, List.map_append]
  congr 1
  · refine List.map_congr_left fun i hi => ?_
    have hi := List.mem_range.1 hi
    unfold slC
    rw [updF_other _ _ _ (Nat.ne_of_lt hi), updF_other _ _ _ (Nat.ne_of_lt hi), List.getD_eq_getElem?_getD, List.getElem?_append_left hi, List.getD_eq_getElem?_getD]
  · show [slC _ _ _ _] = _
    unfold slC
    rw [updF_same, updF_same, List.getD_eq_getElem?_getD, List.getElem?_append_right (Nat.le_refl _), Nat.sub_self]
    rfl
end
end Rf
end Go.Proofs.Ytlapinecmiacoaa
namespace Go.Proofs.Ytlapinecmiacoaa
open Go.ChangeShapes Go.WideShapes Go.ChangeAt Go.RowKit Nm Cf Vc Br Sp

namespace Sp
theorem any_range_true {n j : Nat} {p : Nat → Bool} (hj : j < n) (h : p j = true) : (List.range n).any p = true := List.any_eq_true.2 ⟨j, List.mem_range.2 hj, h⟩
theorem any_range_false {n : Nat} {p : Nat → Bool} (h : ∀ i, i < n → p i = false) : (List.range n).any p = false := by
  rw [Bool.eq_false_iff]
  intro hh
  obtain ⟨i, hi, hp⟩ := List.any_eq_true.1 hh
  rw [h i (List.mem_range.1 hi)] at hp
  cases hp
theorem noB {p : Nat → Bool} {j : Nat} (h : ∀ i, i < j → p i = false) (hj : p j = false) : ∀ i, i < j + 1 → p i = false := fun i hi => by
  by_cases e : i = j
  · rw [e]; exact hj
  · exact h i (by omega)
end Sp

namespace Sp
def noQ : Er × Ent := (⟨none, 0, fun _ => none, fun _ => 0, none, 0, fun _ => none, fun _ => 0⟩, ⟨[], []⟩)
theorem getD_some {Q : List (Er × Ent)} {j : Nat} (h : j < Q.length) : Q[j]? = some (Q.getD j noQ) := by
  rw [List.getD_eq_getElem?_getD, List.getElem?_eq_getElem h]
  rfl
end Sp
section
variable (w : World) (A : Option Addr) (n c : Nat) (g : Nat) (lb : Array Value) (p : Nat → Bool)

set_option maxRecDepth 100000 in
set_option maxHeartbeats 1600000 in
theorem idx_ints (zs : List Int) (hz : zs.length = n) (hn : n ≤ 1000000) (hA : KIn .i64 w A zs) (eg : ∀ args w, (callFunc g args).run Try.prog w = .ok (.enter g args) w)
    (hp : ∀ W, Below w.heap.size w W → ∀ j, j < n → Calls Try.prog g (#[.int .i64 (zs.getD j 0)] ++ lb) W fun e w' => e = .returned (.bool (p j)) ∧ Below W.heap.size W w') :
    Calls Try.prog 38 #[.slice A n c, .func (.func g) #[] lb] w fun e w' => ∃ k : Int, e = .returned (.int .i64 k) ∧ decide (0 ≤ k) = (List.range n).any p ∧ Below w.heap.size w w' := by
  have HA := Lib.hid hA
  have HP := Lib.hid hp
  have HZ := Lib.hid hz
  clear hA hp hz
  go_enter Try.func38, Try.ntmps38
  go_wp2_with (fail)
  go_loopw [8] (fun i wr => ∃ j : Nat, i = .int .i64 (j : Int) ∧ j ≤ n ∧ Below w.heap.size w wr ∧ ∀ i, i < j → p i = false) (fun i _ => match i with | .int _ k => n - k.toNat | _ => 0)
  case atStart => exact ⟨0, rfl, Nat.zero_le _, Below.refl _ _, fun i hi => absurd hi (Nat.not_lt_zero _)⟩
  case round =>
    obtain ⟨j, rfl, hj, hb, hno⟩ := hrel
    have HB := Lib.hid hb
    have HNO := Lib.hid hno
    clear hb hno
    have x2 : 0 ≤ (j : Int) := by omega
    by_cases hlt : j < n
    · have x0 : (j : Int) < (n : Int) := by omega
      have x1 : decide ((j : Int) < (n : Int)) = true := decide_eq_true x0
      have HJ := Lib.hid (show j + 1 ≤ n by omega)
      have HLT := Lib.hid hlt
      have HC := Lib.hid (HP.out wr HB.out j hlt)
      obtain ⟨pb, po, rfl, hcell⟩ := (HA.out.below HB.out (Nat.le_refl _)).at (show j < zs.length by rw [HZ.out]; exact hlt)
      generalize zs.getD j 0 = u at hcell HC
      have x3 := IntWalk.wrap64_in ((j : Int) + 1) (by omega)
      cases hq : p j with
      | true =>
        rw [hq] at HC
        have HQ := Lib.hid hq
        clear hq
        go_wp2_with (go_at_fn g; refine HC.out.mono ?_; rintro e w2 ⟨rfl, b2⟩; have HB2 := Lib.hid (HB.out.trans (b2.mono HB.out.size)); clear b2)
        refine bodyPost_ret (results_tmp rfl _ _ _) rfl ?_
        exact ⟨_, rfl, by rw [any_range_true HLT.out HQ.out]; exact decide_eq_true (by omega), HB2.out⟩
      | false =>
        rw [hq] at HC
        have HQ := Lib.hid hq
        clear hq
        go_wp2_with (go_at_fn g; refine HC.out.mono ?_; rintro e w2 ⟨rfl, b2⟩; have HB2 := Lib.hid (HB.out.trans (b2.mono HB.out.size)); clear b2)
        exact ⟨⟨j + 1, rfl, HJ.out, HB2.out, noB HNO.out HQ.out⟩, vc_less j n HLT.out⟩
    · have hke : j = n := by omega
      have x0 : ¬ (j : Int) < (n : Int) := by omega
      have x1 : decide ((j : Int) < (n : Int)) = false := decide_eq_false x0
      rw [hke] at HNO
      clear hke hlt
      go_wp2_with (fail)
      refine bodyPost_ret (results_tmp rfl _ _ _) rfl ?_
      exact ⟨_, rfl, by rw [any_range_false HNO.out]; rfl, HB.out⟩
set_option maxRecDepth 100000 in
theorem any_ints (zs : List Int) (hz : zs.length = n) (hn : n ≤ 1000000) (hA : KIn .i64 w A zs) (eg : ∀ args w, (callFunc g args).run Try.prog w = .ok (.enter g args) w)
    (hp : ∀ W, Below w.heap.size w W → ∀ j, j < n → Calls Try.prog g (#[.int .i64 (zs.getD j 0)] ++ lb) W fun e w' => e = .returned (.bool (p j)) ∧ Below W.heap.size W w') :
    Calls Try.prog 31 #[.slice A n c, .func (.func g) #[] lb] w fun e w' => e = .returned (.bool ((List.range n).any p)) ∧ Below w.heap.size w w' := by
  have HI := Lib.hid (idx_ints w A n c g lb p zs hz hn hA eg hp)
  clear hA hp hz eg
  go_enter Try.func31, Try.ntmps31
  go_wp2_with (fail)
  refine HI.out.mono ?_
  rintro e w2 ⟨k, rfl, hk, b2⟩
  have HB := Lib.hid b2
  have HK := Lib.hid hk
  clear hk b2
  go_wp2_with (fail)
  refine bodyPost_ret (results_tmp rfl _ _ _) rfl ?_
  exact ⟨by rw [← HK.out]; rfl, HB.out⟩
end
end Go.Proofs.Ytlapinecmiacoaa
namespace Go.Proofs.Ytlapinecmiacoaa
open Go Go.RowKit

section
variable {P : Program} {md : Region.Mode} {ops : Array Oper} {Q : Exit → Act → World → Prop} {S : World → Prop} {n : Nat}
/-- Whatever order is picked from here on; S holds behind every operation but the last. -/
def wpAnyU (P : Program) (md : Region.Mode) (ops : Array Oper) (Q : Exit → Act → World → Prop) (S : World → Prop) (n : Nat) : Nat → Array Bool → Act → World → Prop
  | 0, listed, a, w => Region.ready md ops listed = [] ∧ Q .normal a w
  | fuel + 1, listed, a, w =>
    (Region.ready md ops listed = [] → Q .normal a w) ∧
    ∀ i ∈ Region.ready md ops listed, wpOp P ops Q i (fun a' w' => (i < n → S w') ∧ wpAnyU P md ops Q S n fuel (listed.setIfInBounds i true) a' w') a w
theorem wpAny_of_U : ∀ (fuel : Nat) (listed : Array Bool) (a : Act) (w : World), wpAnyU P md ops Q S n fuel listed a w → wpAny P md ops Q fuel listed a w
  | 0, _, _, _, h => h
  | fuel + 1, _, _, _, h => ⟨h.1, fun i hi => wpOp_mono (fun a' w' h' => wpAny_of_U fuel _ a' w' h'.2) (h.2 i hi)⟩
theorem wpAnyU_first {i : Nat} {oi : Oper} {v : Value} (hi : ops[i]? = some oi) (hsel : ∀ (j : Nat) (o : Oper) cs b, ops[j]? = some o → o.op ≠ .select cs b)
    (hs : Region.sinkB md ops n = true) (hc : Region.chainB md ops n = true) (hn : n < ops.size) (hin : i < n)
    (hQ : ∀ c a w, Q (.panic c) (a.put oi.dst v) w → Q (.panic c) a w) :
    ∀ (fuel : Nat) (listed : Array Bool) (a : Act) (w : World), HeadInv md ops n listed →
      (∀ j oj, ops[j]? = some oj → j ≠ i → listed.getD j true = false → (∀ e ∈ oj.after, Region.binds md e = true → e.on ≠ i) → oi.apart ops oj = true) →
      i ∈ Region.ready md ops listed → YieldsIf P ops S oi v a → S w →
      wpAnyU P md ops Q S n fuel (listed.setIfInBounds i true) (a.put oi.dst v) w → wpAnyU P md ops Q S n (fuel + 1) listed a w := by
  intro fuel
  induction fuel with
  | zero =>
    intro listed a w inv _ hr hy hS H
    refine ⟨fun h => (by rw [h] at hr; cases hr), fun j hj => ?_⟩
    by_cases hji : j = i
    · subst hji; exact hy.wpOp hi hS ⟨fun _ => hS, H⟩
    · have := ready_mono hj hji
      rw [H.1] at this
      cases this
  | succ fuel ih =>
    intro listed a w inv hfree hr hy hS H
    have hun := (mem_ready.1 hr).1
    refine ⟨fun h => (by rw [h] at hr; cases hr), fun j hj => ?_⟩
    have hjn : j < n := by
      rcases Nat.lt_or_ge j n with h | h
      · exact h
      · exact absurd hj (tail_waits hs hc hn inv _ i rfl hin hun j h)
    by_cases hji : j = i
    · subst hji; exact hy.wpOp hi hS ⟨fun _ => hS, H⟩
    · have h1 := H.2 j (ready_mono hj hji)
      obtain ⟨hjun, oj, hoj, hall⟩ := mem_ready.1 hj
      have hnot : ∀ e ∈ oj.after, Region.binds md e = true → e.on ≠ i := fun e he hb heq => by
        have h1 := hall e he hb
        rw [heq, getD_both hun] at h1
        cases h1
      have h2 := wpOp_putIf hoj (hfree j oj hoj hji hjun hnot) (fun cs b => hsel i oi cs b hi) (fun cs b => hsel j oj cs b hoj) hQ hy h1
      have hfree' : ∀ k ok, ops[k]? = some ok → k ≠ i → (listed.setIfInBounds j true).getD k true = false →
          (∀ e ∈ ok.after, Region.binds md e = true → e.on ≠ i) → oi.apart ops ok = true := fun k ok hk hki hunk hno => by
        refine hfree k ok hk hki ?_ hno
        by_cases hjk : j = k
        · subst hjk; exact hjun
        · rw [getD_set_ne true hjk] at hunk; exact hunk
      refine wpOp_mono (fun a' w' h3 => ⟨h3.2.1, ih (listed.setIfInBounds j true) a' w' (inv.set hj hjn) hfree' (ready_mono hr (Ne.symm hji)) h3.1 (h3.2.1 hjn) ?_⟩) h2
      rw [Array.setIfInBounds_comm _ _ hji]
      exact h3.2.2
/-- The same, told of what is listed. -/
def wpAnyV (P : Program) (md : Region.Mode) (ops : Array Oper) (Q : Exit → Act → World → Prop) (S : World → Prop) (n : Nat) (fuel : Nat) (listed : Array Bool) (a : Act) (w : World) : Prop :=
  Region.noSelect ops = true ∧ Region.sinkB md ops n = true ∧ Region.chainB md ops n = true ∧ n < ops.size → HeadInv md ops n listed → wpAnyU P md ops Q S n fuel listed a w
theorem wpAnyV_take {i : Nat} {oi : Oper} {v : Value} {fuel : Nat} {listed : Array Bool} {a : Act} {w : World} (d : Tmp) (hi : ops[i]? = some oi) (hd : oi.dst = some d) (hin : i < n)
    (hf : Region.free md ops listed i = true) (hr : (Region.ready md ops listed).contains i = true)
    (hQ : ∀ c a w, Q (.panic c) (a.put (some d) v) w → Q (.panic c) a w) (hy : YieldsIf P ops S oi v a) (hS : S w)
    (h : wpAnyV P md ops Q S n fuel (listed.setIfInBounds i true) (a.put (some d) v) w) : wpAnyV P md ops Q S n (fuel + 1) listed a w := fun ⟨k1, k2, k3, k4⟩ inv => by
  have hr' : i ∈ Region.ready md ops listed := by simpa using hr
  refine wpAnyU_first hi (Region.noSelect_spec k1) k2 k3 k4 hin ?_ fuel listed a w inv (Region.free_spec hi hf) hr' hy hS ?_
  · rw [hd]; exact hQ
  · rw [hd]; exact h ⟨k1, k2, k3, k4⟩ (inv.set hr' hin)
def StepV (P : Program) (md : Region.Mode) (ops : Array Oper) (Q : Exit → Act → World → Prop) (S : World → Prop) (n : Nat) (fuel : Nat) (listed : Array Bool) (a : Act) (w : World) (i : Nat) (o : Oper) : Prop :=
  ∀ K' : Act → World → Prop, Shut (∀ a w, S w → (S w → wpAnyV P md ops Q S n fuel (listed.setIfInBounds i true) a w) → K' a w) → if Region.wanted o (yielded ops a.tmps) = true then Oper.wp P o a w K' Q else K' (a.put o.dst undef) w
theorem stepV {fuel : Nat} {listed : Array Bool} {a : Act} {w : World} {i : Nat} {o : Oper} (ho : ops[i]? = some o) (hin : i < n) (h : StepV P md ops Q S n fuel listed a w i o)
    (hk : Region.noSelect ops = true ∧ Region.sinkB md ops n = true ∧ Region.chainB md ops n = true ∧ n < ops.size) (inv : HeadInv md ops n listed) (hr : i ∈ Region.ready md ops listed) :
    wpOp P ops Q i (fun a' w' => (i < n → S w') ∧ wpAnyU P md ops Q S n fuel (listed.setIfInBounds i true) a' w') a w :=
  wpOp_step ho fun K' hK => h K' fun a w hS hW => hK a w ⟨fun _ => hS, hW hS hk (inv.set hr hin)⟩
theorem wpAnyV_one {fuel : Nat} {listed : Array Bool} {a : Act} {w : World} {i : Nat} {o : Oper} (hr : Region.ready md ops listed = [i]) (ho : ops[i]? = some o) (hin : i < n) (h : StepV P md ops Q S n fuel listed a w i o) : wpAnyV P md ops Q S n (fuel + 1) listed a w := fun hk inv =>
  ⟨fun h0 => (by rw [hr] at h0; cases h0), fun j hj => by
    have hj' := hj
    rw [hr] at hj
    rw [List.mem_singleton.1 hj] at hj' ⊢
    exact stepV ho hin h hk inv hj'⟩
theorem wpAnyV_two {fuel : Nat} {listed : Array Bool} {a : Act} {w : World} {i j : Nat} {o o' : Oper} (hr : Region.ready md ops listed = [i, j]) (ho : ops[i]? = some o) (ho' : ops[j]? = some o') (hin : i < n) (hjn : j < n)
    (h : StepV P md ops Q S n fuel listed a w i o) (h' : StepV P md ops Q S n fuel listed a w j o') : wpAnyV P md ops Q S n (fuel + 1) listed a w := fun hk inv =>
  ⟨fun h0 => (by rw [hr] at h0; cases h0), fun k hkr => by
    have hk' := hkr
    rw [hr] at hkr
    rcases List.mem_cons.1 hkr with e | e
    · subst e; exact stepV ho hin h hk inv hk'
    · rw [List.mem_singleton.1 e] at hk' ⊢; exact stepV ho' hjn h' hk inv hk'⟩
theorem wpAnyV_last {fuel : Nat} {listed : Array Bool} {a : Act} {w : World} {o : Oper} (hr : Region.ready md ops listed = [n]) (ho : ops[n]? = some o) (hd : Region.ready md ops (listed.setIfInBounds n true) = [])
    (h : ∀ K' : Act → World → Prop, Shut (∀ a w, Q .normal a w → K' a w) → if Region.wanted o (yielded ops a.tmps) = true then Oper.wp P o a w K' Q else K' (a.put o.dst undef) w) : wpAnyV P md ops Q S n (fuel + 1) listed a w := fun _ _ =>
  ⟨fun h0 => (by rw [hr] at h0; cases h0), fun j hj => by
    rw [hr] at hj
    rw [List.mem_singleton.1 hj]
    refine wpOp_step ho fun K' hK => h K' fun a w hq => hK a w ⟨fun hlt => absurd hlt (Nat.lt_irrefl _), ?_⟩
    cases fuel with
    | zero => exact ⟨hd, hq⟩
    | succ f => exact ⟨fun _ => hq, fun k hk => by rw [hd] at hk; cases hk⟩⟩
theorem wp_region_heldV {id : Nat} {a : Act} {w : World} (n : Nat) (hm : P.follows .mixedOrders = true) (h1 : Region.noSelect ops = true) (h2 : Region.sinkB .any ops n = true) (h3 : Region.chainB .any ops n = true) (h4 : n < ops.size) (hS : S w.drew)
    (h : S w.drew → wpAnyV P .any ops Q S n ops.size (Array.replicate ops.size false) a w.drew) : (Code.region id ops true).wp P Q a w :=
  wp_region_any hm (wpAny_of_U _ _ _ _ (h hS ⟨h1, h2, h3, h4⟩ ⟨by simp, fun j oj _ hl => (by rw [getD_replicate_false] at hl; cases hl), fun t _ ht => getD_in (by simpa using ht) (getD_replicate_false _ _)⟩))
end
end Go.Proofs.Ytlapinecmiacoaa
