/-
  A token through a model, in plain words: entries, heads, blocks, scores; many tokens, one behind the other; that neither the parts of a run nor the order of what is behind one plays a part. No program's function here. Conditions: those of each lemma.
  Entries behind slices: where their keys and values lie, and what a store elsewhere leaves. No program's function here. No conditions but those of each lemma.
-/
import Derived.Test.YtkdkeokldcehhaaGreatDoorMg7
import Derived.Test.YtkdkeokldcehhaaGreatDoorMg8
import Derived.Test.YtkdkeokldcehhaaGreatDoorMg9
import Derived.Test.YtkdkeokldcehhaaGreatDoorMg10
import Derived.Test.YtkdkeokldcehhaaGreatDoorMg6
set_option maxRecDepth 100000
namespace Go.Proofs.YtkdkeokldcehhaaGreatDoor
open Go.ChangeShapes Go.WideShapes Go.ChangeAt Go.RowKit Cf Vc Br Sf Nr Ac
open Go.Proofs.YtkdkeokldcehhaaGreatDoor.Nm (sat shift dot sum)
namespace Sp

/-! What a step is -/
structure Ent where
  ks : List (List Int)
  vs : List (List Int)
def dN (x : Cfg) : Nat := x.d.toNat
def hN (x : Cfg) : Nat := x.h.toNat
def bN (x : Cfg) : Nat := x.b.toNat
def vN (x : Cfg) : Nat := x.v.toNat
def nH (x : Cfg) : Nat := (x.d.tdiv x.h).toNat
/-- A part of a block times a row, shifted by 6. -/
def tim (x : Cfg) (s : ByteArray) (p k : Nat) (v : List Int) : List Int := timesL (listD (pieceB x s (p : Int) (k : Int))) (rowsZ x (p : Int)).toNat (colsZ x (p : Int)).toNat v 6
def gains (x : Cfg) (s : ByteArray) (p k : Nat) : List Int := rowZ x s (p : Int) (k : Int) 0
/-- The numbers of the head i, of n each. -/
def cutH (n i : Nat) (v : List Int) : List Int := (v.drop (i * n)).take n
def scoreH (n i : Nat) (q r : List Int) : Int := shift (dot (cutH n i q) (cutH n i r)) 9
def mixH (n i : Nat) (q : List Int) (K V : List (List Int)) : List Int := mixL (weightsL (K.map (scoreH n i q))) (V.map (cutH n i)) n
def lookL (H n : Nat) (q : List Int) (K V : List (List Int)) : List Int := (List.range H).flatMap fun i => mixH n i q K V
def normK (x : Cfg) (s : ByteArray) (p k : Nat) (z : List Int) : List Int := ofL (gains x s p k) z
def keyL (x : Cfg) (s : ByteArray) (k : Nat) (z : List Int) : List Int := tim x s 4 k (normK x s 2 k z)
def valL (x : Cfg) (s : ByteArray) (k : Nat) (z : List Int) : List Int := tim x s 5 k (normK x s 2 k z)
def seenL (x : Cfg) (s : ByteArray) (k : Nat) (K V : List (List Int)) (z : List Int) : List Int := lookL (hN x) (nH x) (tim x s 3 k (normK x s 2 k z)) (K ++ [keyL x s k z]) (V ++ [valL x s k z])
def midL (x : Cfg) (s : ByteArray) (k : Nat) (K V : List (List Int)) (z : List Int) : List Int := plusL [z, tim x s 6 k (seenL x s k K V z)] (dN x)
def downL (x : Cfg) (s : ByteArray) (k : Nat) (m : List Int) : List Int := plusL [m, tim x s 10 k (pairsL (tim x s 8 k (normK x s 7 k m)) (tim x s 9 k (normK x s 7 k m)))] (dN x)
def blockL (x : Cfg) (s : ByteArray) (k : Nat) (K V : List (List Int)) (z : List Int) : List Int := downL x s k (midL x s k K V z)
def kAt (past : List Ent) (k : Nat) : List (List Int) := past.map fun e => e.ks.getD k []
def vAt (past : List Ent) (k : Nat) : List (List Int) := past.map fun e => e.vs.getD k []
/-- Behind k blocks: the keys, the values, and the row. -/
def through (x : Cfg) (s : ByteArray) (past : List Ent) (z : List Int) : Nat → List (List Int) × List (List Int) × List Int
  | 0 => ([], [], z)
  | k + 1 => ((through x s past z k).1 ++ [keyL x s k (through x s past z k).2.2], (through x s past z k).2.1 ++ [valL x s k (through x s past z k).2.2], blockL x s k (kAt past k) (vAt past k) (through x s past z k).2.2)
def startL (x : Cfg) (s : ByteArray) (tok : Int) (place : Nat) : List Int := (List.range (dN x)).map fun i => sat (16 * ((rowZ x s 0 0 tok).getD i 0 + (rowZ x s 1 0 (place : Int)).getD i 0))
def scoresL (x : Cfg) (s : ByteArray) (z : List Int) : List Int := (List.range (vN x)).map fun t : Nat => shift (dot (rowZ x s 0 0 (t : Int)) (normK x s 11 0 z)) 5
def endT (x : Cfg) (s : ByteArray) (past : List Ent) (tok : Int) : List (List Int) × List (List Int) × List Int := through x s past (startL x s tok past.length) (bN x)
def entZ (x : Cfg) (s : ByteArray) (past : List Ent) (tok : Int) : Ent := ⟨(endT x s past tok).1, (endT x s past tok).2.1⟩
def scoZ (x : Cfg) (s : ByteArray) (past : List Ent) (tok : Int) : List Int := scoresL x s (endT x s past tok).2.2

/-! What can be an entry; errors -/
def actB (z : Int) : Bool := decide (-32767 ≤ z) && decide (z ≤ 32767)
def rowB (d : Nat) (l : List Int) : Bool := decide (l.length = d) && l.all actB
def rowsB (n d : Nat) (L : List (List Int)) : Bool := decide (L.length = n) && L.all (rowB d)
def goodE (x : Cfg) (e : Ent) : Bool := rowsB (bN x) (dN x) e.ks && rowsB (bN x) (dN x) e.vs
def errZ (x : Cfg) (past : List Ent) (tok : Int) : Int := if past.all (goodE x) = true then (if 0 ≤ tok ∧ tok < x.v then (if (past.length : Int) < x.c then 0 else 12) else 3) else 1
theorem actB_iff {z : Int} : actB z = true ↔ -32767 ≤ z ∧ z ≤ 32767 := by unfold actB; simp
theorem rowB_iff {d : Nat} {l : List Int} : rowB d l = true ↔ l.length = d ∧ ∀ z ∈ l, -32767 ≤ z ∧ z ≤ 32767 := by
  unfold rowB
  simp only [Bool.and_eq_true, decide_eq_true_iff, List.all_eq_true, actB_iff]
theorem rowsB_iff {n d : Nat} {L : List (List Int)} : rowsB n d L = true ↔ L.length = n ∧ ∀ l ∈ L, rowB d l = true := by
  unfold rowsB
  simp only [Bool.and_eq_true, decide_eq_true_iff, List.all_eq_true]
theorem goodE_iff {x : Cfg} {e : Ent} : goodE x e = true ↔ rowsB (bN x) (dN x) e.ks = true ∧ rowsB (bN x) (dN x) e.vs = true := by
  unfold goodE
  rw [Bool.and_eq_true]

/-! Lengths -/
theorem dims {x : Cfg} (h : In x) : (dN x : Int) = x.d ∧ (hN x : Int) = x.h ∧ (bN x : Int) = x.b ∧ (vN x : Int) = x.v := by
  have := h.d1; have := h.h1; have := h.b1; have := h.v2
  unfold dN hN bN vN
  omega
theorem heads {x : Cfg} (h : Cf.Good x) : hN x * nH x = dN x := by
  obtain ⟨h1, h2, _, _⟩ := dims h.is
  have h3 := Int.tdiv_mul_add_tmod x.d x.h
  rw [h.rest, Int.add_zero] at h3
  have h4 : 0 ≤ x.d.tdiv x.h := Int.tdiv_nonneg (by have := h.is.d1; omega) (by have := h.is.h1; omega)
  have h5 : (nH x : Int) = x.d.tdiv x.h := by unfold nH; omega
  have h6 : ((hN x * nH x : Nat) : Int) = (dN x : Int) := by
    rw [Int.natCast_mul, h2, h5, h1, Int.mul_comm]
    exact h3
  exact Int.ofNat.inj h6
theorem tim_length (x : Cfg) (s : ByteArray) (p k : Nat) (v : List Int) : (tim x s p k v).length = (rowsZ x (p : Int)).toNat := timesL_length _ _ _ _ _
theorem tim_acts (x : Cfg) (s : ByteArray) (p k : Nat) (v : List Int) : ∀ z ∈ tim x s p k v, -32767 ≤ z ∧ z ≤ 32767 := fun z hz => by
  unfold tim timesL at hz
  obtain ⟨i, _, rfl⟩ := List.mem_map.1 hz
  exact sat_in _
theorem rows_mid (x : Cfg) {p : Nat} (h : p = 3 ∨ p = 4 ∨ p = 5 ∨ p = 6 ∨ p = 10) : (rowsZ x (p : Int)).toNat = dN x := by
  rcases h with rfl | rfl | rfl | rfl | rfl <;> rfl
theorem tim_row {x : Cfg} {s : ByteArray} {p k : Nat} {v : List Int} (h : p = 3 ∨ p = 4 ∨ p = 5 ∨ p = 6 ∨ p = 10) : rowB (dN x) (tim x s p k v) = true := rowB_iff.2 ⟨(tim_length x s p k v).trans (rows_mid x h), tim_acts x s p k v⟩
theorem cutH_length {n i H : Nat} {v : List Int} (hv : v.length = H * n) (hi : i < H) : (cutH n i v).length = n := by
  unfold cutH
  rw [List.length_take, List.length_drop, hv]
  have h1 : (i + 1) * n ≤ H * n := Nat.mul_le_mul_right _ hi
  rw [Nat.succ_mul] at h1
  omega
theorem mixH_length (n i : Nat) (q : List Int) (K V : List (List Int)) : (mixH n i q K V).length = n := mixL_length _ _ _
theorem lookL_length (H n : Nat) (q : List Int) (K V : List (List Int)) : (lookL H n q K V).length = H * n := by
  unfold lookL
  induction H with
  | zero => rw [Nat.zero_mul]; rfl
  | succ H ih => rw [List.range_succ, List.flatMap_append, List.length_append, ih, Nat.succ_mul]; simp [mixH_length]
theorem plusL_acts (L : List (List Int)) (n : Nat) : rowB n (plusL L n) = true := rowB_iff.2 ⟨plusL_length _ _, fun z hz => by
  unfold plusL at hz
  obtain ⟨i, _, rfl⟩ := List.mem_map.1 hz
  exact sat_in _⟩
theorem startL_row (x : Cfg) (s : ByteArray) (tok : Int) (place : Nat) : rowB (dN x) (startL x s tok place) = true := rowB_iff.2 ⟨by simp [startL], fun z hz => by
  unfold startL at hz
  obtain ⟨i, _, rfl⟩ := List.mem_map.1 hz
  exact sat_in _⟩
theorem scoresL_length (x : Cfg) (s : ByteArray) (z : List Int) : (scoresL x s z).length = vN x := by simp [scoresL]
theorem gains_length {x : Cfg} {s : ByteArray} (h : Cf.Good x) {p k : Nat} (hp : p = 2 ∨ p = 7 ∨ p = 11) (hk : (k : Int) < timesZ x (p : Int)) : (gains x s p k).length = dN x := by
  have hi : isZ x (p : Int) (k : Int) = true := isZ_iff.2 ⟨h, by omega, by omega, by omega, hk⟩
  unfold gains rowZ
  have h1 : rowsZ x (p : Int) = 1 := by rcases hp with rfl | rfl | rfl <;> rfl
  rw [if_pos ⟨hi, by omega, by omega⟩, rowD_length]
  rcases hp with rfl | rfl | rfl <;> rfl
theorem normK_length {x : Cfg} {s : ByteArray} (h : Cf.Good x) {p k : Nat} (hp : p = 2 ∨ p = 7 ∨ p = 11) (hk : (k : Int) < timesZ x (p : Int)) {z : List Int} (hz : z.length = dN x) : (normK x s p k z).length = dN x := by
  unfold normK
  rw [ofL_same ((gains_length h hp hk).trans hz.symm), normL_length, hz]
theorem through_row (x : Cfg) (s : ByteArray) (past : List Ent) (z : List Int) (hz : rowB (dN x) z = true) : ∀ k, rowB (dN x) (through x s past z k).2.2 = true
  | 0 => hz
  | _ + 1 => plusL_acts _ _
theorem through_rows (x : Cfg) (s : ByteArray) (past : List Ent) (z : List Int) : ∀ k, rowsB k (dN x) (through x s past z k).1 = true ∧ rowsB k (dN x) (through x s past z k).2.1 = true
  | 0 => ⟨rfl, rfl⟩
  | k + 1 => by
    obtain ⟨h1, h2⟩ := through_rows x s past z k
    obtain ⟨a1, a2⟩ := rowsB_iff.1 h1
    obtain ⟨b1, b2⟩ := rowsB_iff.1 h2
    refine ⟨rowsB_iff.2 ⟨?_, ?_⟩, rowsB_iff.2 ⟨?_, ?_⟩⟩
    · show ((through x s past z k).1 ++ [_]).length = k + 1
      rw [List.length_append, a1]
      rfl
    · intro l hl
      rcases List.mem_append.1 hl with hl | hl
      · exact a2 l hl
      · rw [List.mem_singleton.1 hl]
        exact tim_row (by omega)
    · show ((through x s past z k).2.1 ++ [_]).length = k + 1
      rw [List.length_append, b1]
      rfl
    · intro l hl
      rcases List.mem_append.1 hl with hl | hl
      · exact b2 l hl
      · rw [List.mem_singleton.1 hl]
        exact tim_row (by omega)
theorem entZ_good (x : Cfg) (s : ByteArray) (past : List Ent) (tok : Int) : goodE x (entZ x s past tok) = true := goodE_iff.2 (through_rows x s past _ (bN x))

/-! Weights of scores -/
theorem weights_in (l : List Int) : InW 65536 (weightsL l) := fun i hi => by
  rw [weightsL_length] at hi
  rw [weightsL_at l i hi]
  exact expZ_in _
theorem weights_some {l : List Int} (h : 0 < l.length) : 0 < total (weightsL l) := by
  obtain ⟨z, hz, he⟩ := high_is (l := l) (by intro e; rw [e] at h; exact absurd h (by simp))
  have h1 : ∀ ws : List Int, InW 65536 ws → ∀ w ∈ ws, w ≤ total ws := fun ws => by
    induction ws with
    | nil => intro _ w hw; cases hw
    | cons a ws ih =>
      intro hW w hw
      obtain ⟨h2, h3⟩ := inW_cons hW
      have h4 := (total_in (m := 65536) (by omega) ws h3).1
      rw [total_cons]
      rcases List.mem_cons.1 hw with rfl | hw
      · omega
      · have := ih h3 w hw; omega
  have h2 : (65536 : Int) ∈ weightsL l := by
    unfold weightsL
    refine List.mem_map.2 ⟨z, hz, ?_⟩
    rw [he, Int.sub_self, expZ_zero]
  have := h1 _ (weights_in l) _ h2
  omega

/-! Many tokens -/
def runE (x : Cfg) (s : ByteArray) (past : List Ent) : List Int → List Ent
  | [] => []
  | t :: ts => entZ x s past t :: runE x s (past ++ [entZ x s past t]) ts
def runS (x : Cfg) (s : ByteArray) (past : List Ent) : List Int → List Int
  | [] => []
  | [t] => scoZ x s past t
  | t :: u :: ts => runS x s (past ++ [entZ x s past t]) (u :: ts)
theorem runE_length (x : Cfg) (s : ByteArray) : ∀ (ts : List Int) (past : List Ent), (runE x s past ts).length = ts.length
  | [], _ => rfl
  | t :: ts, past => by
    show (runE x s (past ++ [entZ x s past t]) ts).length + 1 = ts.length + 1
    rw [runE_length x s ts]
theorem runE_append (x : Cfg) (s : ByteArray) (us : List Int) : ∀ (ts : List Int) (past : List Ent), runE x s past (ts ++ us) = runE x s past ts ++ runE x s (past ++ runE x s past ts) us
  | [], past => by
    show runE x s past us = runE x s (past ++ []) us
    rw [List.append_nil]
  | t :: ts, past => by
    show entZ x s past t :: runE x s (past ++ [entZ x s past t]) (ts ++ us) = entZ x s past t :: (runE x s (past ++ [entZ x s past t]) ts ++ runE x s (past ++ (entZ x s past t :: runE x s (past ++ [entZ x s past t]) ts)) us)
    rw [runE_append x s us ts, List.append_assoc, List.singleton_append]
theorem runS_append (x : Cfg) (s : ByteArray) {us : List Int} (hu : us ≠ []) : ∀ (ts : List Int) (past : List Ent), runS x s past (ts ++ us) = runS x s (past ++ runE x s past ts) us
  | [], past => by
    show runS x s past us = runS x s (past ++ []) us
    rw [List.append_nil]
  | t :: ts, past => by
    have h1 : ∃ v vs, ts ++ us = v :: vs := by
      cases ts with
      | nil => exact List.exists_cons_of_ne_nil hu
      | cons a ts => exact ⟨a, ts ++ us, rfl⟩
    obtain ⟨v, vs, hv⟩ := h1
    have h2 : runS x s past ((t :: ts) ++ us) = runS x s (past ++ [entZ x s past t]) (ts ++ us) := by
      show runS x s past (t :: (ts ++ us)) = _
      rw [hv]
      rfl
    rw [h2, runS_append x s hu ts]
    show _ = runS x s (past ++ (entZ x s past t :: runE x s (past ++ [entZ x s past t]) ts)) us
    rw [List.append_assoc, List.singleton_append]
theorem runE_one (x : Cfg) (s : ByteArray) (past : List Ent) (t : Int) : runE x s past [t] = [entZ x s past t] := rfl
theorem runE_good (x : Cfg) (s : ByteArray) : ∀ (ts : List Int) (past : List Ent), ∀ e ∈ runE x s past ts, goodE x e = true
  | [], _, e, he => by cases he
  | t :: ts, past, e, he => by
    rcases List.mem_cons.1 he with rfl | he
    · exact entZ_good x s past t
    · exact runE_good x s ts _ e he
/-- The entry of the token i, and the scores, are those of one step behind what is ahead. -/
theorem runE_at (x : Cfg) (s : ByteArray) (ts : List Int) (past : List Ent) (i : Nat) (h : i < ts.length) : (runE x s past ts)[i]? = some (entZ x s (past ++ runE x s past (ts.take i)) ts[i]) := by
  have h1 : ts = ts.take i ++ (ts[i] :: ts.drop (i + 1)) := by rw [← List.drop_eq_getElem_cons h, List.take_append_drop]
  have h2 : (runE x s past (ts.take i)).length = i := by rw [runE_length, List.length_take]; omega
  conv => lhs; rw [h1]
  rw [runE_append, List.getElem?_append_right (by omega), h2, Nat.sub_self]
  rfl

/-! The order of what is behind one -/
theorem high_same {l m : List Int} (h : ∀ z, z ∈ l ↔ z ∈ m) : highL l = highL m := by
  by_cases hl : l = []
  · have hm : m = [] := List.eq_nil_iff_forall_not_mem.2 fun z hz => by rw [hl] at h; exact absurd ((h z).2 hz) (by simp)
    rw [hl, hm]
  · have hm : m ≠ [] := fun hm => hl (List.eq_nil_iff_forall_not_mem.2 fun z hz => by rw [hm] at h; exact absurd ((h z).1 hz) (by simp))
    obtain ⟨a, ha, ea⟩ := high_is hl
    obtain ⟨b, hb, eb⟩ := high_is hm
    have h1 := high_ge ((h a).1 ha)
    have h2 := high_ge ((h b).2 hb)
    omega
theorem numer_perm {α : Type} {L M : List α} (h : L.Perm M) (f : α → Int) (r : α → List Int) (k : Nat) : numer (L.map f) (L.map r) k = numer (M.map f) (M.map r) k := by
  induction h with
  | nil => rfl
  | cons a _ ih => rw [List.map_cons, List.map_cons, List.map_cons, List.map_cons, numer_cons, numer_cons, ih]
  | swap a b l =>
    rw [List.map_cons, List.map_cons, List.map_cons, List.map_cons, List.map_cons, List.map_cons, List.map_cons, List.map_cons, numer_cons, numer_cons, numer_cons, numer_cons]
    omega
  | trans _ _ h1 h2 => exact h1.trans h2
theorem total_perm {α : Type} {L M : List α} (h : L.Perm M) (f : α → Int) : total (L.map f) = total (M.map f) := by
  induction h with
  | nil => rfl
  | cons a _ ih => rw [List.map_cons, List.map_cons, total_cons, total_cons, ih]
  | swap a b l =>
    rw [List.map_cons, List.map_cons, List.map_cons, List.map_cons, total_cons, total_cons, total_cons, total_cons]
    omega
  | trans _ _ h1 h2 => exact h1.trans h2
theorem mixH_perm (n i : Nat) (q : List Int) {L M : List (List Int × List Int)} (h : L.Perm M) : mixH n i q (L.map (·.1)) (L.map (·.2)) = mixH n i q (M.map (·.1)) (M.map (·.2)) := by
  unfold mixH weightsL
  have hh : highL ((L.map (·.1)).map (scoreH n i q)) = highL ((M.map (·.1)).map (scoreH n i q)) := high_same fun z => by
    rw [List.map_map, List.map_map]
    exact (h.map _).mem_iff
  rw [hh]
  generalize highL ((M.map (·.1)).map (scoreH n i q)) = t
  simp only [List.map_map]
  unfold mixL
  refine List.map_congr_left fun k _ => ?_
  rw [numer_perm h, total_perm h]
theorem lookL_perm (H n : Nat) (q : List Int) {L M : List (List Int × List Int)} (h : L.Perm M) : lookL H n q (L.map (·.1)) (L.map (·.2)) = lookL H n q (M.map (·.1)) (M.map (·.2)) := by
  unfold lookL
  congr 1
  funext i
  exact mixH_perm n i q h
theorem seen_perm (x : Cfg) (s : ByteArray) (k : Nat) {past other : List Ent} (h : past.Perm other) (z : List Int) : seenL x s k (kAt past k) (vAt past k) z = seenL x s k (kAt other k) (vAt other k) z := by
  have e : ∀ p : List Ent, kAt p k ++ [keyL x s k z] = (p.map (fun e => (e.ks.getD k [], e.vs.getD k [])) ++ [(keyL x s k z, valL x s k z)]).map (·.1) ∧ vAt p k ++ [valL x s k z] = (p.map (fun e => (e.ks.getD k [], e.vs.getD k [])) ++ [(keyL x s k z, valL x s k z)]).map (·.2) := fun p => by
    unfold kAt vAt
    constructor <;> rw [List.map_append, List.map_map] <;> rfl
  unfold seenL
  rw [(e past).1, (e past).2, (e other).1, (e other).2]
  exact lookL_perm _ _ _ ((h.map _).append_right _)
theorem through_perm (x : Cfg) (s : ByteArray) {past other : List Ent} (h : past.Perm other) (z : List Int) : ∀ k, through x s past z k = through x s other z k
  | 0 => rfl
  | k + 1 => by
    unfold through
    rw [through_perm x s h z k]
    unfold blockL midL
    rw [seen_perm x s k h]
theorem endT_perm (x : Cfg) (s : ByteArray) {past other : List Ent} (h : past.Perm other) (tok : Int) : endT x s past tok = endT x s other tok := by
  unfold endT
  rw [h.length_eq, through_perm x s h]
theorem errZ_perm (x : Cfg) {past other : List Ent} (h : past.Perm other) (tok : Int) : errZ x past tok = errZ x other tok := by
  have e : past.all (goodE x) = other.all (goodE x) := by
    rw [Bool.eq_iff_iff, List.all_eq_true, List.all_eq_true]
    exact ⟨fun hh e he => hh e (h.mem_iff.2 he), fun hh e he => hh e (h.mem_iff.1 he)⟩
  unfold errZ
  rw [e, h.length_eq]
theorem turned_perm (past : List Ent) (k : Nat) : past.Perm (past.drop k ++ past.take k) := by
  conv => lhs; rw [← List.take_append_drop k past]
  exact List.perm_append_comm
end Sp
end Go.Proofs.YtkdkeokldcehhaaGreatDoor
namespace Go.Proofs.YtkdkeokldcehhaaGreatDoor
open Go.ChangeShapes Go.WideShapes Go.ChangeAt Go.RowKit Nm Cf Vc Br
namespace Sp

/-! Where something lies: of nothing nothing is asked -/
def Ft (p : Nat → Prop) (A : Option Addr) (n : Nat) : Prop := 0 < n → ∀ a, A = some a → p a.block
theorem Ft.mono {p q : Nat → Prop} {A : Option Addr} {n : Nat} (h : Ft p A n) (hq : ∀ j, p j → q j) : Ft q A n := fun h0 a ha => hq _ (h h0 a ha)
theorem Ft.both {p q : Nat → Prop} {A : Option Addr} {n : Nat} (h : Ft p A n) (k : Ft q A n) : Ft (fun j => p j ∧ q j) A n := fun h0 a ha => ⟨h h0 a ha, k h0 a ha⟩
theorem KIn.moved {p : Nat → Prop} {kd : IntKind} {w w' : World} {A : Option Addr} {zs : List Int} (h : KIn kd w A zs) (hf : Ft p A zs.length) (hb : ∀ j, p j → w'.heap[j]? = w.heap[j]?) : KIn kd w' A zs := fun h0 => by
  obtain ⟨pb, po, rfl, hc⟩ := h h0
  exact ⟨pb, po, rfl, fun i hi => (World.cell?_of_block (w := w) (a := ⟨pb, po + i, none⟩) (hb pb (hf h0 _ rfl))).trans (hc i hi)⟩
theorem KIn.low' {kd : IntKind} {w : World} {A : Option Addr} {zs : List Int} (h : KIn kd w A zs) : Ft (· < w.heap.size) A zs.length := fun h0 a ha => KIn.low h h0 a ha
theorem LIn.moved {p : Nat → Prop} {w w' : World} {A : Option Addr} {B : Nat → Option Addr} {C : Nat → Nat} {L : List (List Int)} (h : LIn w A B C L) (hf : Ft p A L.length) (hg : ∀ i, i < L.length → Ft p (B i) (L.getD i []).length) (hb : ∀ j, p j → w'.heap[j]? = w.heap[j]?) : LIn w' A B C L := fun h0 => by
  obtain ⟨pb, po, rfl, hc⟩ := h h0
  exact ⟨pb, po, rfl, fun i hi => ⟨(World.cell?_of_block (w := w) (a := ⟨pb, po + i, none⟩) (hb pb (hf h0 _ rfl))).trans (hc i hi).1, KIn.moved (hc i hi).2 (hg i hi) hb⟩⟩
/-- Rows of numbers, in blocks of which p holds; none is cut short. -/
structure LOn (p : Nat → Prop) (w : World) (A : Option Addr) (B : Nat → Option Addr) (C : Nat → Nat) (L : List (List Int)) : Prop where
  is : LIn w A B C L
  here : Ft p A L.length
  there : ∀ i, i < L.length → Ft p (B i) (L.getD i []).length
  cap : ∀ i, i < L.length → (L.getD i []).length ≤ C i
theorem LOn.mono {p q : Nat → Prop} {w : World} {A : Option Addr} {B : Nat → Option Addr} {C : Nat → Nat} {L : List (List Int)} (h : LOn p w A B C L) (hq : ∀ j, p j → q j) : LOn q w A B C L := ⟨h.is, h.here.mono hq, fun i hi => (h.there i hi).mono hq, h.cap⟩
theorem LOn.moved {p : Nat → Prop} {w w' : World} {A : Option Addr} {B : Nat → Option Addr} {C : Nat → Nat} {L : List (List Int)} (h : LOn p w A B C L) (hb : ∀ j, p j → w'.heap[j]? = w.heap[j]?) : LOn p w' A B C L := ⟨LIn.moved h.is h.here h.there hb, h.here, h.there, h.cap⟩
theorem LOn.new {w : World} {A : Option Addr} {B : Nat → Option Addr} {C : Nat → Nat} {L : List (List Int)} (h : LIn w A B C L) (hc : ∀ i, i < L.length → (L.getD i []).length ≤ C i) : LOn (· < w.heap.size) w A B C L := ⟨h, fun h0 a ha => by
  obtain ⟨pb, po, rfl, hx⟩ := h h0
  injection ha with ha
  rw [← ha]
  exact block_lt_of_cell (hx 0 h0).1, fun i hi h0 a ha => by
  obtain ⟨pb, po, _, _, hk⟩ := h.at hi
  exact KIn.low hk h0 a ha, hc⟩
theorem LOn.nil (p : Nat → Prop) (w : World) (A : Option Addr) (B : Nat → Option Addr) (C : Nat → Nat) : LOn p w A B C [] := ⟨fun h => absurd h (by simp), fun h => absurd h (by simp), fun i hi => absurd hi (by simp), fun i hi => absurd hi (by simp)⟩
theorem LOn.also {p q : Nat → Prop} {w : World} {A : Option Addr} {B : Nat → Option Addr} {C : Nat → Nat} {L : List (List Int)} (h : LOn p w A B C L) (k : LOn q w A B C L) : LOn (fun j => p j ∧ q j) w A B C L := ⟨h.is, h.here.both k.here, fun i hi => (h.there i hi).both (k.there i hi), h.cap⟩

/-! An entry -/
/-- Where an entry's rows lie. -/
structure Er where
  kA : Option Addr
  kc : Nat
  kB : Nat → Option Addr
  kC : Nat → Nat
  vA : Option Addr
  vc : Nat
  vB : Nat → Option Addr
  vC : Nat → Nat
structure EOn (p : Nat → Prop) (w : World) (r : Er) (e : Ent) : Prop where
  k : LOn p w r.kA r.kB r.kC e.ks
  v : LOn p w r.vA r.vB r.vC e.vs
theorem EOn.mono {p q : Nat → Prop} {w : World} {r : Er} {e : Ent} (h : EOn p w r e) (hq : ∀ j, p j → q j) : EOn q w r e := ⟨h.k.mono hq, h.v.mono hq⟩
theorem EOn.moved {p : Nat → Prop} {w w' : World} {r : Er} {e : Ent} (h : EOn p w r e) (hb : ∀ j, p j → w'.heap[j]? = w.heap[j]?) : EOn p w' r e := ⟨h.k.moved hb, h.v.moved hb⟩
theorem EOn.also {p q : Nat → Prop} {w : World} {r : Er} {e : Ent} (h : EOn p w r e) (k : EOn q w r e) : EOn (fun j => p j ∧ q j) w r e := ⟨h.k.also k.k, h.v.also k.v⟩
theorem EOn.new {p : Nat → Prop} {w : World} {r : Er} {e : Ent} (h : EOn p w r e) : EOn (· < w.heap.size) w r e := ⟨LOn.new h.k.is h.k.cap, LOn.new h.v.is h.v.cap⟩
theorem EOn.below {p : Nat → Prop} {w w' : World} {r : Er} {e : Ent} (h : EOn p w r e) (hb : Below w.heap.size w w') : EOn p w' r e :=
  (((h.also h.new).moved fun j hj => hb.block j hj.2)).mono fun _ hj => hj.1
/-- An entry's two cells, and its value. -/
def eC (r : Er) (e : Ent) : List Value := [.slice r.kA e.ks.length r.kc, .slice r.vA e.vs.length r.vc]
def eV (r : Er) (e : Ent) : Value := .agg #[.slice r.kA e.ks.length r.kc, .slice r.vA e.vs.length r.vc]
def eCs (Q : List (Er × Ent)) : List Value := Q.flatMap fun q => eC q.1 q.2
theorem eCs_length (Q : List (Er × Ent)) : (eCs Q).length = Q.length * 2 := by
  induction Q with
  | nil => rfl
  | cons q Q ih =>
    show (eC q.1 q.2 ++ eCs Q).length = (Q.length + 1) * 2
    rw [List.length_append, ih]
    show 2 + Q.length * 2 = _
    omega
theorem eCs_append (Q R : List (Er × Ent)) : eCs (Q ++ R) = eCs Q ++ eCs R := by simp [eCs]
theorem eCs_at (Q : List (Er × Ent)) (i : Nat) (q : Er × Ent) (h : Q[i]? = some q) : (eCs Q)[i * 2]? = some (.slice q.1.kA q.2.ks.length q.1.kc) ∧ (eCs Q)[i * 2 + 1]? = some (.slice q.1.vA q.2.vs.length q.1.vc) := by
  induction Q generalizing i with
  | nil => simp at h
  | cons a Q ih =>
    match i with
    | 0 =>
      simp at h
      subst h
      exact ⟨rfl, rfl⟩
    | i + 1 =>
      have := ih i (by simpa using h)
      rw [show (i + 1) * 2 = i * 2 + 2 by omega, show i * 2 + 2 + 1 = i * 2 + 1 + 2 by omega]
      exact this
theorem eCs_one (Q : List (Er × Ent)) : ∀ u ∈ eCs Q, u.oneCell' = true := by
  intro u hu
  obtain ⟨q, _, hq⟩ := List.mem_flatMap.1 hu
  unfold eC at hq
  simp at hq
  rcases hq with rfl | rfl <;> rfl
/-- Entries behind a slice. -/
def EsAt (w : World) (A : Option Addr) (Q : List (Er × Ent)) : Prop := 0 < Q.length → ∃ pb po, A = some ⟨pb, po, none⟩ ∧ ∀ j u, (eCs Q)[j]? = some u → w.cell? ⟨pb, po + j, none⟩ = some u
structure EsIn (w : World) (A : Option Addr) (Q : List (Er × Ent)) : Prop where
  row : EsAt w A Q
  all : ∀ q ∈ Q, EOn (fun _ => True) w q.1 q.2
theorem EsAt.below {w w' : World} {A : Option Addr} {Q : List (Er × Ent)} (h : EsAt w A Q) (hb : Below w.heap.size w w') : EsAt w' A Q := fun h0 => by
  obtain ⟨pb, po, e, hc⟩ := h h0
  exact ⟨pb, po, e, fun j u hj => (hb.cell (p := ⟨pb, po + j, none⟩) (block_lt_of_cell (hc j u hj))).trans (hc j u hj)⟩
theorem EsIn.below {w w' : World} {A : Option Addr} {Q : List (Er × Ent)} (h : EsIn w A Q) (hb : Below w.heap.size w w') : EsIn w' A Q := ⟨h.row.below hb, fun q hq => (h.all q hq).below hb⟩
theorem EsAt.cell {w : World} {A : Option Addr} {Q : List (Er × Ent)} (h : EsAt w A Q) {i : Nat} {q : Er × Ent} (hi : Q[i]? = some q) : ∃ pb po, A = some ⟨pb, po, none⟩ ∧ w.cell? ⟨pb, po + i * 2, none⟩ = some (.slice q.1.kA q.2.ks.length q.1.kc) ∧ w.cell? ⟨pb, po + i * 2 + 1, none⟩ = some (.slice q.1.vA q.2.vs.length q.1.vc) := by
  have h0 : 0 < Q.length := by have := (List.getElem?_eq_some_iff.1 hi).1; omega
  obtain ⟨pb, po, e, hc⟩ := h h0
  obtain ⟨h1, h2⟩ := eCs_at Q i q hi
  exact ⟨pb, po, e, hc _ _ h1, hc _ _ h2⟩
end Sp
end Go.Proofs.YtkdkeokldcehhaaGreatDoor
