/-
  Trees of sums in plain words; and a load of a whole row in a region that draws its order. No program here. No conditions.
-/
import Derived.Test.YthmpmpofhpkmjaaDoorShaPair
import Derived.Test.YthmpmpofhpkmjaaDoorGuard
import Derived.StillTailTactics
import Derived.Deep.MidRow
namespace Go.Proofs.YthmpmpofhpkmjaaDoor
open Go Go.RowKit Sh

theorem wpStill_load_mid {P : Program} {ops : Array Oper} {w : World} {Q : Act → Prop} {rest : List Oper} {o : Oper} {a : Act} (hgd : o.guard = none) (ty : TypeId) (x : Operand) (ho : o.op = .load ty x)
    (b off : Nat) (hx : a.eval x = .pointer (some ⟨b, off, none⟩)) (cs : List Value) (d : TypeDesc) (hc : w.rangeAt b off cs) (hu : P.underlying ty = some d) (hd : d.isRow = true) (hi : (P.info? ty).map (·.size) = some cs.length)
    (h : wpStill P ops w Q rest (a.put o.dst (.agg cs.toArray))) : wpStill P ops w Q (o :: rest) a := by
  refine wpStill_step fun K hK => ?_
  simp only [Region.wanted, hgd, if_true]
  unfold Oper.still execOp
  simp only [ho, hx, Instr.loadAt, Instr.sureAddr, Sem.run_bind, Sem.run_pure, Result.andThen_ok, run_loadVar_mid w b off ty cs d hc hu hd hi]
  rw [Oper.stillUpon_value]
  exact hK _ h

/-- The pair of two sums. -/
def pr (f g : Nat → UInt8) : Nat → UInt8 := sumF (pairL f g)
/-- Two by two. -/
def pairsD : List (Nat → UInt8) → List (Nat → UInt8)
  | f :: g :: r => pr f g :: pairsD r
  | l => l
theorem pairsD_length (l : List (Nat → UInt8)) : (pairsD l).length = (l.length + 1) / 2 := by
  match l with
  | [] => simp [pairsD]
  | [_] => simp [pairsD]
  | f :: g :: r =>
    have := pairsD_length r
    simp only [pairsD, List.length_cons]
    omega
theorem pairsD_append (l m : List (Nat → UInt8)) (h : l.length % 2 = 0) : pairsD (l ++ m) = pairsD l ++ pairsD m := by
  match l with
  | [] => rfl
  | [_] => simp at h
  | f :: g :: r =>
    have := pairsD_append r m (by simp only [List.length_cons] at h; omega)
    simp only [List.cons_append, pairsD, this]
/-- .. till there is one; so many times at most. -/
def treeF : Nat → List (Nat → UInt8) → (Nat → UInt8)
  | 0, l => l.headD fun _ => 0
  | k + 1, l => if l.length ≤ 1 then l.headD fun _ => 0 else treeF k (pairsD l)
def treeD (l : List (Nat → UInt8)) : Nat → UInt8 := treeF l.length l
theorem treeF_more (k : Nat) : ∀ (j : Nat) (l : List (Nat → UInt8)), l.length ≤ k + 1 → k ≤ j → treeF j l = treeF k l := by
  induction k with
  | zero =>
    intro j l hl _
    cases j with
    | zero => rfl
    | succ j => simp only [treeF]; rw [if_pos (by omega)]
  | succ k ih =>
    intro j l hl hj
    cases j with
    | zero => omega
    | succ j =>
      simp only [treeF]
      by_cases h : l.length ≤ 1
      · rw [if_pos h, if_pos h]
      · rw [if_neg h, if_neg h]
        exact ih j _ (by rw [pairsD_length]; omega) (by omega)
theorem treeD_one (f : Nat → UInt8) : treeD [f] = f := rfl
theorem treeD_step (l : List (Nat → UInt8)) (h : 1 < l.length) : treeD l = treeD (pairsD l) := by
  unfold treeD
  obtain ⟨k, hk⟩ : ∃ k, l.length = k + 1 := ⟨l.length - 1, by omega⟩
  rw [hk]
  simp only [treeF]
  rw [if_neg (by omega)]
  have hl := pairsD_length l
  exact treeF_more _ k _ (by omega) (by omega)
/-- A tree is made of trees. -/
theorem treeD_join (s : Nat) : ∀ l m : List (Nat → UInt8), l.length = 2 ^ s → 0 < m.length → m.length ≤ 2 ^ s → treeD (l ++ m) = pr (treeD l) (treeD m) := by
  induction s with
  | zero =>
    intro l m hl h0 h1
    match l, hl with
    | [f], _ =>
      match m, h0, h1 with
      | [g], _, _ => rw [List.singleton_append, treeD_step _ (by simp)]; rfl
      | _ :: _ :: _, _, h1 => simp at h1
  | succ s ih =>
    intro l m hl h0 h1
    have h2 : (2 : Nat) ^ (s + 1) = 2 * 2 ^ s := by rw [Nat.pow_succ]; omega
    have hp : 0 < (2 : Nat) ^ s := Nat.pow_pos (by omega)
    have hlp := pairsD_length l
    have hmp := pairsD_length m
    rw [treeD_step _ (by rw [List.length_append]; omega), pairsD_append _ _ (by omega), ih _ _ (by omega) (by omega) (by omega), ← treeD_step l (by omega)]
    by_cases h : 1 < m.length
    · rw [← treeD_step m h]
    · match m, h0, h with
      | [g], _, _ => rfl
      | _ :: _ :: _, _, h => simp at h
/-- Sums as cells, one behind the other. -/
def dcells (l : List (Nat → UInt8)) : List Value := l.flatMap fun f => (digF f).toList
theorem digF_len (f : Nat → UInt8) : (digF f).toList.length = 32 := by rw [Array.length_toList]; exact vals_size 32 _
theorem dcells_length (l : List (Nat → UInt8)) : (dcells l).length = 32 * l.length := by
  induction l with
  | nil => rfl
  | cons f r ih => unfold dcells at *; rw [List.flatMap_cons, List.length_append, ih, digF_len, List.length_cons]; omega
theorem dcells_append (l m : List (Nat → UInt8)) : dcells (l ++ m) = dcells l ++ dcells m := by unfold dcells; rw [List.flatMap_append]
theorem dcells_one (l : List (Nat → UInt8)) : ∀ u ∈ dcells l, u.oneCell' = true := by
  intro u hu
  unfold dcells at hu
  obtain ⟨f, _, hf⟩ := List.mem_flatMap.1 hu
  exact (Array.all_eq_true_iff_forall_mem.1 (hoDig f)) u (by simpa using hf)
theorem dcells_at (l : List (Nat → UInt8)) : ∀ (i j : Nat) (hi : i < l.length), j < 32 → (dcells l)[i * 32 + j]? = (digF l[i]).toList[j]? := by
  induction l with
  | nil => intro i j hi; cases hi
  | cons f r ih =>
    intro i j hi hj
    have hc : dcells (f :: r) = (digF f).toList ++ dcells r := by unfold dcells; rw [List.flatMap_cons]
    rw [hc]
    cases i with
    | zero => rw [Nat.zero_mul, Nat.zero_add, List.getElem?_append_left (by rw [digF_len]; exact hj)]; rfl
    | succ i =>
      rw [List.getElem?_append_right (by rw [digF_len]; omega), digF_len, show (i + 1) * 32 + j - 32 = i * 32 + j by omega]
      exact ih i j (by simpa using hi) hj
/-- The sums of a row lie in its cells. -/
def DigsAt (w : World) (b o : Nat) (l : List (Nat → UInt8)) : Prop := ∀ j u, (dcells l)[j]? = some u → w.cell? ⟨b, o + j, none⟩ = some u
theorem DigsAt.head {w : World} {b o : Nat} {f : Nat → UInt8} {r : List (Nat → UInt8)} (h : DigsAt w b o (f :: r)) : w.rangeAt b o (digF f).toList := fun j v hj => by
  have hjl : j < 32 := by have := (List.getElem?_eq_some_iff.1 hj).1; rwa [digF_len] at this
  refine h j v ?_
  have hc : dcells (f :: r) = (digF f).toList ++ dcells r := by unfold dcells; rw [List.flatMap_cons]
  rw [hc, List.getElem?_append_left (by rw [digF_len]; exact hjl)]
  exact hj
theorem DigsAt.tail {w : World} {b o : Nat} {f : Nat → UInt8} {r : List (Nat → UInt8)} (h : DigsAt w b o (f :: r)) : DigsAt w b (o + 32) r := fun j u hj => by
  have hc : dcells (f :: r) = (digF f).toList ++ dcells r := by unfold dcells; rw [List.flatMap_cons]
  have := h (32 + j) u (by rw [hc, List.getElem?_append_right (by rw [digF_len]; omega), digF_len, Nat.add_sub_cancel_left]; exact hj)
  rwa [show o + (32 + j) = o + 32 + j by omega] at this
theorem DigsAt.keep {w w' : World} {b o B : Nat} {l : List (Nat → UInt8)} (h : DigsAt w b o l) (hb : Below B w w') (hlt : b < B) : DigsAt w' b o l := fun j u hj => (hb.cell (p := ⟨b, o + j, none⟩) hlt).trans (h j u hj)
end Go.Proofs.YthmpmpofhpkmjaaDoor
