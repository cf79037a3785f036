/-
  Trees of sums in plain words; and a load of a whole row in a region that draws its order. No program here. No conditions.
  The program's sums (package sha): a row of sums, two by two. Conditions: both tables lie as the program's text lays them; the sums lie where it looks; at most a thousand.
  The program's sums (package sha): the tree of a row of sums. Conditions: both tables lie as the program's text lays them; the sums lie where it looks; at least one, at most a thousand.
  In a region that draws its order: an operation taken first, its slot told: what stands in the slots is reckoned at once. No program here. No conditions.
-/
import Derived.Test.YtlechjpaldpgnaaGreatDoorMg7
import Derived.Test.YtlechjpaldpgnaaGreatDoorMg8
import Derived.Test.YtlechjpaldpgnaaGreatDoorMg1
import Derived.StillTailTactics
import Derived.Deep.MidRow
import Derived.Laws.AppendOwn
import Derived.Laws.OwnMore
import Derived.OwnWalk
import Derived.Deep.Cut
import Derived.Great.Walk
import Derived.Deep.RegionHeld3
import Derived.OrdersHeld
set_option maxRecDepth 100000
namespace Go.Proofs.YtlechjpaldpgnaaGreatDoor
open Go Go.RowKit Sh

theorem wpStill_load_mid {P : Program} {ops : Array Oper} {w : World} {Q : Act → Prop} {rest : List Oper} {o : Oper} {a : Act} (hgd : o.guard = none) (ty : TypeId) (x : Operand) (ho : o.op = .load ty x)
    (b off : Nat) (hx : a.eval x = .pointer (some ⟨b, off, none⟩)) (cs : List Value) (d : TypeDesc) (hc : w.rangeAt b off cs) (hu : P.underlying ty = some d) (hd : d.isRow = true) (hi : (P.info? ty).map (·.size) = some cs.length)
    (h : wpStill P ops w Q rest (a.put o.dst (.agg cs.toArray))) : wpStill P ops w Q (o :: rest) a := by
  refine wpStill_step fun K hK => ?_
  simp only [Region.wanted, hgd, if_true]
  unfold Oper.still execOp
  simp only [ho, hx, Instr.loadAt, Instr.sureAddr, Sem.run_bind, Sem.run_pure, Result.andThen_ok, run_loadVar_mid w b off ty cs d hc hu hd hi]
  rw [Oper.stillUpon_value]
  exact hK _ h

/-- The pair of two sums. -/
def pr (f g : Nat → UInt8) : Nat → UInt8 := sumF (pairL f g)
/-- Two by two. -/
def pairsD : List (Nat → UInt8) → List (Nat → UInt8)
  | f :: g :: r => pr f g :: pairsD r
  | l => l
theorem pairsD_length (l : List (Nat → UInt8)) : (pairsD l).length = (l.length + 1) / 2 := by
  match l with
  | [] => simp [pairsD]
  | [_] => simp [pairsD]
  | f :: g :: r =>
    have := pairsD_length r
    simp only [pairsD, List.length_cons]
    omega
theorem pairsD_append (l m : List (Nat → UInt8)) (h : l.length % 2 = 0) : pairsD (l ++ m) = pairsD l ++ pairsD m := by
  match l with
  | [] => rfl
  | [_] => simp at h
  | f :: g :: r =>
    have := pairsD_append r m (by simp only [List.length_cons] at h; omega)
    simp only [List.cons_append, pairsD, this]
/-- .. till there is one; so many times at most. -/
def treeF : Nat → List (Nat → UInt8) → (Nat → UInt8)
  | 0, l => l.headD fun _ => 0
  | k + 1, l => if l.length ≤ 1 then l.headD fun _ => 0 else treeF k (pairsD l)
def treeD (l : List (Nat → UInt8)) : Nat → UInt8 := treeF l.length l
theorem treeF_more (k : Nat) : ∀ (j : Nat) (l : List (Nat → UInt8)), l.length ≤ k + 1 → k ≤ j → treeF j l = treeF k l := by
  induction k with
  | zero =>
    intro j l hl _
    cases j with
    | zero => rfl
    | succ j => simp only [treeF]; rw [if_pos (by omega)]
  | succ k ih =>
    intro j l hl hj
    cases j with
    | zero => omega
    | succ j =>
      simp only [treeF]
      by_cases h : l.length ≤ 1
      · rw [if_pos h, if_pos h]
      · rw [if_neg h, if_neg h]
        exact ih j _ (by rw [pairsD_length]; omega) (by omega)
theorem treeD_one (f : Nat → UInt8) : treeD [f] = f := rfl
theorem treeD_step (l : List (Nat → UInt8)) (h : 1 < l.length) : treeD l = treeD (pairsD l) := by
  unfold treeD
  obtain ⟨k, hk⟩ : ∃ k, l.length = k + 1 := ⟨l.length - 1, by omega⟩
  rw [hk]
  simp only [treeF]
  rw [if_neg (by omega)]
  have hl := pairsD_length l
  exact treeF_more _ k _ (by omega) (by omega)
/-- A tree is made of trees. -/
theorem treeD_join (s : Nat) : ∀ l m : List (Nat → UInt8), l.length = 2 ^ s → 0 < m.length → m.length ≤ 2 ^ s → treeD (l ++ m) = pr (treeD l) (treeD m) := by
  induction s with
  | zero =>
    intro l m hl h0 h1
    match l, hl with
    | [f], _ =>
      match m, h0, h1 with
      | [g], _, _ => rw [List.singleton_append, treeD_step _ (by simp)]; rfl
      | _ :: _ :: _, _, h1 => simp at h1
  | succ s ih =>
    intro l m hl h0 h1
    have h2 : (2 : Nat) ^ (s + 1) = 2 * 2 ^ s := by rw [Nat.pow_succ]; omega
    have hp : 0 < (2 : Nat) ^ s := Nat.pow_pos (by omega)
    have hlp := pairsD_length l
    have hmp := pairsD_length m
    rw [treeD_step _ (by rw [List.length_append]; omega), pairsD_append _ _ (by omega), ih _ _ (by omega) (by omega) (by omega), ← treeD_step l (by omega)]
    by_cases h : 1 < m.length
    · rw [← treeD_step m h]
    · match m, h0, h with
      | [g], _, _ => rfl
      | _ :: _ :: _, _, h => simp at h
/-- Sums as cells, one behind the other. -/
def dcells (l : List (Nat → UInt8)) : List Value := l.flatMap fun f => (digF f).toList
theorem digF_len (f : Nat → UInt8) : (digF f).toList.length = 32 := by rw [Array.length_toList]; exact vals_size 32 _
theorem dcells_length (l : List (Nat → UInt8)) : (dcells l).length = 32 * l.length := by
  induction l with
  | nil => rfl
  | cons f r ih => unfold dcells at *; rw [List.flatMap_cons, List.length_append, ih, digF_len, List.length_cons]; omega
theorem dcells_append (l m : List (Nat → UInt8)) : dcells (l ++ m) = dcells l ++ dcells m := by unfold dcells; rw [List.flatMap_append]
theorem dcells_one (l : List (Nat → UInt8)) : ∀ u ∈ dcells l, u.oneCell' = true := by
  intro u hu
  unfold dcells at hu
  obtain ⟨f, _, hf⟩ := List.mem_flatMap.1 hu
  exact (Array.all_eq_true_iff_forall_mem.1 (hoDig f)) u (by simpa using hf)
theorem dcells_at (l : List (Nat → UInt8)) : ∀ (i j : Nat) (hi : i < l.length), j < 32 → (dcells l)[i * 32 + j]? = (digF l[i]).toList[j]? := by
  induction l with
  | nil => intro i j hi; cases hi
  | cons f r ih =>
    intro i j hi hj
    have hc : dcells (f :: r) = (digF f).toList ++ dcells r := by unfold dcells; rw [List.flatMap_cons]
    rw [hc]
    cases i with
    | zero => rw [Nat.zero_mul, Nat.zero_add, List.getElem?_append_left (by rw [digF_len]; exact hj)]; rfl
    | succ i =>
      rw [List.getElem?_append_right (by rw [digF_len]; omega), digF_len, show (i + 1) * 32 + j - 32 = i * 32 + j by omega]
      exact ih i j (by simpa using hi) hj
/-- The sums of a row lie in its cells. -/
def DigsAt (w : World) (b o : Nat) (l : List (Nat → UInt8)) : Prop := ∀ j u, (dcells l)[j]? = some u → w.cell? ⟨b, o + j, none⟩ = some u
theorem DigsAt.head {w : World} {b o : Nat} {f : Nat → UInt8} {r : List (Nat → UInt8)} (h : DigsAt w b o (f :: r)) : w.rangeAt b o (digF f).toList := fun j v hj => by
  have hjl : j < 32 := by have := (List.getElem?_eq_some_iff.1 hj).1; rwa [digF_len] at this
  refine h j v ?_
  have hc : dcells (f :: r) = (digF f).toList ++ dcells r := by unfold dcells; rw [List.flatMap_cons]
  rw [hc, List.getElem?_append_left (by rw [digF_len]; exact hjl)]
  exact hj
theorem DigsAt.tail {w : World} {b o : Nat} {f : Nat → UInt8} {r : List (Nat → UInt8)} (h : DigsAt w b o (f :: r)) : DigsAt w b (o + 32) r := fun j u hj => by
  have hc : dcells (f :: r) = (digF f).toList ++ dcells r := by unfold dcells; rw [List.flatMap_cons]
  have := h (32 + j) u (by rw [hc, List.getElem?_append_right (by rw [digF_len]; omega), digF_len, Nat.add_sub_cancel_left]; exact hj)
  rwa [show o + (32 + j) = o + 32 + j by omega] at this
theorem DigsAt.keep {w w' : World} {b o B : Nat} {l : List (Nat → UInt8)} (h : DigsAt w b o l) (hb : Below B w w') (hlt : b < B) : DigsAt w' b o l := fun j u hj => (hb.cell (p := ⟨b, o + j, none⟩) hlt).trans (h j u hj)
end Go.Proofs.YtlechjpaldpgnaaGreatDoor
namespace Go.Proofs.YtlechjpaldpgnaaGreatDoor
open Go.ChangeShapes Go.WideShapes Go.ChangeAt Go.RowKit Sh

theorem infoD : (Tryz.prog.info? 24).map (fun i => (i.zero, i.size, i.bytes)) = some (some (.agg (digF fun _ => 0)), 32, 32) := by kernel_rfl
theorem dgOneS (f : Nat → UInt8) : Tryz.prog.builtSlice 24 1 [(0, .agg (digF f))] = some (digF f) := by kernel_rfl
theorem pairsD_nil : pairsD [] = [] := by simp [pairsD]
theorem pairsD_one (f : Nat → UInt8) : pairsD [f] = [f] := by simp [pairsD]
theorem pairsD_two (f g : Nat → UInt8) (r : List (Nat → UInt8)) : pairsD (f :: g :: r) = pr f g :: pairsD r := by simp only [pairsD]

theorem wpList_sliceOne {P : Program} {ops : Array Oper} {rest : List Oper} {o : Oper} {a : Act} {w : World} {Q : Exit → Act → World → Prop} (hg : o.guard = none) (t e : TypeId) (x : Operand) (ho : o.op = .buildSlice t 1 #[(0, x)])
    (dst : Option Tmp) (hdst : o.dst = dst) (hu : P.underlying t = some (.slice e)) (cells : Array Value) (hx : a.eval x = .agg cells) (hf : P.builtSlice e 1 [(0, .agg cells)] = some cells)
    (h : wpList P ops Q rest (a.put dst (.slice (some ⟨w.heap.size, 0, none⟩) 1 1)) (w.alloc (.cells cells e))) : wpList P ops Q (o :: rest) a w :=
  Great.wpList_buildSliceTo hg t e 1 #[(0, x)] ho _ rfl dst hdst hu cells (by
    have e : ((#[(0, x)] : Array (Nat × Operand)).map fun (i, y) => (i, a.eval y)).toList = [(0, a.eval x)] := by simp
    rw [e, hx]
    exact hf) h
theorem wp_sliceOne {P : Program} {o : Oper} {a : Act} {w : World} {K : Act → World → Prop} {Q : Exit → Act → World → Prop} (t e : TypeId) (x : Operand) (ho : o.op = .buildSlice t 1 #[(0, x)])
    (dst : Option Tmp) (hdst : o.dst = dst) (hu : P.underlying t = some (.slice e)) (cells : Array Value) (hx : a.eval x = .agg cells) (hf : P.builtSlice e 1 [(0, .agg cells)] = some cells)
    (h : K (a.put dst (.slice (some ⟨w.heap.size, 0, none⟩) 1 1)) (w.alloc (.cells cells e))) : o.wp P a w K Q := by
  subst hdst
  have ee : ((#[(0, x)] : Array (Nat × Operand)).map fun (i, y) => (i, a.eval y)).toList = [(0, .agg cells)] := by simp [hx]
  unfold Program.builtSlice at hf
  cases hie : P.info? e with
  | none => simp [hie] at hf
  | some ie =>
    simp only [hie] at hf
    cases hz : ie.zero with
    | none => simp [hz] at hf
    | some z =>
      simp only [hz] at hf
      by_cases hc : 1 * ie.size > 2 ^ 24 ∨ 1 * ie.size = 0
      · rw [if_pos hc] at hf; cases hf
      · rw [if_neg hc] at hf
        exact wp_buildSlice t e 1 #[(0, x)] ho cells ie z hu hie hz (fun h' => hc (Or.inl h')) (fun h' => hc (Or.inr h')) (by rw [ee]; exact hf) h
theorem own_below {w w' : World} {base : Nat} {e : TypeId} {size n : Nat} {v : Value} {xs : List Value} (h : w.ownsRow base e size v n xs) (hb : Below w.heap.size w w') : w'.ownsRow base e size v n xs := by
  refine ⟨h.1, ?_⟩
  rcases h.2 with hn | ⟨g, cap, cur, hv, hg0, hg, r⟩
  · exact .inl hn
  · exact .inr ⟨g, cap, cur, hv, hg0, (hb.block g (Array.getElem?_eq_some_iff.1 hg).1).trans hg, r⟩
theorem own_form {w : World} {base : Nat} {e : TypeId} {size n : Nat} {v : Value} {xs : List Value} (h : w.ownsRow base e size v n xs) (hv : v ≠ .slice none 0 0) : ∃ g cap, v = .slice (some ⟨g, 0, none⟩) n cap ∧ base ≤ g := by
  rcases h.2 with ⟨hn, _⟩ | ⟨g, cap, cur, rfl, hb, _⟩
  · exact absurd hn hv
  · exact ⟨g, cap, rfl, hb⟩
/-- A new row of sums. -/
def DigRow (w : World) (l : List (Nat → UInt8)) (e : Ending) (w' : World) : Prop :=
  ∃ g c, e = .returned (.slice (some ⟨g, 0, none⟩) l.length c) ∧ l.length ≤ c ∧ w.heap.size ≤ g ∧ g < w'.heap.size ∧ DigsAt w' g 0 l ∧ Below w.heap.size w w'

theorem digRow_own {w w' : World} {l : List (Nat → UInt8)} {v : Value} (h : w'.ownsRow w.heap.size 24 32 v l.length (dcells l)) (hv : v ≠ .slice none 0 0) (hb : Below w.heap.size w w') : DigRow w l (.returned v) w' := by
  rcases h.2 with ⟨hn, _⟩ | ⟨g, cap, cur, rfl, hg0, hg, r⟩
  · exact absurd hn hv
  · refine ⟨g, cap, rfl, r.1, hg0, (Array.getElem?_eq_some_iff.1 hg).1, ?_, hb⟩
    obtain ⟨_, _, hc, ht⟩ := r
    intro j u hj
    rw [Nat.zero_add, cell_of_row _ _ _ _ _ _ hg]
    have hlt := (List.getElem?_eq_some_iff.1 hj).1
    rw [h.1] at hlt
    rw [← ht, List.getElem?_take_of_lt hlt] at hj
    rw [← hj, Array.getElem?_toList]

end Go.Proofs.YtlechjpaldpgnaaGreatDoor
namespace Go.Proofs.YtlechjpaldpgnaaGreatDoor
open Go.ChangeShapes Go.WideShapes Go.ChangeAt Go.RowKit Sh

end Go.Proofs.YtlechjpaldpgnaaGreatDoor
namespace Go.Proofs.YtlechjpaldpgnaaGreatDoor
open Go Go.RowKit

theorem wpAnyH_takeAt {P : Program} {md : Region.Mode} {ops : Array Oper} {Q : Exit → Act → World → Prop} {S : World → Prop} {i : Nat} {oi : Oper} {v : Value} {fuel : Nat} {listed : Array Bool} {a : Act} {w : World} (d : Tmp) (hi : ops[i]? = some oi) (hd : oi.dst = some d)
    (hs : Region.noSelect ops = true) (hf : Region.free md ops listed i = true) (hr : (Region.ready md ops listed).contains i = true)
    (hQ : ∀ c a w, Q (.panic c) (a.put (some d) v) w → Q (.panic c) a w) (hy : YieldsIf P ops S oi v a) (hS : S w)
    (h : wpAnyH P md ops Q S fuel (listed.setIfInBounds i true) (a.put (some d) v) w) : wpAnyH P md ops Q S (fuel + 1) listed a w := by
  refine wpAnyH_take hi hs hf hr ?_ hy hS ?_
  · rw [hd]; exact hQ
  · rw [hd]; exact h
end Go.Proofs.YtlechjpaldpgnaaGreatDoor
