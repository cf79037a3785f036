/-
  Trees of sums in plain words; and a load of a whole row in a region that draws its order. No program here. No conditions.
  The program's sums (package sha): a row of sums, two by two. Conditions: both tables lie as the program's text lays them; the sums lie where it looks; at most a thousand.
  The program's sums (package sha): the tree of a row of sums. Conditions: both tables lie as the program's text lays them; the sums lie where it looks; at least one, at most a thousand.
  In a region that draws its order: an operation taken first, its slot told: what stands in the slots is reckoned at once. No program here. No conditions.
-/
import Derived.Test.YtgdckpldbofgfaaDoorMg8
import Derived.Test.YtgdckpldbofgfaaDoorMg9
import Derived.Test.YtgdckpldbofgfaaDoorMg1
import Derived.StillTailTactics
import Derived.Deep.MidRow
import Derived.Laws.AppendOwn
import Derived.Laws.OwnMore
import Derived.OwnWalk
import Derived.Deep.Cut
import Derived.Great.Walk
import Derived.Deep.RegionHeld3
import Derived.OrdersHeld
set_option maxRecDepth 100000
namespace Go.Proofs.YtgdckpldbofgfaaDoor
open Go Go.RowKit Sh

theorem wpStill_load_mid {P : Program} {ops : Array Oper} {w : World} {Q : Act → Prop} {rest : List Oper} {o : Oper} {a : Act} (hgd : o.guard = none) (ty : TypeId) (x : Operand) (ho : o.op = .load ty x)
    (b off : Nat) (hx : a.eval x = .pointer (some ⟨b, off, none⟩)) (cs : List Value) (d : TypeDesc) (hc : w.rangeAt b off cs) (hu : P.underlying ty = some d) (hd : d.isRow = true) (hi : (P.info? ty).map (·.size) = some cs.length)
    (h : wpStill P ops w Q rest (a.put o.dst (.agg cs.toArray))) : wpStill P ops w Q (o :: rest) a := by
  refine wpStill_step fun K hK => ?_
  simp only [Region.wanted, hgd, if_true]
  unfold Oper.still execOp
  simp only [ho, hx, Instr.loadAt, Instr.sureAddr, Sem.run_bind, Sem.run_pure, Result.andThen_ok, run_loadVar_mid w b off ty cs d hc hu hd hi]
  rw [Oper.stillUpon_value]
  exact hK _ h

/-- The pair of two sums. -/
def pr (f g : Nat → UInt8) : Nat → UInt8 := sumF (pairL f g)
/-- Two by two. -/
def pairsD : List (Nat → UInt8) → List (Nat → UInt8)
  | f :: g :: r => pr f g :: pairsD r
  | l => l
theorem pairsD_length (l : List (Nat → UInt8)) : (pairsD l).length = (l.length + 1) / 2 := by
  match l with
  | [] => simp [pairsD]
  | [_] => simp [pairsD]
  | f :: g :: r =>
    have := pairsD_length r
    simp only [pairsD, List.length_cons]
    omega
theorem pairsD_append (l m : List (Nat → UInt8)) (h : l.length % 2 = 0) : pairsD (l ++ m) = pairsD l ++ pairsD m := by
  match l with
  | [] => rfl
  | [_] => simp at h
  | f :: g :: r =>
    have := pairsD_append r m (by simp only [List.length_cons] at h; omega)
    simp only [List.cons_append, pairsD, this]
/-- .. till there is one; so many times at most. -/
def treeF : Nat → List (Nat → UInt8) → (Nat → UInt8)
  | 0, l => l.headD fun _ => 0
  | k + 1, l => if l.length ≤ 1 then l.headD fun _ => 0 else treeF k (pairsD l)
def treeD (l : List (Nat → UInt8)) : Nat → UInt8 := treeF l.length l
theorem treeF_more (k : Nat) : ∀ (j : Nat) (l : List (Nat → UInt8)), l.length ≤ k + 1 → k ≤ j → treeF j l = treeF k l := by
  induction k with
  | zero =>
    intro j l hl _
    cases j with
    | zero => rfl
    | succ j => simp only [treeF]; rw [if_pos (by omega)]
  | succ k ih =>
    intro j l hl hj
    cases j with
    | zero => omega
    | succ j =>
      simp only [treeF]
      by_cases h : l.length ≤ 1
      · rw [if_pos h, if_pos h]
      · rw [if_neg h, if_neg h]
        exact ih j _ (by rw [pairsD_length]; omega) (by omega)
theorem treeD_one (f : Nat → UInt8) : treeD [f] = f := rfl
theorem treeD_step (l : List (Nat → UInt8)) (h : 1 < l.length) : treeD l = treeD (pairsD l) := by
  unfold treeD
  obtain ⟨k, hk⟩ : ∃ k, l.length = k + 1 := ⟨l.length - 1, by omega⟩
  rw [hk]
  simp only [treeF]
  rw [if_neg (by omega)]
  have hl := pairsD_length l
  exact treeF_more _ k _ (by omega) (by omega)
/-- A tree is made of trees. -/
theorem treeD_join (s : Nat) : ∀ l m : List (Nat → UInt8), l.length = 2 ^ s → 0 < m.length → m.length ≤ 2 ^ s → treeD (l ++ m) = pr (treeD l) (treeD m) := by
  induction s with
  | zero =>
    intro l m hl h0 h1
    match l, hl with
    | [f], _ =>
      match m, h0, h1 with
      | [g], _, _ => rw [List.singleton_append, treeD_step _ (by simp)]; rfl
      | _ :: _ :: _, _, h1 => simp at h1
  | succ s ih =>
    intro l m hl h0 h1
    have h2 : (2 : Nat) ^ (s + 1) = 2 * 2 ^ s := by rw [Nat.pow_succ]; omega
    have hp : 0 < (2 : Nat) ^ s := Nat.pow_pos (by omega)
    have hlp := pairsD_length l
    have hmp := pairsD_length m
    rw [treeD_step _ (by rw [List.length_append]; omega), pairsD_append _ _ (by omega), ih _ _ (by omega) (by omega) (by omega), ← treeD_step l (by omega)]
    by_cases h : 1 < m.length
    · rw [← treeD_step m h]
    · match m, h0, h with
      | [g], _, _ => rfl
      | _ :: _ :: _, _, h => simp at h
/-- Sums as cells, one behind the other. -/
def dcells (l : List (Nat → UInt8)) : List Value := l.flatMap fun f => (digF f).toList
theorem digF_len (f : Nat → UInt8) : (digF f).toList.length = 32 := by rw [Array.length_toList]; exact vals_size 32 _
theorem dcells_length (l : List (Nat → UInt8)) : (dcells l).length = 32 * l.length := by
  induction l with
  | nil => rfl
  | cons f r ih => unfold dcells at *; rw [List.flatMap_cons, List.length_append, ih, digF_len, List.length_cons]; omega
theorem dcells_append (l m : List (Nat → UInt8)) : dcells (l ++ m) = dcells l ++ dcells m := by unfold dcells; rw [List.flatMap_append]
theorem dcells_one (l : List (Nat → UInt8)) : ∀ u ∈ dcells l, u.oneCell' = true := by
  intro u hu
  unfold dcells at hu
  obtain ⟨f, _, hf⟩ := List.mem_flatMap.1 hu
  exact (Array.all_eq_true_iff_forall_mem.1 (hoDig f)) u (by simpa using hf)
theorem dcells_at (l : List (Nat → UInt8)) : ∀ (i j : Nat) (hi : i < l.length), j < 32 → (dcells l)[i * 32 + j]? = (digF l[i]).toList[j]? := by
  induction l with
  | nil => intro i j hi; cases hi
  | cons f r ih =>
    intro i j hi hj
    have hc : dcells (f :: r) = (digF f).toList ++ dcells r := by unfold dcells; rw [List.flatMap_cons]
    rw [hc]
    cases i with
    | zero => rw [Nat.zero_mul, Nat.zero_add, List.getElem?_append_left (by rw [digF_len]; exact hj)]; rfl
    | succ i =>
      rw [List.getElem?_append_right (by rw [digF_len]; omega), digF_len, show (i + 1) * 32 + j - 32 = i * 32 + j by omega]
      exact ih i j (by simpa using hi) hj
/-- The sums of a row lie in its cells. -/
def DigsAt (w : World) (b o : Nat) (l : List (Nat → UInt8)) : Prop := ∀ j u, (dcells l)[j]? = some u → w.cell? ⟨b, o + j, none⟩ = some u
theorem DigsAt.head {w : World} {b o : Nat} {f : Nat → UInt8} {r : List (Nat → UInt8)} (h : DigsAt w b o (f :: r)) : w.rangeAt b o (digF f).toList := fun j v hj => by
  have hjl : j < 32 := by have := (List.getElem?_eq_some_iff.1 hj).1; rwa [digF_len] at this
  refine h j v ?_
  have hc : dcells (f :: r) = (digF f).toList ++ dcells r := by unfold dcells; rw [List.flatMap_cons]
  rw [hc, List.getElem?_append_left (by rw [digF_len]; exact hjl)]
  exact hj
theorem DigsAt.tail {w : World} {b o : Nat} {f : Nat → UInt8} {r : List (Nat → UInt8)} (h : DigsAt w b o (f :: r)) : DigsAt w b (o + 32) r := fun j u hj => by
  have hc : dcells (f :: r) = (digF f).toList ++ dcells r := by unfold dcells; rw [List.flatMap_cons]
  have := h (32 + j) u (by rw [hc, List.getElem?_append_right (by rw [digF_len]; omega), digF_len, Nat.add_sub_cancel_left]; exact hj)
  rwa [show o + (32 + j) = o + 32 + j by omega] at this
theorem DigsAt.keep {w w' : World} {b o B : Nat} {l : List (Nat → UInt8)} (h : DigsAt w b o l) (hb : Below B w w') (hlt : b < B) : DigsAt w' b o l := fun j u hj => (hb.cell (p := ⟨b, o + j, none⟩) hlt).trans (h j u hj)
end Go.Proofs.YtgdckpldbofgfaaDoor
namespace Go.Proofs.YtgdckpldbofgfaaDoor
open Go.ChangeShapes Go.WideShapes Go.ChangeAt Go.RowKit Sh

theorem infoD : (Tryd.prog.info? 24).map (fun i => (i.zero, i.size, i.bytes)) = some (some (.agg (digF fun _ => 0)), 32, 32) := by kernel_rfl
theorem dgOneS (f : Nat → UInt8) : Tryd.prog.builtSlice 24 1 [(0, .agg (digF f))] = some (digF f) := by kernel_rfl
theorem pairsD_nil : pairsD [] = [] := by simp [pairsD]
theorem pairsD_one (f : Nat → UInt8) : pairsD [f] = [f] := by simp [pairsD]
theorem pairsD_two (f g : Nat → UInt8) (r : List (Nat → UInt8)) : pairsD (f :: g :: r) = pr f g :: pairsD r := by simp only [pairsD]

theorem wpList_sliceOne {P : Program} {ops : Array Oper} {rest : List Oper} {o : Oper} {a : Act} {w : World} {Q : Exit → Act → World → Prop} (hg : o.guard = none) (t e : TypeId) (x : Operand) (ho : o.op = .buildSlice t 1 #[(0, x)])
    (dst : Option Tmp) (hdst : o.dst = dst) (hu : P.underlying t = some (.slice e)) (cells : Array Value) (hx : a.eval x = .agg cells) (hf : P.builtSlice e 1 [(0, .agg cells)] = some cells)
    (h : wpList P ops Q rest (a.put dst (.slice (some ⟨w.heap.size, 0, none⟩) 1 1)) (w.alloc (.cells cells e))) : wpList P ops Q (o :: rest) a w :=
  Great.wpList_buildSliceTo hg t e 1 #[(0, x)] ho _ rfl dst hdst hu cells (by
    have e : ((#[(0, x)] : Array (Nat × Operand)).map fun (i, y) => (i, a.eval y)).toList = [(0, a.eval x)] := by simp
    rw [e, hx]
    exact hf) h
theorem wp_sliceOne {P : Program} {o : Oper} {a : Act} {w : World} {K : Act → World → Prop} {Q : Exit → Act → World → Prop} (t e : TypeId) (x : Operand) (ho : o.op = .buildSlice t 1 #[(0, x)])
    (dst : Option Tmp) (hdst : o.dst = dst) (hu : P.underlying t = some (.slice e)) (cells : Array Value) (hx : a.eval x = .agg cells) (hf : P.builtSlice e 1 [(0, .agg cells)] = some cells)
    (h : K (a.put dst (.slice (some ⟨w.heap.size, 0, none⟩) 1 1)) (w.alloc (.cells cells e))) : o.wp P a w K Q := by
  subst hdst
  have ee : ((#[(0, x)] : Array (Nat × Operand)).map fun (i, y) => (i, a.eval y)).toList = [(0, .agg cells)] := by simp [hx]
  unfold Program.builtSlice at hf
  cases hie : P.info? e with
  | none => simp [hie] at hf
  | some ie =>
    simp only [hie] at hf
    cases hz : ie.zero with
    | none => simp [hz] at hf
    | some z =>
      simp only [hz] at hf
      by_cases hc : 1 * ie.size > 2 ^ 24 ∨ 1 * ie.size = 0
      · rw [if_pos hc] at hf; cases hf
      · rw [if_neg hc] at hf
        exact wp_buildSlice t e 1 #[(0, x)] ho cells ie z hu hie hz (fun h' => hc (Or.inl h')) (fun h' => hc (Or.inr h')) (by rw [ee]; exact hf) h
theorem own_below {w w' : World} {base : Nat} {e : TypeId} {size n : Nat} {v : Value} {xs : List Value} (h : w.ownsRow base e size v n xs) (hb : Below w.heap.size w w') : w'.ownsRow base e size v n xs := by
  refine ⟨h.1, ?_⟩
  rcases h.2 with hn | ⟨g, cap, cur, hv, hg0, hg, r⟩
  · exact .inl hn
  · exact .inr ⟨g, cap, cur, hv, hg0, (hb.block g (Array.getElem?_eq_some_iff.1 hg).1).trans hg, r⟩
theorem own_form {w : World} {base : Nat} {e : TypeId} {size n : Nat} {v : Value} {xs : List Value} (h : w.ownsRow base e size v n xs) (hv : v ≠ .slice none 0 0) : ∃ g cap, v = .slice (some ⟨g, 0, none⟩) n cap ∧ base ≤ g := by
  rcases h.2 with ⟨hn, _⟩ | ⟨g, cap, cur, rfl, hb, _⟩
  · exact absurd hn hv
  · exact ⟨g, cap, rfl, hb⟩
/-- A new row of sums. -/
def DigRow (w : World) (l : List (Nat → UInt8)) (e : Ending) (w' : World) : Prop :=
  ∃ g c, e = .returned (.slice (some ⟨g, 0, none⟩) l.length c) ∧ l.length ≤ c ∧ w.heap.size ≤ g ∧ g < w'.heap.size ∧ DigsAt w' g 0 l ∧ Below w.heap.size w w'

theorem digRow_own {w w' : World} {l : List (Nat → UInt8)} {v : Value} (h : w'.ownsRow w.heap.size 24 32 v l.length (dcells l)) (hv : v ≠ .slice none 0 0) (hb : Below w.heap.size w w') : DigRow w l (.returned v) w' := by
  rcases h.2 with ⟨hn, _⟩ | ⟨g, cap, cur, rfl, hg0, hg, r⟩
  · exact absurd hn hv
  · refine ⟨g, cap, rfl, r.1, hg0, (Array.getElem?_eq_some_iff.1 hg).1, ?_, hb⟩
    obtain ⟨_, _, hc, ht⟩ := r
    intro j u hj
    rw [Nat.zero_add, cell_of_row _ _ _ _ _ _ hg]
    have hlt := (List.getElem?_eq_some_iff.1 hj).1
    rw [h.1] at hlt
    rw [← ht, List.getElem?_take_of_lt hlt] at hj
    rw [← hj, Array.getElem?_toList]

set_option maxRecDepth 100000 in
set_option maxHeartbeats 3200000 in
theorem pairs_any (w : World) (L : List (Nat → UInt8)) (pb po n cap : Nat) (hn : n = L.length) (hn0 : 0 < n) (hnb : n ≤ 1000) (hnc : n ≤ cap) (hT : Tabs w) (hA : DigsAt w pb po L) :
    Calls Tryd.prog 53 #[.slice (some ⟨pb, po, none⟩) n cap] w (DigRow w (pairsD L)) := by
  have hpb : pb < w.heap.size := block_lt_of_cell (hA 0 ((dcells L)[0]'(by rw [dcells_length]; omega)) (List.getElem?_eq_getElem _))
  have HA := Lib.hid hA
  have HT := Lib.hid hT
  have HL := Lib.hid hn
  obtain ⟨i0, hi, hz0, hz1, hz2⟩ := info_parts infoD
  have HI := Lib.hid hi
  have HZ0 := Lib.hid hz0
  have HZ1 := Lib.hid hz1
  have HZ2 := Lib.hid hz2
  have HZS := Lib.hid (show (Value.agg (digF fun _ => 0)).cells.size = 32 from vals_size 32 _)
  clear hA hT hn hi hz0 hz1 hz2
  have e1 : IntKind.i64.wrap ((n : Int) + 1) = (n : Int) + 1 := IntWalk.i64_in _ (by omega)
  have e2 : ((n : Int) + 1) / 2 = (((n + 1) / 2 : Nat) : Int) := by omega
  have e3 : ((n : Int) + 1).tdiv 2 = (((n + 1) / 2 : Nat) : Int) := by rw [Int.tdiv_eq_ediv_of_nonneg (by omega)]; exact e2
  obtain ⟨N, hN⟩ : ∃ N, N = (n + 1) / 2 := ⟨_, rfl⟩
  rw [← hN] at e2 e3
  have HNN := Lib.hid hN
  have hNb : N ≤ 1000 := by omega
  clear hN
  go_enter Tryd.func53, Tryd.ntmps53
  go_wp2_with (at_make; refine wpList_make_own _ rfl _ _ 22 rfl w.heap.size 24 i0 _ 32 Tryd.underlying22 HI.out HZ0.out HZ1.out .i64 .i64 _ N rfl rfl (by first | exact e2 | exact e3 | omega) (by rw [HZ2.out]; omega) (by unfold maxLen; omega) (Nat.le_refl _) ?_; intro w1 hown hg1)
  have hb1 : Below w.heap.size w w1 := (Below.refl _ _).grown hg1 (Nat.le_refl _) (fun k hk => by cases hk)
  have HB1 := Lib.hid hb1
  have HW1 := Lib.hid hown
  clear hg1 hb1 hown e1 e2 e3
  go_loopw [0, 3] (fun row v wr => ∃ (M R : List (Nat → UInt8)) (off c : Nat) (g cv : Nat), row = .slice (some ⟨pb, off, none⟩) R.length c ∧ R.length ≤ c ∧ v = .slice (some ⟨g, 0, none⟩) M.length cv ∧ pairsD L = M ++ pairsD R ∧ R.length ≤ n ∧ M.length ≤ N ∧ (0 < R.length → DigsAt w pb off R) ∧ wr.ownsRow w.heap.size 24 32 v M.length (dcells M) ∧ Below w.heap.size w wr) (fun row _ _ => match row with | .slice _ l _ => l | _ => 0)
  case atStart =>
    exact ⟨[], L, po, cap, w.heap.size, N, by rw [HL.out], by rw [← HL.out]; exact hnc, rfl, rfl, by rw [HL.out]; exact Nat.le_refl _, Nat.zero_le _, fun _ => HA.out, HW1.out, HB1.out⟩
  case round =>
    clear HW1 HB1
    obtain ⟨M, R, off, c, g, cv, rfl, hRc, rfl, hsp, hRn, hMN, hat, hown, hb⟩ := hrel
    have HSP := Lib.hid hsp
    have HAT := Lib.hid hat
    have HOW := Lib.hid hown
    have HB := Lib.hid hb
    clear hsp hat hown hb
    have hw0 := HB.out.size
    by_cases hR1 : R.length ≤ 1
    · have hPR : pairsD R = R := by
        match R, hR1 with
        | [], _ => exact pairsD_nil
        | [f], _ => exact pairsD_one f
        | _ :: _ :: _, h => exact absurd h (by simp)
      have hsp2 : M ++ R = pairsD L := by rw [HSP.out, hPR]
      have hat2 : DigsAt wr pb off R := by
        by_cases h0 : 0 < R.length
        · exact (HAT.out h0).keep HB.out hpb
        · have : R = [] := List.length_eq_zero_iff.1 (by omega)
          subst this
          intro j u hj
          simp [dcells] at hj
      have HA2 := Lib.hid hat2
      have HDL := Lib.hid (show (dcells R).length = R.length * 32 by rw [dcells_length]; omega)
      have HDO := Lib.hid (show ∀ u ∈ dcells R, u.oneCell' = true from dcells_one R)
      have HRT := Lib.hid (show ∀ (w' : World) (v : Value), w'.ownsRow w.heap.size 24 32 v (M.length + R.length) (dcells M ++ dcells R) → v ≠ .slice none 0 0 → Below w.heap.size w w' → DigRow w (pairsD L) (.returned v) w' from fun w' v ho hv hb => by
        rw [← dcells_append, hsp2] at ho
        have hl : M.length + R.length = (pairsD L).length := by rw [← hsp2, List.length_append]
        rw [hl] at ho
        exact digRow_own ho hv hb)
      obtain ⟨ds, hds⟩ : ∃ ds, ds = dcells R := ⟨_, rfl⟩
      obtain ⟨k, hk⟩ : ∃ k, k = R.length := ⟨_, rfl⟩
      rw [← hds, ← hk] at HDL HRT
      rw [← hds] at HDO
      have HNW := Lib.hid (show ∀ (j : Nat) (u : Value), ds[j]? = some u → wr.cell? ((⟨pb, off, none⟩ : Addr).add j) = some u from fun j u hj => by rw [Addr.add_lit]; exact HA2.out j u (by rw [← hds]; exact hj))
      rw [← hk] at hR1 hRc hRn ⊢
      clear hds hk HA2 hat2 hsp2 hPR HAT HSP
      have x0 : ¬ (1 : Int) < (k : Int) := by omega
      have x1 : decide ((1 : Int) < (k : Int)) = false := decide_eq_false x0
      go_wp2_with (refine wpList_append_own _ rfl (.tmp 24) (.tmp 25) 22 rfl w.heap.size 24 i0 _ 32 32 Tryd.underlying22 HI.out HZ0.out HZ1.out HZ2.out HZS.out (by omega) (.slice (some ⟨g, 0, none⟩) M.length cv) M.length (dcells M) rfl HOW.out ⟨pb, off, none⟩ k c ds rfl HDL.out HNW.out HDO.out (by unfold maxLen; omega) (by omega) HB.out.size ?_; intro v9 w9 hown9 hg9 hnil; obtain ⟨g9, c9, rfl, hg9b⟩ := own_form hown9 (fun h' => by have := (hnil.1 h').1; simp at this))
      have hgb : w.heap.size ≤ g := by
        obtain ⟨g', c', h1, h2⟩ := own_form HOW.out (by simp)
        cases h1
        exact h2
      go_wp2
      refine bodyPost_ret (results_tmp rfl _ _ _) rfl ?_
      exact HRT.out w9 _ hown9 (by simp) (HB.out.grown hg9 HB.out.size (fun k hk => by
        have : k = g := by simpa [Value.ownBlock] using hk.symm
        omega))
    match R, hR1 with
    | f :: h :: R', _ =>
      have hra := HAT.out (by simp)
      have hrb := hra.keep HB.out hpb
      have HR0 := Lib.hid (show wr.drew.rangeAt pb off (digF f).toList from hrb.head)
      have HR1 := Lib.hid (show wr.drew.rangeAt pb (off + 32) (digF h).toList from hrb.tail.head)
      have HTA := Lib.hid hra.tail.tail
      have HIF := Lib.hid (show (Tryd.prog.info? 24).map (·.size) = some (digF f).toList.length by rw [Array.length_toList]; exact hiDigF f)
      have HIH := Lib.hid (show (Tryd.prog.info? 24).map (·.size) = some (digF h).toList.length by rw [Array.length_toList]; exact hiDigF h)
      have hsp2 : pairsD L = (M ++ [pr f h]) ++ pairsD R' := by rw [HSP.out, pairsD_two, List.append_assoc]; rfl
      have HSP2 := Lib.hid hsp2
      have hlen : (M ++ [pr f h]).length = M.length + 1 := by simp
      have hN2 : M.length + 1 ≤ N := by
        have h1 := congrArg List.length hsp2
        rw [pairsD_length, List.length_append, hlen, ← HL.out, ← HNN.out] at h1
        omega
      have HKP := Lib.hid (show ∀ W : World, Below w.heap.size w W → W.rangeAt pb off (digF f).toList ∧ W.rangeAt pb (off + 32) (digF h).toList from fun W hW => ⟨(hra.keep hW hpb).head, (hra.keep hW hpb).tail.head⟩)
      clear hra hrb hsp2
      rw [show (f :: h :: R').length = R'.length + 2 from rfl] at hRc hRn ⊢
      have HDC := Lib.hid (show dcells (M ++ [pr f h]) = dcells M ++ (digF (pr f h)).toList by rw [dcells_append]; unfold dcells; simp)
      have HREL := Lib.hid (show ∀ (wz : World) (off' c' g' cv' : Nat), R'.length ≤ c' → (0 < R'.length → off' = off + 64) → wz.ownsRow w.heap.size 24 32 (.slice (some ⟨g', 0, none⟩) (M.length + 1) cv') (M.length + 1) (dcells (M ++ [pr f h])) → Below w.heap.size w wz →
          ∃ (K R : List (Nat → UInt8)) (off c : Nat) (g cv : Nat), Value.slice (some ⟨pb, off', none⟩) R'.length c' = .slice (some ⟨pb, off, none⟩) R.length c ∧ R.length ≤ c ∧ Value.slice (some ⟨g', 0, none⟩) (M.length + 1) cv' = .slice (some ⟨g, 0, none⟩) K.length cv ∧ pairsD L = K ++ pairsD R ∧ R.length ≤ n ∧ K.length ≤ N ∧ (0 < R.length → DigsAt w pb off R) ∧ wz.ownsRow w.heap.size 24 32 (.slice (some ⟨g', 0, none⟩) (M.length + 1) cv') K.length (dcells K) ∧ Below w.heap.size w wz from
        fun wz off' c' g' cv' h1 h2 h3 h4 => ⟨M ++ [pr f h], R', off', c', g', cv', rfl, h1, by rw [hlen], HSP2.out, by omega, by rw [hlen]; exact hN2, fun h0 => by rw [h2 h0]; exact HTA.out, by rw [hlen]; exact h3, h4⟩)
      generalize R'.length = r at hRc hRn HREL ⊢
      obtain ⟨q, hq⟩ : ∃ q, q = r + 2 := ⟨_, rfl⟩
      rw [← hq] at hRc hRn ⊢
      have HQ := Lib.hid hq
      have x0 : (0 : Int) < (q : Int) := by omega
      have x1 : (1 : Int) < (q : Int) := by omega
      have x2 : 0 < q := by omega
      have x3 : 1 < q := by omega
      clear hq
      go_wp2
      refine wp_region_held_drew (S := fun W : World => W.rangeAt pb off (digF f).toList ∧ W.rangeAt pb (off + 32) (digF h).toList) (by kernel_rfl) ⟨HR0.out, HR1.out⟩ (fun hHeld => ?_)
      refine wpAnyH_take (i := 0) (v := .slice (some ⟨g, 0, none⟩) M.length cv) rfl (by kernel_rfl) (by kernel_rfl) (by kernel_rfl) (fun _ _ _ h => h) (Or.inl ⟨by rfl, ?_⟩) hHeld ?_
      · intro W _
        go_simp
      simp only [Act.put]
      refine wpAnyH_take (i := 1) (v := .slice (some ⟨pb, off, none⟩) q c) rfl (by kernel_rfl) (by kernel_rfl) (by kernel_rfl) (fun _ _ _ h => h) (Or.inl ⟨by rfl, ?_⟩) hHeld ?_
      · intro W _
        go_simp
      simp only [Act.put]
      refine wpAnyH_take (i := 2) (v := .pointer (some ⟨pb, off, none⟩)) rfl (by kernel_rfl) (by kernel_rfl) (by kernel_rfl) (fun _ _ _ h => h) (Or.inl ⟨by rfl, ?_⟩) hHeld ?_
      · intro W _
        go_simp
      simp only [Act.put]
      refine wpAnyH_take (i := 3) (v := .agg (digF f).toList.toArray) rfl (by kernel_rfl) (by kernel_rfl) (by kernel_rfl) (fun _ _ _ h => h) (yieldsIf_load_mid (by rfl) 24 _ rfl pb off rfl (digF f).toList (.array 32 5) (fun W hW => hW.1) Tryd.underlying24 rfl HIF.out) hHeld ?_
      simp only [Act.put]
      refine wpAnyH_take (i := 4) (v := .slice (some ⟨pb, off, none⟩) q c) rfl (by kernel_rfl) (by kernel_rfl) (by kernel_rfl) (fun _ _ _ h => h) (Or.inl ⟨by rfl, ?_⟩) hHeld ?_
      · intro W _
        go_simp
      simp only [Act.put]
      refine wpAnyH_take (i := 5) (v := .pointer (some ⟨pb, off + 32, none⟩)) rfl (by kernel_rfl) (by kernel_rfl) (by kernel_rfl) (fun _ _ _ h => h) (Or.inl ⟨by rfl, ?_⟩) hHeld ?_
      · intro W _
        go_simp
      simp only [Act.put]
      refine wpAnyH_take (i := 6) (v := .agg (digF h).toList.toArray) rfl (by kernel_rfl) (by kernel_rfl) (by kernel_rfl) (fun _ _ _ h => h) (yieldsIf_load_mid (by rfl) 24 _ rfl pb (off + 32) rfl (digF h).toList (.array 32 5) (fun W hW => hW.2) Tryd.underlying24 rfl HIH.out) hHeld ?_
      simp only [Act.put]
      refine wpAnyH_ready (rs := [7]) (by kernel_rfl) (by simp) ?_
      refine AllReadyH.cons rfl (fun K hK => ?_) AllReadyH.nil
      go_simp
      have hbd := below_drewN HB.out 1
      change Below w.heap.size w wr.drew at hbd
      refine (pair_any f h wr.drew (HT.out.below hbd)).mono ?_
      rintro e w5 ⟨rfl, hb5⟩
      have hb6 := hbd.trans (hb5.mono (show w.heap.size ≤ wr.drew.heap.size from hw0))
      refine hK.out _ _ (HKP.out _ hb6) (fun hHeld => ?_)
      clear hK K
      have hown6 := own_below HOW.out (((Below.refl wr.heap.size wr).drew).trans hb5)
      clear hbd hb5
      refine wpAnyH_ready (rs := [8]) (by kernel_rfl) (by simp) ?_
      refine AllReadyH.cons rfl (fun K hK => ?_) AllReadyH.nil
      rw [if_pos (by rfl)]
      refine wp_sliceOne 22 24 (.tmp 21) rfl (some 22) rfl Tryd.underlying22 (digF (pr f h)) rfl (dgOneS _) ?_
      have hb7 := hb6.alloc (show w.heap.size ≤ w5.heap.size from hb6.size) (.cells (digF (pr f h)) 24)
      refine hK.out _ _ (HKP.out _ hb7) (fun hHeld => ?_)
      clear hK K
      have hown7 := own_below hown6 ((Below.refl w5.heap.size w5).alloc (Nat.le_refl _) (.cells (digF (pr f h)) 24))
      refine wpAnyH_ready (rs := [9]) (by kernel_rfl) (by simp) ?_
      refine AllReadyH.cons rfl (fun K hK => ?_) AllReadyH.nil
      rw [if_pos (by rfl)]
      refine wp_append_own _ (.tmp 14) (.tmp 22) 22 rfl w.heap.size 24 i0 _ 32 32 Tryd.underlying22 HI.out HZ0.out HZ1.out HZ2.out HZS.out (by omega) (.slice (some ⟨g, 0, none⟩) M.length cv) M.length (dcells M) rfl hown7 ⟨w5.heap.size, 0, none⟩ 1 1 (digF (pr f h)).toList rfl (by rw [Array.length_toList, Nat.one_mul]; exact vals_size 32 _) ?_ ?_ (by unfold maxLen; omega) (by omega) hb7.size ?_
      · intro j u hj
        rw [Addr.add_lit, Nat.zero_add, cell_of_row _ _ _ _ _ _ (heap_alloc_new w5 _), ← hj, Array.getElem?_toList]
      · intro u hu
        exact Array.all_eq_true_iff_forall_mem.1 (hoDig (pr f h)) u (by simpa using hu)
      intro v9 w9 hown9 hg9 hnil
      have hgb : w.heap.size ≤ g := by
        obtain ⟨g', c', h1, h2⟩ := own_form HOW.out (by simp)
        cases h1
        exact h2
      have hb9 := hb7.grown hg9 hb7.size (fun k hk => by
        have : k = g := by simpa [Value.ownBlock] using hk.symm
        omega)
      obtain ⟨g9, c9, rfl, hg9b⟩ := own_form hown9 (fun h' => by have := (hnil.1 h').2; omega)
      refine hK.out _ _ (HKP.out _ hb9) (fun hHeld => ?_)
      clear hK K
      simp only [Act.put]
      refine wpAnyH_take (i := 10) (v := .slice (some ⟨g9, 0, none⟩) (M.length + 1) c9) rfl (by kernel_rfl) (by kernel_rfl) (by kernel_rfl) (fun _ _ _ h => h) (Or.inl ⟨by rfl, ?_⟩) hHeld ?_
      · intro W _
        go_simp
      simp only [Act.put]
      refine wpAnyH_done (by kernel_rfl) ?_ _
      rw [← HDC.out] at hown9
      have HO9 := Lib.hid hown9
      have HB9 := Lib.hid hb9
      clear hown9 hb9 hg9 hnil hHeld hb7 hb6 hown6 hown7
      go_wp2
      have hqr : q - 2 = r := by have := HQ.out; omega
      refine ⟨?_, by change q - 2 < q; omega⟩
      rw [hqr]
      by_cases hc : c = 2
      · rw [if_pos hc]
        exact HREL.out w9 off (c - 2) g9 c9 (by omega) (fun h0 => by omega) HO9.out HB9.out
      · rw [if_neg hc]
        exact HREL.out w9 (off + 64) (c - 2) g9 c9 (by omega) (fun _ => rfl) HO9.out HB9.out
    | [f], h1 => exact absurd (by simp) h1
    | [], h1 => exact absurd (by simp) h1
end Go.Proofs.YtgdckpldbofgfaaDoor
namespace Go.Proofs.YtgdckpldbofgfaaDoor
open Go.ChangeShapes Go.WideShapes Go.ChangeAt Go.RowKit Sh

set_option maxRecDepth 100000 in
set_option maxHeartbeats 1600000 in
theorem tree_any (w : World) (L : List (Nat → UInt8)) (pb po n cap : Nat) (hn : n = L.length) (hn0 : 0 < n) (hnb : n ≤ 1000) (hnc : n ≤ cap) (hT : Tabs w) (hA : DigsAt w pb po L) :
    Calls Tryd.prog 34 #[.slice (some ⟨pb, po, none⟩) n cap] w fun e w' => e = .returned (.agg (digF (treeD L))) ∧ Below w.heap.size w w' := by
  have hpb : pb < w.heap.size := block_lt_of_cell (hA 0 ((dcells L)[0]'(by rw [dcells_length]; omega)) (List.getElem?_eq_getElem _))
  have HA := Lib.hid hA
  have HT := Lib.hid hT
  have HL := Lib.hid hn
  clear hA hT hn
  have y0 : ¬ (n : Int) = 0 := by omega
  have y1 : decide ((n : Int) = 0) = false := decide_eq_false y0
  have y2 : ((n : Int) == 0) = false := beq_eq_false_iff_ne.2 y0
  go_enter Tryd.func34, Tryd.ntmps34
  go_wp2_with (fail)
  refine gen_world (fun wr => Below w.heap.size w wr ∧ w.heap.size < wr.heap.size ∧ wr.rowIs w.heap.size 24 32 (fun _ => .int .u8 0)) ?_ ?_
  · exact ⟨(Below.refl _ _).alloc (Nat.le_refl _) _, by simp, row_alloc _ rfl (by kernel_rfl)⟩
  rintro w1 ⟨hb1, hs1, hz1⟩
  have HB1 := Lib.hid hb1
  have HZ1 := Lib.hid hz1
  clear hb1 hz1
  go_loopw [3] (fun row wr => ∃ (R : List (Nat → UInt8)) (b o c : Nat), row = .slice (some ⟨b, o, none⟩) R.length c ∧ R.length ≤ c ∧ 0 < R.length ∧ R.length ≤ n ∧ treeD L = treeD R ∧ DigsAt wr b o R ∧ b < wr.heap.size ∧ w.heap.size < wr.heap.size ∧ wr.rowIs w.heap.size 24 32 (fun _ => .int .u8 0) ∧ Below w.heap.size w wr) (fun row _ => match row with | .slice _ l _ => l | _ => 0)
  case atStart =>
    exact ⟨L, pb, po, cap, by rw [HL.out], by rw [← HL.out]; exact hnc, by rw [← HL.out]; exact hn0, by rw [HL.out]; exact Nat.le_refl _, rfl, HA.out.keep HB1.out hpb, by omega, hs1, HZ1.out, HB1.out⟩
  case round =>
    clear HB1 HZ1 hs1
    obtain ⟨R, b, o, c, rfl, hRc, hR0, hRn, ht, hat, hbl, hs, hz, hb⟩ := hrel
    have HTR := Lib.hid ht
    have HAT := Lib.hid hat
    have HB := Lib.hid hb
    have HZ := Lib.hid hz
    clear ht hat hb hz
    by_cases hR1 : 1 < R.length
    · have hst := treeD_step R hR1
      have HST := Lib.hid (HTR.out.trans hst)
      have HPL := Lib.hid (pairsD_length R)
      obtain ⟨k, hk⟩ : ∃ k, k = R.length := ⟨_, rfl⟩
      have HK := Lib.hid hk
      rw [← hk] at hR1 hRc hRn hR0 ⊢
      have x0 : (1 : Int) < (k : Int) := by omega
      have x1 : decide ((1 : Int) < (k : Int)) = true := decide_eq_true x0
      clear hk hst HTR
      go_wp2_with (fail)
      refine (pairs_any _ R b o k c HK.out hR0 (by omega) hRc (HT.out.below HB.out) HAT.out).mono ?_
      rintro e w5 ⟨g, c5, rfl, hc5, hg, hgl, hA5, hb5⟩
      have HA5 := Lib.hid hA5
      have HB5 := Lib.hid (HB.out.trans (hb5.mono (by omega)))
      have HZ5 := Lib.hid (HZ.out.of_block (hb5.block _ hs))
      have hs5 : w.heap.size < w5.heap.size := Nat.lt_of_lt_of_le hs hb5.size
      clear hA5 hb5
      have hl := HPL.out
      rw [← HK.out] at hl
      go_wp2
      exact ⟨⟨pairsD R, g, 0, c5, by rw [hl], hc5, by omega, by omega, HST.out, HA5.out, hgl, hs5, HZ5.out, HB5.out⟩, by change (k + 1) / 2 < k; omega⟩
    · match R, hR0, hR1 with
      | [f], _, _ =>
        have HTF := Lib.hid (HTR.out.trans (treeD_one f))
        have HH := Lib.hid (show wr.rangeAt b o (digF f).toList from HAT.out.head)
        have HLF := Lib.hid (show (Tryd.prog.info? 24).map (·.size) = some (digF f).toList.length by rw [Array.length_toList]; exact hiDigF f)
        have H1 := Lib.hid (row_block HZ.out)
        have HZo := Lib.hid (show (vals 32 fun _ => Value.int .u8 0).size = (digF f).size from hzDig f)
        rw [show [f].length = 1 from rfl] at hRc hRn ⊢
        clear HTR HAT HZ
        go_wp2_with (first
          | (with_reducible refine wpList_load_mid rfl 24 _ rfl b o rfl (digF f).toList (.array 32 5) HH.out Tryd.underlying24 rfl HLF.out ?_)
          | (with_reducible refine wpList_store_row rfl 24 _ _ rfl _ (digF f) rfl rfl 24 _ H1.out (hiDigF f) HZo.out (hoDig f) ?_))
        refine bodyPost_ret (results_cell_row rfl _ _ _ 24 _ _ _ rfl (setRow_heap _ _ _ _ _ _ H1.out) Tryd.underlying24 rfl (hiDigF f)) rfl ?_
        exact ⟨by rw [HTF.out], below_setRow' HB.out (Nat.le_refl _) _⟩
      | [], h0, _ => exact absurd h0 (by simp)
      | _ :: _ :: _, _, h1 => exact absurd (by simp) h1
end Go.Proofs.YtgdckpldbofgfaaDoor
namespace Go.Proofs.YtgdckpldbofgfaaDoor
open Go Go.RowKit

theorem wpAnyH_takeAt {P : Program} {md : Region.Mode} {ops : Array Oper} {Q : Exit → Act → World → Prop} {S : World → Prop} {i : Nat} {oi : Oper} {v : Value} {fuel : Nat} {listed : Array Bool} {a : Act} {w : World} (d : Tmp) (hi : ops[i]? = some oi) (hd : oi.dst = some d)
    (hs : Region.noSelect ops = true) (hf : Region.free md ops listed i = true) (hr : (Region.ready md ops listed).contains i = true)
    (hQ : ∀ c a w, Q (.panic c) (a.put (some d) v) w → Q (.panic c) a w) (hy : YieldsIf P ops S oi v a) (hS : S w)
    (h : wpAnyH P md ops Q S fuel (listed.setIfInBounds i true) (a.put (some d) v) w) : wpAnyH P md ops Q S (fuel + 1) listed a w := by
  refine wpAnyH_take hi hs hf hr ?_ hy hS ?_
  · rw [hd]; exact hQ
  · rw [hd]; exact h
end Go.Proofs.YtgdckpldbofgfaaDoor
