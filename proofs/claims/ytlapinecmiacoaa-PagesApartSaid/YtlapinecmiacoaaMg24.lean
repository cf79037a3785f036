/-
  PagesApart's own words: a law's array of rows of numbers, beside a pool; what a put, and a store elsewhere, leave. No program's function here, but what the pool's contracts say. No conditions.
-/
import Derived.Test.YtlapinecmiacoaaMg21
import Derived.Deep.RegionHeld3
set_option maxRecDepth 100000
namespace Go.Proofs.Ytlapinecmiacoaa
open Go.ChangeShapes Go.WideShapes Go.ChangeAt Go.RowKit Nm Cf Vc Sp Pg

namespace Pg
theorem eV_ent (N : Nat) (x : Int) : eV (entR N) (entX x) = .agg #[.slice (some ⟨N + 1, 0, none⟩) 1 1, .slice (some ⟨N + 3, 0, none⟩) 1 1] := rfl
theorem law_entry' (W : World) (z : Int) : Calls Try.prog 12 #[.int .i64 z] W fun e w' => e = .returned (.agg #[.slice (some ⟨W.heap.size + 1 + 1, 0, none⟩) 1 1, .slice (some ⟨W.heap.size + 1 + 3, 0, none⟩) 1 1]) ∧ EntIs w' (W.heap.size + 1) z ∧ Below W.heap.size W w' := by
  have h := law_entry W z
  unfold EntSays at h
  rw [eV_ent] at h
  exact h
theorem has_put' {w0 W : World} {F : Nat → Prop} {D n : Nat} {P : Nat → Page Ent} (h : Has w0 F W D n P) (x : Int) {N : Nat} {z : Int} (he : EntIs W N z) : Calls Try.prog 13 #[.pointer (some ⟨D, 0, none⟩), .int .i64 x, .agg #[.slice (some ⟨N + 1, 0, none⟩) 1 1, .slice (some ⟨N + 3, 0, none⟩) 1 1]] W fun e w' => e = .returned (.int .i64 (putE n P x)) ∧ HasT w0 F W D n (putS n P x (entX z)) w' := by
  have h := has_put h x he.on (entX_small z)
  rw [eV_ent] at h
  exact h
/-- An array of ten rows of numbers, each in a row of its own. -/
structure Hv (N : Nat) (Fh : Nat → Prop) (W : World) (g : Nat) (G : Nat → Value) (H : Nat → List Int) : Prop where
  arr : ∃ cs, W.heap[g]? = some (.cells cs 61 (0, 0)) ∧ cs.size = 10 ∧ ∀ i, i < 10 → cs[i]? = some (G i)
  own : ∀ i, i < 10 → Own W N (G i) (H i)
  off : ∀ i, i < 10 → ∀ k, (G i).ownBlock = some k → k ≠ g ∧ Fh k
  apart : ∀ i j, i < 10 → j < 10 → i ≠ j → ∀ k, (G i).ownBlock = some k → (G j).ownBlock ≠ some k
  Fg : Fh g
  lt : ∀ k, Fh k → k < W.heap.size
section
variable {N : Nat} {Fh : Nat → Prop} {W W' wz : World} {g : Nat} {G : Nat → Value} {H : Nat → List Int}
theorem Hv.kept (h : Hv N Fh W g G H) (hs : W.heap.size ≤ W'.heap.size) (hb : ∀ k, Fh k → W'.heap[k]? = W.heap[k]?) : Hv N Fh W' g G H := by
  obtain ⟨cs, h1, h2, h3⟩ := h.arr
  exact ⟨⟨cs, (hb g h.Fg).trans h1, h2, h3⟩, fun i hi => Sp.own_moved (h.own i hi) fun k hk => hb k (h.off i hi k hk).2, h.off, h.apart, h.Fg, fun k hk => Nat.lt_of_lt_of_le (h.lt k hk) hs⟩
theorem Hv.step (h : Hv N Fh W g G H) (hb : Below W.heap.size W W') : Hv N Fh W' g G H := h.kept hb.size fun k hk => hb.block k (h.lt k hk)
theorem Hv.cell (h : Hv N Fh W g G H) {i : Nat} (hi : i < 10) : W.cell? ⟨g, i, none⟩ = some (G i) := by
  obtain ⟨cs, h1, _, h3⟩ := h.arr
  rw [cell_of_row _ _ _ _ _ _ h1]
  exact h3 i hi
theorem Hv.fz (h : Hv N Fh W g G H) (i : Nat) : W.frozen? ⟨g, i, none⟩ = false := by
  obtain ⟨cs, h1, _⟩ := h.arr
  exact frozen_of_row _ _ _ _ _ h1
theorem Hv.slice (h : Hv N Fh W g G H) {i : Nat} (hi : i < 10) : ∃ A c, G i = .slice A (H i).length c := (h.own i hi).slice
def updH (H : Nat → List Int) (k : Nat) (l : List Int) (i : Nat) : List Int := if i = k then l else H i
theorem updH_at (H : Nat → List Int) (k : Nat) (l : List Int) : updH H k l k = l := if_pos rfl
theorem updH_off (H : Nat → List Int) {k i : Nat} (l : List Int) (h : i ≠ k) : updH H k l i = H i := if_neg h
/-- One number more in one of the rows. -/
theorem Hv.more (h : Hv N Fh W g G H) {i : Nat} (hi : i < 10) {z : Int} {m g4 c4 : Nat} (hm : (H i).length = m) (hown : Own wz N (.slice (some ⟨g4, 0, none⟩) (m + 1) c4) (H i ++ [z])) (hgrow : W.grownBy wz (G i).ownBlock) (hat : (G i).ownBlock = some g4 ∨ (W.heap.size ≤ g4 ∧ g4 < wz.heap.size)) :
    Hv N (fun k => Fh k ∨ k = g4) (wz.setCell ⟨g, i, none⟩ (.slice (some ⟨g4, 0, none⟩) (m + 1) c4)) g (updG G i (.slice (some ⟨g4, 0, none⟩) (m + 1) c4)) (updH H i (H i ++ [z])) := by
  have hg0 := h.lt g h.Fg
  have hgz : (G i).ownBlock ≠ some g := fun e => (h.off i hi g e).1 rfl
  have hne : g4 ≠ g := by
    rcases hat with ha | ha
    · exact fun e => hgz (e ▸ ha)
    · omega
  have hbg : wz.heap[g]? = W.heap[g]? := hgrow.block g hg0 fun e => hgz e.symm
  obtain ⟨cs, h1, h2, h3⟩ := h.arr
  have ho : ∀ j, j ≠ g → (wz.setCell ⟨g, i, none⟩ (.slice (some ⟨g4, 0, none⟩) (m + 1) c4)).heap[j]? = wz.heap[j]? := fun j hj => heap_setCell_other _ ⟨g, i, none⟩ j _ hj
  have hlt4 : g4 < wz.heap.size := by
    rcases hat with ha | ha
    · have := h.lt g4 (h.off i hi g4 ha).2
      have := hgrow.size
      omega
    · exact ha.2
  have hoff4 : ∀ j, j < 10 → j ≠ i → (G j).ownBlock ≠ some g4 := fun j hj hji e => by
    rcases hat with ha | ha
    · exact h.apart i j hi hj (fun e => hji e.symm) g4 ha e
    · have := h.lt g4 (h.off j hj g4 e).2
      omega
  refine ⟨⟨_, heap_setCell_same wz g i _ _ _ (hbg.trans h1), by rw [Array.size_setIfInBounds]; exact h2, fun j hj => ?_⟩, fun j hj => ?_, fun j hj k hk => ?_, fun j j2 hj hj2 hne2 k hk hk2 => ?_, .inl h.Fg, fun k hk => ?_⟩
  · rw [Array.getElem?_setIfInBounds]
    by_cases e : i = j
    · subst e
      rw [if_pos rfl, if_pos (by omega), updG_at]
    · rw [if_neg e, updG_off _ _ (fun e2 => e e2.symm)]
      exact h3 j hj
  · by_cases e : j = i
    · subst e
      rw [updG_at, updH_at]
      exact Sp.own_moved hown fun k hk => ho k (by rw [← (show g4 = k from Option.some.inj hk)]; exact hne)
    · rw [updG_off _ _ e, updH_off _ _ e]
      refine Sp.own_moved (h.own j hj) fun k hk => ?_
      have h5 := h.off j hj k hk
      exact (ho k h5.1).trans (hgrow.block k (h.lt k h5.2) fun e2 => h.apart i j hi hj (fun e3 => e e3.symm) k e2.symm hk)
  · by_cases e : j = i
    · rw [e, updG_at] at hk
      have e2 : g4 = k := Option.some.inj hk
      rw [← e2]
      exact ⟨hne, .inr rfl⟩
    · rw [updG_off _ _ e] at hk
      have h5 := h.off j hj k hk
      exact ⟨h5.1, .inl h5.2⟩
  · by_cases e : j = i
    · rw [e, updG_at] at hk
      have e2 : g4 = k := Option.some.inj hk
      rw [updG_off _ _ (fun e3 => hne2 (e.trans e3.symm)), ← e2] at hk2
      exact hoff4 j2 hj2 (fun e3 => hne2 (e.trans e3.symm)) hk2
    · rw [updG_off _ _ e] at hk
      by_cases e2 : j2 = i
      · rw [e2, updG_at] at hk2
        have e3 : g4 = k := Option.some.inj hk2
        rw [← e3] at hk
        exact hoff4 j hj e hk
      · rw [updG_off _ _ e2] at hk2
        exact h.apart j j2 hj hj2 hne2 k hk hk2
  · have h6 := hgrow.size
    have : k < wz.heap.size := by
      rcases hk with hk | hk
      · have := h.lt k hk; omega
      · omega
    simpa using this
theorem hv_new (W : World) (cs : Array Value) (hs : cs.size = 10) (hc : ∀ i, i < 10 → cs[i]? = some (.slice none 0 0)) : Hv N (fun k => k = W.heap.size) (W.alloc (.cells cs 61)) W.heap.size (fun _ => .slice none 0 0) (fun _ => []) :=
  ⟨⟨cs, heap_alloc_new W _, hs, hc⟩, fun i _ => ⟨rfl, .inl ⟨rfl, rfl⟩⟩, fun i _ k hk => (by cases hk), fun i j _ _ _ k hk => (by cases hk), rfl, fun k hk => by rw [hk]; simp⟩
end
section
variable {w0 W W' : World} {F F' Fh : Nat → Prop} {D n N g : Nat} {P : Nat → Page Ent} {G : Nat → Value} {H : Nat → List Int}
theorem hv_turn (h : Hv N Fh W g G H) (hd : ∀ k, F k → ¬ Fh k) (t : Turn F W W') : Hv N Fh W' g G H := h.kept t.size fun k hk => t.block k (h.lt k hk) fun hf => hd k hf hk
theorem dis_turn (hd : ∀ k, F k → ¬ Fh k) (hl : ∀ k, Fh k → k < W.heap.size) (ho : ∀ k, F' k → Old F W k) : ∀ k, F' k → ¬ Fh k := fun k hk hf => by
  rcases ho k hk with h | h
  · exact hd k h hf
  · have := hl k hf; omega
theorem has_beside (h : Has w0 F W D n P) (t : Turn Fh W W') (hd : ∀ k, F k → ¬ Fh k) (hn : ∀ k, Fh k → w0.heap.size ≤ k) : Has w0 F W' D n P :=
  ⟨h.pl.kept t.size fun k hk => t.block k (h.pl.lt k hk) (hd k hk), h.new, h.below.trans (t.below hn h.below.size)⟩
theorem turn_store (W : World) (b i : Nat) (v : Value) : Turn (· = b) W (W.setCell ⟨b, i, none⟩ v) := (Turn.refl (· = b) W).set (.inl rfl) i v
end
/-- What the pages are while the law takes them; what they are behind its puts. -/
def apP (i j : Nat) : Page Ent := if j < i then ⟨(j : Int) + 1, 1, []⟩ else fr
def apH (H : Nat → List Int) (j : Nat) : Page Ent := if j < 10 then ⟨(j : Int) + 1, 1, (H j).map entX⟩ else fr
theorem ap_low {i : Nat} (hi : i ≤ 10) : lowP (apP i) 10 = i := by
  by_cases h : i < 10
  · exact low_at h (by unfold apP; rw [if_neg (Nat.lt_irrefl i)]; rfl) fun j hj => by unfold apP; rw [if_pos hj]; exact Nat.one_ne_zero
  · have : i = 10 := by omega
    subst this
    exact low_none fun j hj => by unfold apP; rw [if_pos hj]; exact Nat.one_ne_zero
theorem ap_take {i : Nat} (hi : i < 10) : takeI 10 (apP i) ((i : Int) + 1) = (i : Int) ∧ takeE 10 (apP i) ((i : Int) + 1) = 0 ∧ takeS 10 (apP i) ((i : Int) + 1) = apP (i + 1) := by
  have hv : verP ((i : Int) + 1) = true := ver_iff.2 ⟨by omega, by omega⟩
  have hl := ap_low (Nat.le_of_lt hi)
  refine ⟨?_, ?_, ?_⟩
  · unfold takeI; rw [hl, if_pos ⟨hv, hi⟩]
  · unfold takeE; rw [hl, if_pos hv, if_pos hi]
  · unfold takeS
    rw [hl, if_pos ⟨hv, hi⟩]
    funext j
    unfold updP apP
    by_cases e : j = i
    · rw [if_pos e, if_pos (by omega), e]
    · rw [if_neg e]
      by_cases h : j < i
      · rw [if_pos h, if_pos (by omega)]
      · rw [if_neg h, if_neg (by omega)]
theorem ap_full : takeE 10 (apP 10) 1 = 11 ∧ takeS 10 (apP 10) 1 = apP 10 := by
  have hl := ap_low (Nat.le_refl 10)
  refine ⟨?_, ?_⟩
  · unfold takeE; rw [hl, if_pos (ver_iff.2 ⟨by omega, by omega⟩), if_neg (Nat.lt_irrefl _)]
  · unfold takeS; rw [hl, if_neg fun h => absurd h.2 (Nat.lt_irrefl _)]
theorem ap_start : apP 10 = apH fun _ => [] := by
  funext j
  unfold apP apH
  rfl
theorem apP_bnd (i : Nat) : Bnd (apP i) 1 := fun j => by
  unfold apP
  split
  · exact Nat.le_refl 1
  · exact Nat.zero_le _
theorem apH_bnd (H : Nat → List Int) : Bnd (apH H) 1 := fun j => by
  unfold apH
  split
  · exact Nat.le_refl 1
  · exact Nat.zero_le _
theorem apH_in (H : Nat → List Int) {i : Nat} (hi : i < 10) : apH H i = ⟨(i : Int) + 1, 1, (H i).map entX⟩ := if_pos hi
theorem apH_is (H : Nat → List Int) {i : Nat} (hi : i < 10) : isP 10 (apH H) (i : Int) = true := by
  rw [is_nat hi, apH_in H hi]
  exact decide_eq_true Nat.one_pos
theorem apH_put (H : Nat → List Int) {i : Nat} (hi : i < 10) (z : Int) : putE 10 (apH H) (i : Int) = (if 4 ≤ (H i).length then 10 else 0) ∧ ((H i).length < 4 → putS 10 (apH H) (i : Int) (entX z) = apH (updH H i (H i ++ [z]))) := by
  have h1 : putE 10 (apH H) (i : Int) = if 4 ≤ (H i).length then 10 else 0 := by
    rw [putE_in (apH_is H hi), apH_in H hi]
    show (if 1 < 1 then 7 else if 4 ≤ ((H i).map entX).length then 10 else 0) = _
    rw [if_neg (Nat.lt_irrefl 1), List.length_map]
  refine ⟨h1, fun hl => ?_⟩
  rw [putS_in (h1.trans (if_neg (by omega)))]
  funext j
  by_cases e : j = i
  · rw [e, upd_at, apH_in H hi, apH_in _ hi, updH_at, List.map_append]
    rfl
  · rw [upd_off _ e]
    unfold apH
    rw [updH_off _ _ e]
/-- One page has three users. -/
theorem apH_get (H : Nat → List Int) {P : Nat → Page Ent} {i : Nat} (hi : i < 10) (hu : 0 < (P i).u) (hl : (P i).l = (H i).map entX) : getL 10 P [(i : Int)] = (H i).map entX := by
  unfold getL
  rw [List.flatMap_cons, List.flatMap_nil, List.append_nil, if_pos (by rw [is_nat hi]; exact decide_eq_true hu), Int.toNat_natCast, hl]
/-- A law's pool, and its array. -/
structure Ap (w0 W : World) (D g : Nat) (F Fh : Nat → Prop) (G : Nat → Value) (H : Nat → List Int) (P : Nat → Page Ent) : Prop where
  has : Has w0 F W D 10 P
  hv : Hv w0.heap.size Fh W g G H
  dis : ∀ k, F k → ¬ Fh k
  new : ∀ k, Fh k → w0.heap.size ≤ k
section
variable {w0 W W' : World} {D g : Nat} {F F' Fh : Nat → Prop} {G : Nat → Value} {H : Nat → List Int} {P P' : Nat → Page Ent}
theorem Ap.step (h : Ap w0 W D g F Fh G H P) (hb : Below W.heap.size W W') : Ap w0 W' D g F Fh G H P := ⟨h.has.step hb, h.hv.step hb, h.dis, h.new⟩
theorem Ap.turned (h : Ap w0 W D g F Fh G H P) (k : Has w0 F' W' D 10 P') (ho : ∀ j, F' j → Old F W j) (t : Turn F W W') : Ap w0 W' D g F' Fh G H P' := ⟨k, hv_turn h.hv h.dis t, dis_turn h.dis h.hv.lt ho, h.new⟩
/-- A store into what is neither's. -/
theorem Ap.store (h : Ap w0 W D g F Fh G H P) {b : Nat} (hb : w0.heap.size ≤ b) (h1 : ¬ F b) (h2 : ¬ Fh b) (i : Nat) (v : Value) : Ap w0 (W.setCell ⟨b, i, none⟩ v) D g F Fh G H P :=
  ⟨has_beside h.has (turn_store W b i v) (fun k hk e => h1 (e ▸ hk)) (fun k hk => by rw [hk]; exact hb), hv_turn (F := (· = b)) h.hv (fun k hk hf => h2 (hk ▸ hf)) (turn_store W b i v), h.dis, h.new⟩
theorem Ap.more (h : Ap w0 W D g F Fh G H P) {wz : World} {i : Nat} (hi : i < 10) {z : Int} {m g4 c4 : Nat} (hm : (H i).length = m) (hown : Own wz w0.heap.size (.slice (some ⟨g4, 0, none⟩) (m + 1) c4) (H i ++ [z])) (hgrow : W.grownBy wz (G i).ownBlock) (hat : (G i).ownBlock = some g4 ∨ (W.heap.size ≤ g4 ∧ g4 < wz.heap.size)) :
    Ap w0 (wz.setCell ⟨g, i, none⟩ (.slice (some ⟨g4, 0, none⟩) (m + 1) c4)) D g F (fun k => Fh k ∨ k = g4) (updG G i (.slice (some ⟨g4, 0, none⟩) (m + 1) c4)) (updH H i (H i ++ [z])) P ∧ Turn Fh W (wz.setCell ⟨g, i, none⟩ (.slice (some ⟨g4, 0, none⟩) (m + 1) c4)) := by
  have ht : Turn Fh W (wz.setCell ⟨g, i, none⟩ (.slice (some ⟨g4, 0, none⟩) (m + 1) c4)) := ((Turn.refl Fh W).grown hgrow fun k hk => .inl (h.hv.off i hi k hk).2).set (.inl h.hv.Fg) _ _
  refine ⟨⟨has_beside h.has ht h.dis h.new, h.hv.more hi hm hown hgrow hat, fun k hk e => ?_, fun k hk => ?_⟩, ht⟩
  · rcases e with e | e
    · exact h.dis k hk e
    · rcases hat with ha | ha
      · exact h.dis k hk (e ▸ (h.hv.off i hi g4 ha).2)
      · have := h.has.pl.lt k hk; omega
  · rcases hk with e | e
    · exact h.new k e
    · rcases hat with ha | ha
      · exact h.new k (e ▸ (h.hv.off i hi g4 ha).2)
      · have := h.has.below.size; omega
end
theorem same_ent {W : World} {p : Nat → Prop} {r : Er} {h : Int} (he : EOn p W r (entX h)) {N : Nat} (k : EntIs W N h) : Calls Try.prog 27 #[.agg #[.slice r.kA 1 r.kc, .slice r.vA 1 r.vc], .agg #[.slice (some ⟨N + 1, 0, none⟩) 1 1, .slice (some ⟨N + 3, 0, none⟩) 1 1]] W fun z w' => z = .returned (.bool true) ∧ Below W.heap.size W w' := by
  have h1 := step_same W r (entX h) (entR N) (entX h) (he.mono fun _ _ => trivial) (k.on.mono fun _ _ => trivial) (entX_small h).fit
  rw [eV_ent, sameE_self] at h1
  exact h1
theorem got_at {R : List (Er × Ent)} {L : List Int} {e : Nat} {h : Int} (hR : R.map (·.2) = L.map entX) (hL : L[e]? = some h) : ∃ r, R[e]? = some (r, entX h) := by
  have h1 : (R.map (·.2))[e]? = some (entX h) := by rw [hR, List.getElem?_map, hL]; rfl
  rw [List.getElem?_map] at h1
  obtain ⟨⟨r, x⟩, h2, h3⟩ := Option.map_eq_some_iff.1 h1
  exact ⟨r, by rw [h2]; exact congrArg some (Prod.ext rfl h3)⟩
theorem got_len {R : List (Er × Ent)} {L : List Int} {e : Nat} {h : Int} (hR : R.map (·.2) = L.map entX) (hL : L[e]? = some h) : e < R.length := by
  obtain ⟨r, h1⟩ := got_at hR hL
  exact (List.getElem?_eq_some_iff.1 h1).1
/-! One page has three users, and then two -/
def ap3 (H : Nat → List Int) (k : Nat) : Nat → Page Ent := shareS 10 (apH H) [(k : Int), (k : Int)]
def ap2 (H : Nat → List Int) (k : Nat) : Nat → Page Ent := dropS 10 (ap3 H k) [(k : Int)]
section
variable {H : Nat → List Int} {k : Nat}
theorem ap_cnt2 : cntI [(k : Int), (k : Int)] k = 2 := by unfold cntI; simp
theorem ap_cnt1 : cntI [(k : Int)] k = 1 := by unfold cntI; simp
theorem ap_share (hk : k < 10) : shareE 10 (apH H) [(k : Int), (k : Int)] = 0 ∧ ap3 H k = moreS (apH H) [(k : Int), (k : Int)] := by
  have hb : shareB 10 (apH H) [(k : Int), (k : Int)] = true := share_iff.2 fun x hx => by
    have : x = (k : Int) := by simpa using hx
    rw [this]
    exact apH_is H hk
  exact ⟨if_pos hb, if_pos hb⟩
theorem ap3_at (hk : k < 10) {i : Nat} (hi : i < 10) : (ap3 H k i).l = (H i).map entX ∧ 0 < (ap3 H k i).u := by
  rw [(ap_share hk).2]
  unfold moreS
  rw [apH_in H hi]
  exact ⟨rfl, by show 0 < 1 + _; omega⟩
theorem ap3_k (hk : k < 10) : (ap3 H k k).u = 3 := by
  rw [(ap_share hk).2]
  unfold moreS
  rw [apH_in H hk, ap_cnt2]
theorem ap_put3 (hk : k < 10) : putE 10 (ap3 H k) (k : Int) = 7 := by
  rw [putE_in (by rw [is_nat hk]; exact decide_eq_true (ap3_at hk hk).2), ap3_k hk]
  rfl
theorem ap_drop (hk : k < 10) : dropE 10 (ap3 H k) [(k : Int)] = 0 ∧ ap2 H k = dropJ (ap3 H k) [(k : Int)] := by
  have hb : dropB 10 (ap3 H k) [(k : Int)] = true := drop_iff.2 fun x hx => by
    rw [List.mem_singleton.1 hx, Int.toNat_natCast, ap_cnt1, ap3_k hk]
    exact ⟨by rw [is_nat hk]; exact decide_eq_true (ap3_at hk hk).2, by omega⟩
  exact ⟨if_pos hb, if_pos hb⟩
theorem ap2_k (hk : k < 10) : usrI 10 (ap2 H k) (k : Int) = 2 := by
  rw [← at_usr, at_in hk, (ap_drop hk).2, dropJ_u, ap_cnt1, ap3_k hk]
theorem ap2_at (hk : k < 10) {i : Nat} (hi : i < 10) : (ap2 H k i).l = (H i).map entX ∧ 0 < (ap2 H k i).u := by
  have hu : 0 < (ap2 H k i).u := by
    rw [(ap_drop hk).2, dropJ_u]
    by_cases e : i = k
    · rw [e, ap_cnt1, ap3_k hk]; omega
    · have h0 : cntI [(k : Int)] i = 0 := cnt_none fun hm => e (by have := List.mem_singleton.1 hm; omega)
      rw [h0]
      exact (ap3_at hk hi).2
  refine ⟨?_, hu⟩
  rw [(ap_drop hk).2] at hu ⊢
  unfold dropJ clrS at hu ⊢
  split at hu <;> rename_i h0
  · cases hu
  · rw [if_neg h0]
    exact (ap3_at hk hi).1
theorem ap3_bnd (_ : k < 10) : Bnd (ap3 H k) 1000000 := (bnd_share (apH_bnd H) [(k : Int), (k : Int)]).le (by show 1 + 2 ≤ 1000000; omega)
theorem ap2_get (hk : k < 10) {i : Nat} (hi : i < 10) : getL 10 (ap2 H k) [(i : Int)] = (H i).map entX := apH_get H hi (ap2_at hk hi).2 (ap2_at hk hi).1
end
/-! What was got, while it is told one by one -/
structure Lr (N : Nat) (W : World) (A : Option Addr) (m c : Nat) (R : List (Er × Ent)) (e : Nat) : Prop where
  own : W.ownsRow N 36 2 (.slice A m c) m (eCs R)
  rest : ∀ (i : Nat) (q : Er × Ent), e ≤ i → R[i]? = some q → EOn (fun j => N ≤ j ∧ (Value.slice A m c).ownBlock ≠ some j) W q.1 q.2 ∧ UfE W q.1 q.2
  sep : Sep R
section
variable {N : Nat} {W W' : World} {A : Option Addr} {m c : Nat} {R : List (Er × Ent)} {e : Nat}
theorem Lr.step (h : Lr N W A m c R e) (hb : Below W.heap.size W W') : Lr N W' A m c R e :=
  ⟨Sp.own_moved h.own fun k hk => hb.block k (h.own.lt k hk).2, fun i q h1 h2 => ⟨(h.rest i q h1 h2).1.below hb, (h.rest i q h1 h2).2.below hb⟩, h.sep⟩
/-- A store into a row of the one that was told. -/
theorem Lr.store (h : Lr N W A m c R e) {r : Er} {x : Ent} (hr : R[e]? = some (r, x)) {b : Nat} (hb : ∃ k, k < x.vs.length ∧ 0 < (x.vs.getD k []).length ∧ ∃ a, r.vB k = some a ∧ a.block = b) (i : Nat) (v : Value) : Lr N (W.setCell ⟨b, i, none⟩ v) A m c R (e + 1) ∧ N ≤ b := by
  obtain ⟨k, hk, h0, a, ha, rfl⟩ := hb
  have h1 := (h.rest e _ (Nat.le_refl e) hr).1.v.there k hk h0 a ha
  have ho : ∀ j, j ≠ a.block → (W.setCell ⟨a.block, i, none⟩ v).heap[j]? = W.heap[j]? := fun j hj => heap_setCell_other _ ⟨a.block, i, none⟩ j _ hj
  refine ⟨⟨Sp.own_moved h.own fun j hj => ho j fun e2 => h1.2 (e2 ▸ hj), fun i2 q h2 h3 => ?_, h.sep⟩, h1.1⟩
  obtain ⟨M, l1, l2⟩ := h.sep e i2 _ q (by omega) hr h3
  have hM : a.block < M := l1.vs k hk h0 a ha
  obtain ⟨e1, u1⟩ := h.rest i2 q (by omega) h3
  exact ⟨((l2.on e1).moved fun j hj => ho j (by have := hj.1; omega)).mono fun j hj => hj.2, u1.kept l2 fun j hj => ho j (by omega)⟩
end
end Pg
/-- What holds behind each step may be more than what is asked. -/
theorem wpAnyH_more {P : Program} {md : Region.Mode} {ops : Array Oper} {Q : Exit → Act → World → Prop} {S S' : World → Prop} (hS : ∀ w, S' w → S w) : ∀ (fuel : Nat) (listed : Array Bool) (a : Act) (w : World), wpAnyH P md ops Q S' fuel listed a w → wpAnyH P md ops Q S fuel listed a w
  | 0, _, _, _, h => h
  | fuel + 1, _, _, _, h => ⟨h.1, fun i hi => wpOp_mono (fun a' w' h' => ⟨hS w' h'.1, wpAnyH_more hS fuel _ a' w' h'.2⟩) (h.2 i hi)⟩
end Go.Proofs.Ytlapinecmiacoaa
