/-
  For law 12's SoftWithin: what a mix of twice the weights is, and of one row. Conditions: those of each lemma.
-/
import Derived.Test.YtghlapaoebelpaaDoorSf6
import Derived.Test.YtghlapaoebelpaaDoorVcRef3
import Derived.Test.YtghlapaoebelpaaDoorVcInts
namespace Go.Proofs.YtghlapaoebelpaaDoor.softWithin
open Go.ChangeShapes Go.WideShapes Go.ChangeAt Go.RowKit Nm Vc Sf

theorem dbl_at (zs : List Int) (i : Nat) (h : i < zs.length) : (dbl zs).getD i 0 = 2 * zs.getD i 0 := by
  unfold dbl
  rw [List.getD_eq_getElem?_getD, List.getElem?_map, List.getD_eq_getElem?_getD (l := zs), List.getElem?_eq_getElem h]
  rfl
theorem dbl_inW {zs : List Int} (h : InW 32768 zs) : InW 65536 (dbl zs) := fun i hi => by
  rw [dbl_length] at hi
  have := h i hi
  rw [dbl_at zs i hi]
  omega
theorem inW_more {zs : List Int} (h : InW 32768 zs) : InW 65536 zs := fun i hi => by
  have := h i hi
  omega
theorem mixR_dbl {zs : List Int} (L : List (List Int)) (h : InW 32768 zs) : mixR (dbl zs) L = mixR zs L := by
  by_cases hp : mixP zs L
  · have hp2 : mixP (dbl zs) L := ⟨dbl_inW h, by rw [total_dbl]; have := hp.2.1; omega, by rw [dbl_length]; exact hp.2.2.1, hp.2.2.2⟩
    rw [mixR_ok hp, mixR_ok hp2, mix_dbl]
  · have hp2 : ¬ mixP (dbl zs) L := fun q => hp ⟨inW_more h, by have := q.2.1; rw [total_dbl] at this; omega, by rw [← dbl_length zs]; exact q.2.2.1, q.2.2.2⟩
    rw [mixR_not hp, mixR_not hp2]
theorem five_in : InW 65536 [5] := fun i hi => by
  match i, hi with
  | 0, _ => exact ⟨by decide, by decide⟩
theorem mixR_one {r : List Int} (h : ∀ i, i < r.length → -32767 ≤ r.getD i 0 ∧ r.getD i 0 ≤ 32767) : mixR [5] [r] = r := by
  have hp : mixP [5] [r] := by
    refine ⟨five_in, by decide, rfl, fun i hi => ?_⟩
    match i, hi with
    | 0, _ => rfl
  rw [mixR_ok hp]
  exact mix_one h
/-- Rows of activations: all numbers of the first j rows. -/
def actTo (L : List (List Int)) (m j : Nat) : Prop := ∀ i, i < j → ∀ k, k < m → -32767 ≤ (L.getD i []).getD k 0 ∧ (L.getD i []).getD k 0 ≤ 32767
theorem actTo_next {L : List (List Int)} {m j : Nat} (h : actTo L m j) (h1 : ∀ k, k < m → -32767 ≤ (L.getD j []).getD k 0 ∧ (L.getD j []).getD k 0 ≤ 32767) : actTo L m (j + 1) := fun i hi k hk => by
  by_cases e : i = j
  · subst e; exact h1 k hk
  · exact h i (by omega) k hk
/-- What the law asks of its mix. -/
theorem within_all {zs : List Int} {L : List (List Int)} {n m : Nat} (hz : zs.length = n) (hL : L.length = n) (h0 : 0 < n) (hm : (L.getD 0 []).length = m) (ha : actTo L m n) :
    ∃ l, (mixR zs L).length = l ∧ l ≤ m ∧ ∀ k, k < l → lowK L k n ≤ (mixR zs L).getD k 0 ∧ (mixR zs L).getD k 0 ≤ topK L k n := by
  by_cases hp : mixP zs L
  · rw [mixR_ok hp, hm, mixL_length]
    refine ⟨m, rfl, Nat.le_refl _, fun k hk => ?_⟩
    have := mix_within (m := 65536) (ws := zs) (rs := L) (n := m) (k := k) hk (by omega) hp.1 hp.2.1 (by omega) (fun j hj => ha j (by omega) k hk)
    rw [hL] at this
    exact this
  · rw [mixR_not hp]
    exact ⟨0, rfl, Nat.zero_le _, fun k hk => absurd hk (by omega)⟩
theorem ite_min (h y : Int) : (if y < h then y else h) = min h y := by split <;> omega
theorem ite_max (h y : Int) : (if h < y then y else h) = max h y := by split <;> omega
theorem lowK_next (L : List (List Int)) (k i : Nat) : lowK L k (i + 1) = min (lowK L k i) ((L.getD i []).getD k 0) := rfl
theorem topK_next (L : List (List Int)) (k i : Nat) : topK L k (i + 1) = max (topK L k i) ((L.getD i []).getD k 0) := rfl
/-- Mix, of twice the weights, and of one row alone. -/
theorem mix_twice (W : World) (A : Option Addr) (c : Nat) (zs : List Int) (E : Option Addr) (ce : Nat) (B : Nat → Option Addr) (C : Nat → Nat) (L : List (List Int)) (n m l : Nat) (hz : zs.length = n) (hn : n ≤ 10) (hL : L.length = n) (hW : InW 32768 zs) (hA : KIn .i64 W A (dbl zs)) (hE : LIn W E B C L) (hm : ∀ i, i < n → (L.getD i []).length = m) (hm2 : m ≤ 10) (hl : (mixR zs L).length = l) :
    Calls Tryd.prog 18 #[.slice A n c, .slice E n ce] W fun e w' => ∃ X cx, e = .returned (.slice X l cx) ∧ KIn .i64 w' X (mixR zs L) ∧ Below W.heap.size W w' := by
  refine (soft_mix W A c (dbl zs) E ce B C L n n (by rw [dbl_length, hz]) (by omega) hL (by omega) hA hE (fun i hi => by rw [hm i hi]; omega)).mono ?_
  rintro e w' ⟨X, cx, rfl, hk, hb⟩
  rw [mixR_dbl L hW] at hk ⊢
  exact ⟨X, cx, by rw [hl], hk, hb⟩
theorem mix_alone (W : World) (b : Nat) (hb : W.heap.size = b) (A : Option Addr) (c : Nat) (r : List Int) (m : Nat) (hr : r.length = m) (hm2 : m ≤ 10) (hA : KIn .i64 W A r) (ha : ∀ i, i < m → -32767 ≤ r.getD i 0 ∧ r.getD i 0 ≤ 32767) :
    Calls Tryd.prog 18 #[.slice (some ⟨b, 0, none⟩) 1 1, .slice (some ⟨b + 1, 0, none⟩) 1 1] ((W.alloc (.cells #[.int .i64 5] 3)).alloc (.cells #[.slice A m c] 22)) fun e w' => ∃ X cx, e = .returned (.slice X m cx) ∧ KIn .i64 w' X r ∧ Below W.heap.size W w' := by
  have b0 := ((Below.refl W.heap.size W).alloc (Nat.le_refl _) (.cells #[.int .i64 5] 3)).alloc (by simp) (.cells #[.slice A m c] 22)
  have hl := lin1 (c := c) (w := W.alloc (.cells #[.int .i64 5] 3)) (b + 1) (by simp [hb]) hr (hA.alloc (.cells #[.int .i64 5] 3))
  refine (soft_mix _ (some ⟨b, 0, none⟩) 1 [5] (some ⟨b + 1, 0, none⟩) 1 _ _ [r] 1 1 rfl (by omega) rfl (by omega) ((kin1 W b 5 hb).alloc _) hl (fun i hi => by
    match i, hi with
    | 0, _ => show r.length ≤ 1000000; omega)).mono ?_
  rintro e w' ⟨X, cx, rfl, hk, hbl⟩
  rw [mixR_one (by rw [hr]; exact ha)] at hk ⊢
  exact ⟨X, cx, by rw [hr], hk, b0.trans (hbl.mono b0.size)⟩
theorem mix_alone2 (W : World) (b : Nat) (hb : W.heap.size = b) (A : Option Addr) (c : Nat) (r : List Int) (m : Nat) (hr : r.length = m) (hm2 : m ≤ 10) (hA : KIn .i64 W A r) (ha : ∀ i, i < m → -32767 ≤ r.getD i 0 ∧ r.getD i 0 ≤ 32767) :
    Calls Tryd.prog 18 #[.slice (some ⟨b + 1, 0, none⟩) 1 1, .slice (some ⟨b, 0, none⟩) 1 1] ((W.alloc (.cells #[.slice A m c] 22)).alloc (.cells #[.int .i64 5] 3)) fun e w' => ∃ X cx, e = .returned (.slice X m cx) ∧ KIn .i64 w' X r ∧ Below W.heap.size W w' := by
  have b0 := ((Below.refl W.heap.size W).alloc (Nat.le_refl _) (.cells #[.slice A m c] 22)).alloc (by simp) (.cells #[.int .i64 5] 3)
  have hl := (lin1 (c := c) (w := W) b hb hr hA).below ((Below.refl _ _).alloc (Nat.le_refl _) (.cells #[.int .i64 5] 3)) (Nat.le_refl _)
  refine (soft_mix _ (some ⟨b + 1, 0, none⟩) 1 [5] (some ⟨b, 0, none⟩) 1 _ _ [r] 1 1 rfl (by omega) rfl (by omega) (kin1 (W.alloc (.cells #[.slice A m c] 22)) (b + 1) 5 (by simp [hb])) hl (fun i hi => by
    match i, hi with
    | 0, _ => show r.length ≤ 1000000; omega)).mono ?_
  rintro e w' ⟨X, cx, rfl, hk, hbl⟩
  rw [mixR_one (by rw [hr]; exact ha)] at hk ⊢
  exact ⟨X, cx, by rw [hr], hk, b0.trans (hbl.mono b0.size)⟩
end Go.Proofs.YtghlapaoebelpaaDoor.softWithin
