/-
  Plain numbers of layer 12: who is chosen by a draw, and how often. No program here. No conditions but those of each lemma.
-/
import Derived.Test.YtghlapaoebelpaaDoorSfMix
namespace Go.Proofs.YtghlapaoebelpaaDoor.Sf
open Go.RowKit Nm

/-- The place in which a number below the sum lies. -/
def findP : Int → List Int → Nat
  | _, [] => 0
  | d, w :: ws => if d < w then 0 else findP (d - w) ws + 1
/-- Whether there is a choice; who is chosen, -1: nobody. -/
def okP (ws : List Int) : Prop := InW 1048576 ws ∧ ws.length ≤ 64 ∧ 0 < total ws
def pickL (draw : Int) (ws : List Int) : Int := (findP (draw.emod (total ws)) ws : Int)
theorem findP_spec {m : Int} : ∀ (ws : List Int) (d : Int), InW m ws → 0 ≤ d → d < total ws →
    findP d ws < ws.length ∧ total (ws.take (findP d ws)) ≤ d ∧ d < total (ws.take (findP d ws + 1))
  | [], d, _, h0, h1 => by simp [total] at h1; omega
  | w :: ws, d, hw, h0, h1 => by
    obtain ⟨hw1, hw2⟩ := inW_cons hw
    rw [total_cons] at h1
    unfold findP
    by_cases h : d < w
    · rw [if_pos h]
      refine ⟨by simp, ?_, ?_⟩
      · show total [] ≤ d
        exact h0
      · show d < total [w]
        rw [total_cons]
        show d < w + 0
        omega
    · rw [if_neg h]
      obtain ⟨h2, h3, h4⟩ := findP_spec ws (d - w) hw2 (by omega) (by omega)
      refine ⟨by simpa using h2, ?_, ?_⟩
      · rw [List.take_succ_cons, total_cons]; omega
      · rw [List.take_succ_cons, total_cons]; omega
theorem total_mono {m : Int} {ws : List Int} (hw : InW m ws) {i : Nat} : ∀ {k : Nat}, i ≤ k → k ≤ ws.length → total (ws.take i) ≤ total (ws.take k) := by
  intro k
  induction k with
  | zero => intro h _; rw [show i = 0 by omega]; exact Int.le_refl _
  | succ k ih =>
    intro h hk
    by_cases e : i = k + 1
    · rw [e]; exact Int.le_refl _
    · have h1 := ih (by omega) (by omega)
      rw [total_next ws k (by omega)]
      have := (hw k (by omega)).1
      omega
/-- The place is the only one. -/
theorem findP_only {m : Int} {ws : List Int} {d : Int} (hw : InW m ws) (h0 : 0 ≤ d) (h1 : d < total ws) {i : Nat} (hi : i < ws.length) (h2 : total (ws.take i) ≤ d) (h3 : d < total (ws.take (i + 1))) : findP d ws = i := by
  obtain ⟨p1, p2, p3⟩ := findP_spec ws d hw h0 h1
  rcases Nat.lt_trichotomy (findP d ws) i with h | h | h
  · have := total_mono hw (show findP d ws + 1 ≤ i from h) (by omega)
    omega
  · exact h
  · have := total_mono hw (show i + 1 ≤ findP d ws from h) (by omega)
    omega
theorem findP_weight {m : Int} {ws : List Int} {d : Int} (hw : InW m ws) (h0 : 0 ≤ d) (h1 : d < total ws) : 0 < ws.getD (findP d ws) 0 := by
  obtain ⟨p1, p2, p3⟩ := findP_spec ws d hw h0 h1
  rw [total_next ws _ p1] at p3
  omega
/-- How often a place was chosen by the draws below d. -/
def cntP (ws : List Int) (d : Int) (i : Nat) : Int := min (max (d - total (ws.take i)) 0) (ws.getD i 0)
theorem cntP_zero {m : Int} {ws : List Int} (hw : InW m ws) {i : Nat} (hi : i < ws.length) : cntP ws 0 i = 0 := by
  have h1 := (total_in (m := m) (by have := hw i hi; omega) _ (inW_take hw i)).1
  have h2 := hw i hi
  unfold cntP
  omega
theorem cntP_next {m : Int} {ws : List Int} {d : Int} (hw : InW m ws) (h0 : 0 ≤ d) (h1 : d < total ws) {i : Nat} (hi : i < ws.length) :
    cntP ws (d + 1) i = if i = findP d ws then cntP ws d i + 1 else cntP ws d i := by
  have h2 := total_next ws i hi
  have h3 := hw i hi
  by_cases e : i = findP d ws
  · rw [if_pos e]
    obtain ⟨p1, p2, p3⟩ := findP_spec ws d hw h0 h1
    rw [← e] at p2 p3
    rw [h2] at p3
    unfold cntP
    omega
  · rw [if_neg e]
    have h4 : ¬ (total (ws.take i) ≤ d ∧ d < total (ws.take (i + 1))) := fun h => e (findP_only hw h0 h1 hi h.1 h.2).symm
    rw [h2] at h4
    unfold cntP
    omega
theorem cntP_all {m : Int} {ws : List Int} (hw : InW m ws) {i : Nat} (hi : i < ws.length) : cntP ws (total ws) i = ws.getD i 0 := by
  have h1 := total_mono hw (show i + 1 ≤ ws.length from hi) (Nat.le_refl _)
  rw [total_next ws i hi, List.take_of_length_le (Nat.le_refl _)] at h1
  have h3 := hw i hi
  unfold cntP
  omega
theorem cntP_in {m : Int} {ws : List Int} (hw : InW m ws) {i : Nat} (hi : i < ws.length) (d : Int) : 0 ≤ cntP ws d i ∧ cntP ws d i ≤ m := by
  have h3 := hw i hi
  unfold cntP
  omega
/-- Of a draw whatever it is. -/
theorem pick_spec {draw : Int} {ws : List Int} (h : okP ws) : 0 ≤ pickL draw ws ∧ pickL draw ws < ws.length ∧ 0 < ws.getD (pickL draw ws).toNat 0 := by
  obtain ⟨hw, _, hs⟩ := h
  have h0 := Int.emod_nonneg draw (show total ws ≠ 0 by omega)
  have h1 := Int.emod_lt_of_pos draw hs
  have h2 := findP_spec ws _ hw h0 h1
  have h3 := findP_weight hw h0 h1
  unfold pickL
  refine ⟨by omega, by exact Int.ofNat_lt.2 h2.1, ?_⟩
  rw [Int.toNat_natCast]
  exact h3
/-- The program's way to a number from 0 on. -/
theorem emod_way (d s : Int) (hs : 0 < s) : d.emod s = if d.tmod s < 0 then d.tmod s + s else d.tmod s := by
  show d % s = _
  by_cases h : 0 ≤ d
  · rw [Int.tmod_eq_emod_of_nonneg h]
    have := Int.emod_nonneg d (show s ≠ 0 by omega)
    rw [if_neg (by omega)]
  · have e := Int.mul_tdiv_add_tmod d s
    have h1 : d.tmod s ≤ 0 := by
      have := Int.tmod_nonneg s (show 0 ≤ -d by omega)
      rw [Int.neg_tmod] at this
      omega
    have h2 : -s < d.tmod s := by
      have := Int.tmod_lt_of_pos (-d) hs
      rw [Int.neg_tmod] at this
      omega
    have e3 : d % s = (d.tmod s) % s := by
      have : d = d.tmod s + s * d.tdiv s := by omega
      rw [this, Int.add_mul_emod_self_left]
      congr 1
      rw [← this]
    rw [e3]
    by_cases hn : d.tmod s < 0
    · rw [if_pos hn]
      have : (d.tmod s) % s = (d.tmod s + s) % s := by rw [Int.add_emod_right]
      rw [this]
      exact Int.emod_eq_of_lt (by omega) (by omega)
    · rw [if_neg hn]
      exact Int.emod_eq_of_lt (by omega) (by omega)
/-- The search, one place on. -/
theorem findP_next {ws : List Int} {d : Int} : ∀ {i : Nat}, i < ws.length → (∀ j, j < i → total (ws.take (j + 1)) ≤ d) → (d - total (ws.take i) < ws.getD i 0 → findP d ws = i) := by
  intro i
  induction i generalizing ws d with
  | zero =>
    intro hi _ hd
    cases ws with
    | nil => simp at hi
    | cons w ws =>
      unfold findP
      rw [if_pos (by show d < w; simpa [total] using hd)]
  | succ i ih =>
    intro hi hj hd
    cases ws with
    | nil => simp at hi
    | cons w ws =>
      have h1 := hj 0 (by omega)
      rw [List.take_succ_cons, total_cons] at h1
      have h0 : total (ws.take 0) = 0 := rfl
      unfold findP
      rw [if_neg (by omega), ih (ws := ws) (d := d - w) (by simpa using hi) (fun j hjj => by
        have := hj (j + 1) (by omega)
        rw [List.take_succ_cons, total_cons] at this
        omega) (by
        rw [List.take_succ_cons, total_cons] at hd
        show d - w - _ < ws.getD i 0
        have : (w :: ws).getD (i + 1) 0 = ws.getD i 0 := rfl
        rw [this] at hd
        omega)]
end Go.Proofs.YtghlapaoebelpaaDoor.Sf
