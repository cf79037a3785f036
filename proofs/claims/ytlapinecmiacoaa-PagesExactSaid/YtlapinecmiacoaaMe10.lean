/-
  Plain numbers of layer 13: the root of a row, and its norm: what they are, their bounds, and what a turn in sign does. No program here. No conditions but those of each lemma.
-/
import Derived.Test.YtlapinecmiacoaaMe9
import Derived.Test.YtlapinecmiacoaaMe6
set_option maxRecDepth 100000
namespace Go.Proofs.Ytlapinecmiacoaa.Nr
open Go.RowKit Nm Sf

def sq (x : Int) : Int := sat x * sat x
def sqL (l : List Int) : List Int := l.map sq
def rootL (l : List Int) : Int := sqrt (mean (sqL l)) + 1
def gain (g : Int) : Int := 64 + clamp g (-128) 127
def one (x g r : Int) : Int := sat ((sat x * gain g).tdiv r)
def normL (g l : List Int) : List Int := (List.range l.length).map fun i => one (l.getD i 0) (g.getD i 0) (rootL l)
def ofL (g l : List Int) : List Int := if g.length = l.length then normL g l else []
def zeroL (n : Nat) : List Int := List.replicate n 0
def negL (l : List Int) : List Int := l.map fun x => -x

theorem sat_in (x : Int) : -32767 ≤ sat x ∧ sat x ≤ 32767 := ⟨clamp_lo _ _ _ (by omega), clamp_hi _ _ _ (by omega)⟩
theorem sat_same {x : Int} (h : -32767 ≤ x ∧ x ≤ 32767) : sat x = x := by unfold sat clamp; rw [if_neg (by omega), if_neg (by omega)]
theorem sat_neg (x : Int) : sat (-x) = -sat x := by
  unfold sat clamp
  split <;> split <;> (try split) <;> (try split) <;> omega
theorem sat_mono {x y : Int} (h : x ≤ y) : sat x ≤ sat y := by
  unfold sat clamp
  split <;> split <;> (try split) <;> (try split) <;> omega
theorem gain_in (g : Int) : -64 ≤ gain g ∧ gain g ≤ 191 := by
  have h1 := clamp_lo g (-128) 127 (by omega)
  have h2 := clamp_hi g (-128) 127 (by omega)
  unfold gain
  omega
theorem gain_zero : gain 0 = 64 := by decide
theorem abs_mul {x y a b : Int} (ha : 0 ≤ a) (hb : 0 ≤ b) (hx : -a ≤ x ∧ x ≤ a) (hy : -b ≤ y ∧ y ≤ b) : -(a * b) ≤ x * y ∧ x * y ≤ a * b := by
  have e := Int.natAbs_mul x y
  have e2 := Int.natAbs_mul a b
  have h := Nat.mul_le_mul (show x.natAbs ≤ a.natAbs by omega) (show y.natAbs ≤ b.natAbs by omega)
  have hab := Int.mul_nonneg ha hb
  rw [← e, ← e2] at h
  omega
theorem self_nonneg (x : Int) : 0 ≤ x * x := by
  rcases Int.le_total 0 x with h | h
  · exact Int.mul_nonneg h h
  · exact Int.mul_nonneg_of_nonpos_of_nonpos h h
theorem sq_in (x : Int) : 0 ≤ sq x ∧ sq x ≤ 1073676289 := by
  have h := sat_in x
  have h1 := abs_mul (a := 32767) (b := 32767) (by omega) (by omega) h h
  have h2 := self_nonneg (sat x)
  unfold sq
  omega
theorem sqL_length (l : List Int) : (sqL l).length = l.length := by simp [sqL]
theorem sqL_at (l : List Int) (i : Nat) (h : i < l.length) : (sqL l).getD i 0 = sq (l.getD i 0) := by
  unfold sqL
  rw [List.getD_eq_getElem?_getD, List.getElem?_map, List.getD_eq_getElem?_getD (l := l), List.getElem?_eq_getElem h]
  rfl
theorem sqL_small (l : List Int) : ∀ x ∈ sqL l, 0 ≤ x ∧ x ≤ 1073741824 := fun x hx => by
  obtain ⟨y, _, rfl⟩ := List.mem_map.1 hx
  have := sq_in y
  omega
/-- Few numbers of that size: their sum is nowhere clamped. -/
theorem fold_plus : ∀ (l : List Int) (t : Int), (∀ x ∈ l, 0 ≤ x ∧ x ≤ 1073741824) → 0 ≤ t → t + 1073741824 * l.length ≤ 4611686018427387904 → l.foldl plus t = t + total l ∧ 0 ≤ total l ∧ total l ≤ 1073741824 * l.length
  | [], t, _, _, _ => by simp [total]
  | x :: l, t, h, h0, h1 => by
    have hx := h x (by simp)
    rw [List.length_cons, Int.natCast_add] at h1
    have e : plus t x = t + x := by
      unfold plus term clamp
      rw [if_neg (by omega), if_neg (by omega), if_neg (by omega), if_neg (by omega)]
    have h2 := fold_plus l (t + x) (fun y hy => h y (by simp [hy])) (by omega) (by omega)
    rw [List.foldl_cons, e, total_cons, List.length_cons, Int.natCast_add]
    omega
theorem sum_sq (l : List Int) (h : l.length ≤ 1000000) : sum (sqL l) = total (sqL l) ∧ 0 ≤ total (sqL l) ∧ total (sqL l) ≤ 1073741824 * l.length := by
  have := fold_plus (sqL l) 0 (sqL_small l) (by omega) (by rw [sqL_length]; omega)
  rw [sqL_length] at this
  unfold sum
  omega
theorem mean_sq (l : List Int) (h : l.length ≤ 1000000) : mean (sqL l) = (total (sqL l)).tdiv l.length ∧ 0 ≤ mean (sqL l) ∧ mean (sqL l) ≤ 1073741824 ∧ (0 < l.length → total (sqL l) < (mean (sqL l) + 1) * l.length) := by
  obtain ⟨h1, h2, h3⟩ := sum_sq l h
  unfold mean
  rw [h1, sqL_length]
  by_cases h0 : l.length = 0
  · rw [h0]
    simp [div]
  · have e : div (total (sqL l)) (l.length : Int) = (total (sqL l)).fdiv l.length := by
      unfold div
      rw [if_neg (by omega), if_neg (by omega)]
    have hf := fdiv_mul (total (sqL l)) l.length
    have hm := fmod_pos (total (sqL l)) l.length (by omega)
    rw [e, Int.fdiv_eq_tdiv_of_nonneg h2 (by omega)] at *
    generalize (total (sqL l)).fmod l.length = r at hf hm
    generalize total (sqL l) = s at *
    generalize hq : s.tdiv l.length = q at *
    generalize (l.length : Int) = n at *
    refine ⟨rfl, ?_, ?_, fun _ => by rw [Int.add_mul]; omega⟩
    · rw [← hq]; exact Int.tdiv_nonneg h2 (by omega)
    · apply Int.not_lt.1
      intro hl
      have := Int.mul_le_mul_of_nonneg_right (show 1073741825 ≤ q by omega) (show 0 ≤ n by omega)
      omega
theorem root_in (l : List Int) (h : l.length ≤ 1000000) : 1 ≤ rootL l ∧ rootL l ≤ 32769 := by
  obtain ⟨_, h1, h2, _⟩ := mean_sq l h
  have h3 := sqrt_spec _ h1
  have h4 := sqrt_le (mean (sqL l)) 32768 (by omega) (by omega)
  unfold rootL
  omega
/-- All squares are less than as many squares of the root. -/
theorem root_big (l : List Int) (h : l.length ≤ 1000000) (h0 : 0 < l.length) : total (sqL l) < rootL l * rootL l * l.length := by
  obtain ⟨_, h1, h2, h3⟩ := mean_sq l h
  have h4 := sqrt_spec _ h1
  have h5 := h3 h0
  unfold rootL
  have h6 := Int.mul_le_mul_of_nonneg_right (show mean (sqL l) + 1 ≤ (sqrt (mean (sqL l)) + 1) * (sqrt (mean (sqL l)) + 1) by omega) (show 0 ≤ (l.length : Int) by omega)
  omega
theorem root_ref (l : List Int) (h : l.length ≤ 1000000) : sqrt ((total (sqL l)).tdiv l.length) + 1 = rootL l := by
  unfold rootL
  rw [(mean_sq l h).1]
theorem sq_take (l : List Int) (k : Nat) (h : l.length ≤ 1000000) : 0 ≤ total ((sqL l).take k) ∧ total ((sqL l).take k) ≤ 1073741824000000 := by
  have e : (sqL l).take k = sqL (l.take k) := by unfold sqL; rw [List.map_take]
  have h1 := sum_sq (l.take k) (by rw [List.length_take]; omega)
  rw [List.length_take] at h1
  rw [e]
  omega
theorem root_nil : rootL [] = 1 := by decide
/-- A number of a norm, ahead of Sat: nothing wraps. -/
theorem prod_in (x g : Int) : -6258497 ≤ sat x * gain g ∧ sat x * gain g ≤ 6258497 := by
  have h1 := abs_mul (a := 32767) (b := 191) (by omega) (by omega) (sat_in x) (show -191 ≤ gain g ∧ gain g ≤ 191 by have := gain_in g; omega)
  omega
theorem quo_in {y r : Int} (hy : -6258497 ≤ y ∧ y ≤ 6258497) : -6258497 ≤ y.tdiv r ∧ y.tdiv r ≤ 6258497 := by
  have h : (y.tdiv r).natAbs = y.natAbs / r.natAbs := Int.natAbs_tdiv y r
  have h2 : y.natAbs / r.natAbs ≤ y.natAbs := Nat.div_le_self _ _
  omega
theorem normL_length (g l : List Int) : (normL g l).length = l.length := by simp [normL]
theorem normL_at (g l : List Int) (i : Nat) (h : i < l.length) : (normL g l).getD i 0 = one (l.getD i 0) (g.getD i 0) (rootL l) := by
  unfold normL
  rw [List.getD_eq_getElem?_getD, List.getElem?_map, List.getElem?_range h]
  rfl
theorem ofL_same {g l : List Int} (h : g.length = l.length) : ofL g l = normL g l := if_pos h
theorem ofL_not {g l : List Int} (h : g.length ≠ l.length) : ofL g l = [] := if_neg h
theorem zeroL_length (n : Nat) : (zeroL n).length = n := by simp [zeroL]
theorem zeroL_at (n i : Nat) : (zeroL n).getD i 0 = 0 := by
  unfold zeroL
  rw [List.getD_eq_getElem?_getD]
  cases h : (List.replicate n (0 : Int))[i]? with
  | none => rfl
  | some z =>
    have := List.mem_of_getElem? h
    rw [List.mem_replicate] at this
    exact this.2

/-! A turn in sign -/
theorem negL_length (l : List Int) : (negL l).length = l.length := by simp [negL]
theorem negL_at (l : List Int) (i : Nat) (h : i < l.length) : (negL l).getD i 0 = -l.getD i 0 := by
  unfold negL
  rw [List.getD_eq_getElem?_getD, List.getElem?_map, List.getD_eq_getElem?_getD (l := l), List.getElem?_eq_getElem h]
  rfl
theorem sq_neg (x : Int) : sq (-x) = sq x := by unfold sq; rw [sat_neg, Int.neg_mul_neg]
theorem sqL_neg (l : List Int) : sqL (negL l) = sqL l := by
  unfold sqL negL
  rw [List.map_map]
  exact List.map_congr_left fun x _ => sq_neg x
theorem root_neg (l : List Int) : rootL (negL l) = rootL l := by unfold rootL; rw [sqL_neg]
theorem one_neg (x g r : Int) : one (-x) g r = -one x g r := by
  unfold one
  rw [sat_neg, Int.neg_mul, Int.neg_tdiv, sat_neg]
theorem norm_neg (g l : List Int) (i : Nat) (h : i < l.length) : (normL g (negL l)).getD i 0 = -(normL g l).getD i 0 := by
  rw [normL_at _ _ i (by rw [negL_length]; exact h), normL_at _ _ i h, negL_at _ _ h, root_neg, one_neg]
/-- What is greater isn't less in its plain norm. -/
theorem one_mono {x y r : Int} (hr : 1 ≤ r) (h : x ≤ y) : one x 0 r ≤ one y 0 r := by
  unfold one
  rw [gain_zero]
  have h1 := sat_mono h
  exact sat_mono (Int.tdiv_le_tdiv (by omega) (by omega))
/-- How a row is ordered plays no part in its root. -/
theorem total_append (a b : List Int) : total (a ++ b) = total a + total b := by
  unfold total
  rw [List.foldl_append, foldl_add]
  rfl
theorem root_turn (l : List Int) (k : Nat) (h : l.length ≤ 1000000) : rootL (l.drop k ++ l.take k) = rootL l := by
  have hl : (l.drop k ++ l.take k).length = l.length := by rw [List.length_append, List.length_drop, List.length_take]; omega
  have e : total (sqL (l.drop k ++ l.take k)) = total (sqL l) := by
    have e1 : sqL l = sqL (l.take k) ++ sqL (l.drop k) := by unfold sqL; rw [← List.map_append, List.take_append_drop]
    have e2 : sqL (l.drop k ++ l.take k) = sqL (l.drop k) ++ sqL (l.take k) := by unfold sqL; rw [List.map_append]
    rw [e1, e2, total_append, total_append, Int.add_comm]
  rw [← root_ref l h, ← root_ref _ (by omega), e, hl]

/-! Bounds of a plain norm -/
def plain (l : List Int) : List Int := normL (zeroL l.length) l
def sqs (l : List Int) : Int := total (l.map fun x => x * x)
theorem plain_length (l : List Int) : (plain l).length = l.length := normL_length _ _
theorem plain_at (l : List Int) (i : Nat) (h : i < l.length) : (plain l).getD i 0 = one (l.getD i 0) 0 (rootL l) := by
  unfold plain
  rw [normL_at _ _ _ h, zeroL_at]
theorem abs_sat (x : Int) : (sat x).natAbs ≤ x.natAbs := by
  unfold sat clamp
  split <;> (try split) <;> omega
theorem sq_natAbs (x : Int) : x * x = ((x.natAbs * x.natAbs : Nat) : Int) := by rw [Int.natCast_mul, Int.natAbs_mul_self']
theorem one_sq (x r : Int) : one x 0 r * one x 0 r * (r * r) ≤ 4096 * sq x := by
  have h1 : (one x 0 r).natAbs * r.natAbs ≤ 64 * (sat x).natAbs := by
    unfold one
    rw [gain_zero]
    have h2 := abs_sat ((sat x * 64).tdiv r)
    rw [Int.natAbs_tdiv, Int.natAbs_mul, show ∀ a b : Nat, a.div b = a / b from fun _ _ => rfl] at h2
    have h3 := Nat.div_mul_le_self ((sat x).natAbs * (64 : Int).natAbs) r.natAbs
    have h4 := Nat.mul_le_mul_right r.natAbs h2
    have h5 : (64 : Int).natAbs = 64 := rfl
    rw [h5] at h3 h4
    omega
  have h2 := Nat.mul_le_mul h1 h1
  unfold sq
  generalize one x 0 r = y at *
  generalize sat x = z at *
  rw [sq_natAbs y, sq_natAbs z, sq_natAbs r, ← Int.natCast_mul]
  generalize r.natAbs = R at *
  generalize y.natAbs = Y at *
  generalize z.natAbs = Z at *
  have e1 : Y * R * (Y * R) = Y * Y * (R * R) := by ac_rfl
  have e2 : 64 * Z * (64 * Z) = 4096 * (Z * Z) := by
    rw [show 64 * Z * (64 * Z) = 64 * 64 * (Z * Z) by ac_rfl]
  rw [e1, e2] at h2
  generalize Y * Y * (R * R) = a at *
  generalize Z * Z = b at *
  omega
theorem sqs_cons (x : Int) (l : List Int) : sqs (x :: l) = x * x + sqs l := by unfold sqs; rw [List.map_cons, total_cons]
theorem sqs_next (l : List Int) (i : Nat) (h : i < l.length) : sqs (l.take (i + 1)) = sqs (l.take i) + l.getD i 0 * l.getD i 0 := by
  unfold sqs
  rw [List.take_succ_eq_append_getElem h, List.map_append, total_append, List.getD_eq_getElem?_getD, List.getElem?_eq_getElem h]
  simp [total]
theorem sqs_nonneg (l : List Int) : 0 ≤ sqs l := by
  induction l with
  | nil => simp [sqs, total]
  | cons x l ih =>
    rw [sqs_cons]
    have := self_nonneg x
    omega
theorem sqs_up (l : List Int) (i : Nat) : sqs (l.take i) ≤ sqs l := by
  have e : sqs l = sqs (l.take i) + sqs (l.drop i) := by
    unfold sqs
    rw [← total_append, ← List.map_append, List.take_append_drop]
  have := sqs_nonneg (l.drop i)
  omega
theorem sqs_ones (r : Int) : ∀ l : List Int, sqs (l.map fun x => one x 0 r) * (r * r) ≤ 4096 * total (sqL l)
  | [] => by simp [sqs, sqL, total]
  | x :: l => by
    have h1 := sqs_ones r l
    have h2 := one_sq x r
    rw [List.map_cons, sqs_cons, Int.add_mul, show sqL (x :: l) = sq x :: sqL l from rfl, total_cons, Int.mul_add]
    omega
theorem plain_map (l : List Int) : plain l = l.map fun x => one x 0 (rootL l) := by
  apply List.ext_getElem
  · rw [plain_length, List.length_map]
  · intro i h1 h2
    have := plain_at l i (by rw [plain_length] at h1; exact h1)
    rw [List.getD_eq_getElem?_getD, List.getElem?_eq_getElem h1] at this
    rw [List.getElem_map]
    rw [List.getD_eq_getElem?_getD, List.getElem?_eq_getElem (by rw [plain_length] at h1; exact h1)] at this
    exact this
theorem plain_sqs (l : List Int) (h : l.length ≤ 1000000) : sqs (plain l) ≤ 4096 * l.length := by
  by_cases h0 : l.length = 0
  · have := List.length_eq_zero_iff.1 h0
    subst this
    decide
  · have hr := root_in l h
    have h1 := sqs_ones (rootL l) l
    have h2 := root_big l h (by omega)
    rw [← plain_map] at h1
    generalize sqs (plain l) = s at *
    generalize rootL l = r at *
    have hrr : 1 ≤ r * r := by
      have := Int.mul_le_mul hr.1 hr.1 (by omega) (by omega)
      omega
    generalize r * r = q at *
    generalize total (sqL l) = t at *
    apply Int.not_lt.1
    intro hl
    have h3 := Int.mul_le_mul_of_nonneg_right (show 4096 * (l.length : Int) + 1 ≤ s by omega) (show 0 ≤ q by omega)
    have h4 : (4096 * (l.length : Int) + 1) * q = 4096 * (q * l.length) + q := by rw [Int.add_mul, Int.one_mul, Int.mul_assoc, Int.mul_comm (l.length : Int) q]
    omega
theorem plain_in (l : List Int) (h : l.length ≤ 64) (i : Nat) (hi : i < l.length) : -512 ≤ (plain l).getD i 0 ∧ (plain l).getD i 0 ≤ 512 := by
  have h1 := plain_sqs l (by omega)
  have h2 := sqs_up (plain l) (i + 1)
  rw [sqs_next _ _ (by rw [plain_length]; exact hi)] at h2
  have h3 := sqs_nonneg ((plain l).take i)
  generalize (plain l).getD i 0 = y at *
  have hy : y * y ≤ 262144 := by omega
  constructor
  · apply Int.not_lt.1
    intro hl
    have := Int.mul_le_mul (show 513 ≤ -y by omega) (show 513 ≤ -y by omega) (by omega) (by omega)
    rw [Int.neg_mul_neg] at this
    omega
  · apply Int.not_lt.1
    intro hl
    have := Int.mul_le_mul (show 513 ≤ y by omega) (show 513 ≤ y by omega) (by omega) (by omega)
    omega
end Go.Proofs.Ytlapinecmiacoaa.Nr
