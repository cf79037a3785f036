/-
  TwinExact in plain words: what the reference finds last, and what is opened, are one; a save's bytes. No program's function here. No conditions.
  The reference of layer 7: Last, Save. Conditions: all bytes of so many sectors, an even number of them, 4 to 24.
  Law 07's own helper: the document's example. Condition: both tables of sums lie as the program's text lays them.
  Law 07: a twin of a whole disk: what stands behind a format, a save, and its bytes. Condition: both tables of sums lie as the program's text lays them.
-/
import Derived.Test.YtblgabdlpobbjaaGreatDoorMg14
import Derived.Test.YtblgabdlpobbjaaGreatDoorMg16
import Derived.Test.YtblgabdlpobbjaaGreatDoorMg6
import Derived.Deep.OwnRows
set_option maxRecDepth 100000
namespace Go.Proofs.YtblgabdlpobbjaaGreatDoor
open Go Go.RowKit Pn Dk Sl
namespace Tw
theorem getR_num (rd : Nat → Nat → UInt8) (n p : Nat) : (getR rd n p).2.1 ≤ 2147483647 := by
  unfold getR
  split
  · split
    · exact numG_le _
    · exact Nat.zero_le _
  · exact Nat.zero_le _
/-- Of fewer places there is got the same, or the text is longer. -/
theorem ok_less {rd : Nat → Nat → UInt8} {h m : Nat} (hle : h ≤ m) (ho : okG rd h 0 = true) : okG rd m 0 = true ∧ szN (Sl.lenV rd 0) ≤ h := by
  obtain ⟨o1, o2, o3, o4⟩ := (okG_iff rd h 0).1 ho
  refine ⟨(okG_iff rd m 0).2 ⟨o1, (jnOk_iff _ _ _ _ _).2 fun i hi => ?_, o3, (jnOk_iff _ _ _ _ _).2 fun i hi => ?_⟩, ?_⟩
  · have := (jnOk_iff _ _ _ _ _).1 o2 i hi
    exact ⟨by omega, this.2⟩
  · have := (jnOk_iff _ _ _ _ _).1 o4 i hi
    exact ⟨by omega, this.2⟩
  · have h2 := szN_two (Sl.lenV rd 0)
    have := ((jnOk_iff _ _ _ _ _).1 o4 (szN (Sl.lenV rd 0) - 1) (by omega)).1
    omega
theorem ok_more {rd : Nat → Nat → UInt8} {h m : Nat} (h2 : 2 ≤ h) (ho : okG rd m 0 = true) (hs : szN (Sl.lenV rd 0) ≤ h) : okG rd h 0 = true := by
  obtain ⟨o1, o2, o3, o4⟩ := (okG_iff rd m 0).1 ho
  refine (okG_iff rd h 0).2 ⟨o1, (jnOk_iff _ _ _ _ _).2 fun i hi => ?_, o3, (jnOk_iff _ _ _ _ _).2 fun i hi => ?_⟩
  · exact ⟨by omega, ((jnOk_iff _ _ _ _ _).1 o2 i hi).2⟩
  · exact ⟨by omega, ((jnOk_iff _ _ _ _ _).1 o4 i hi).2⟩
theorem got_zero {rd : Nat → Nat → UInt8} {m : Nat} (h : (getR rd m 0).2.2 = 0) : okG rd m 0 = true ∧ (getR rd m 0).1.size = Sl.lenV rd 0 := by
  unfold getR at h ⊢
  by_cases ho : okG rd m 0 = true
  · rw [if_pos ho] at h ⊢
    by_cases hs : allG rd 0 = sealL (textG rd 0)
    · rw [if_pos hs]
      exact ⟨ho, textG_len rd⟩
    · rw [if_neg hs] at h
      exact absurd h (by decide)
  · rw [if_neg ho] at h
    exact absurd h (by decide)
theorem got_less {rd : Nat → Nat → UInt8} {h m : Nat} (h2 : 2 ≤ h) (hle : h ≤ m) (g : Nat) :
    ((getR rd m 0).2.2 = 0 ∧ 32 * szN (getR rd m 0).1.size ≤ 32 * h ∧ g < (getR rd m 0).2.1) ↔ ((getR rd h 0).2.2 = 0 ∧ g < (getR rd h 0).2.1) := by
  by_cases ho : okG rd h 0 = true
  · obtain ⟨hm, hs⟩ := ok_less hle ho
    have e : getR rd m 0 = getR rd h 0 := by unfold getR; rw [if_pos ho, if_pos hm]
    rw [e]
    refine ⟨fun h => ⟨h.1, h.2.2⟩, fun h => ⟨h.1, ?_, h.2⟩⟩
    rw [(got_zero h.1).2]
    omega
  · have e : (getR rd h 0).2.2 = 5 := by unfold getR; rw [if_neg ho]
    rw [e]
    refine ⟨fun h => ?_, fun h => by have := h.1; omega⟩
    obtain ⟨z1, z2⟩ := got_zero h.1
    rw [z2] at h
    exact absurd (ok_more h2 z1 (by omega)) ho
theorem got_same {rd : Nat → Nat → UInt8} {h m : Nat} (hle : h ≤ m) (e : (getR rd h 0).2.2 = 0) : getR rd m 0 = getR rd h 0 := by
  have ho := (got_zero e).1
  obtain ⟨hm, _⟩ := ok_less hle ho
  unfold getR
  rw [if_pos ho, if_pos hm]
/-- What the reference gets of a copy; the last one of the first k. -/
def rget (F : Nat → UInt8) (n k : Nat) : ByteArray × Nat × Nat := getR (sect fun j => F (k * (n / 2) * 32 + j)) (n - k * (n / 2)) 0
def racc (F : Nat → UInt8) (n : Nat) : Nat → ByteArray × Nat × Int
  | 0 => (⟨#[]⟩, 0, -1)
  | k + 1 => if (rget F n k).2.2 = 0 ∧ 32 * szN (rget F n k).1.size ≤ n * 16 ∧ (racc F n k).2.1 < (rget F n k).2.1 then ((rget F n k).1, (rget F n k).2.1, (k : Int)) else racc F n k
theorem racc_eq {x : Dk.St} {F : Nat → UInt8} (hF : x.now = F) {n : Nat} (h4 : 4 ≤ n) (h2 : n % 2 = 0) : ∀ k, k ≤ 2 → racc F n k = ((acc x 0 n k).1, (acc x 0 n k).2.1, if (acc x 0 n k).2.1 = 0 then -1 else ((acc x 0 n k).2.2 : Int))
  | 0, _ => rfl
  | k + 1, hk => by
    have ih := racc_eq hF h4 h2 k (by omega)
    have hk1 : k * (n / 2) ≤ 1 * (n / 2) := Nat.mul_le_mul_right _ (by omega)
    have er : rdZ x (0 + k * (n / 2)) = sect fun j => F (k * (n / 2) * 32 + j) := by
      funext i j
      show sect x.now (0 + k * (n / 2) + i) j = _
      rw [hF]
      show F ((0 + k * (n / 2) + i) * 32 + j) = F (k * (n / 2) * 32 + (i * 32 + j))
      congr 1
      rw [Nat.zero_add, Nat.add_mul, Nat.add_assoc]
    have eg : getS x 0 n k = getR (sect fun j => F (k * (n / 2) * 32 + j)) (n / 2) 0 := by unfold getS; rw [er]
    have hiff := got_less (rd := sect fun j => F (k * (n / 2) * 32 + j)) (h := n / 2) (m := n - k * (n / 2)) (by omega) (by omega) (racc F n k).2.1
    rw [← eg] at hiff
    have e16 : 32 * (n / 2) = n * 16 := by omega
    rw [e16] at hiff
    show (if (rget F n k).2.2 = 0 ∧ 32 * szN (rget F n k).1.size ≤ n * 16 ∧ (racc F n k).2.1 < (rget F n k).2.1 then ((rget F n k).1, (rget F n k).2.1, (k : Int)) else racc F n k) = _
    have ha : (racc F n k).2.1 = (acc x 0 n k).2.1 := by rw [ih]
    by_cases hc : (getS x 0 n k).2.2 = 0 ∧ (acc x 0 n k).2.1 < (getS x 0 n k).2.1
    · have e1 : acc x 0 n (k + 1) = ((getS x 0 n k).1, (getS x 0 n k).2.1, k) := if_pos hc
      have e2 : rget F n k = getS x 0 n k := by
        rw [eg]
        exact got_same (by omega) (by rw [← eg]; exact hc.1)
      rw [← ha] at hc
      rw [if_pos (show (rget F n k).2.2 = 0 ∧ 32 * szN (rget F n k).1.size ≤ n * 16 ∧ (racc F n k).2.1 < (rget F n k).2.1 from hiff.2 hc), e1, e2]
      have := hc.2
      rw [if_neg (by show ¬ (getS x 0 n k).2.1 = 0; omega)]
    · have e1 : acc x 0 n (k + 1) = acc x 0 n k := if_neg hc
      rw [← ha] at hc
      rw [if_neg (show ¬ ((rget F n k).2.2 = 0 ∧ 32 * szN (rget F n k).1.size ≤ n * 16 ∧ (racc F n k).2.1 < (rget F n k).2.1) from fun h => hc (hiff.1 h)), e1, ih]
/-- The last one, of what is got of both. -/
theorem acc_of {x : Dk.St} {f n k g : Nat} {t : ByteArray} (hk : k < 2) (hc : getS x f n k = (t, g, 0)) (h1 : 1 ≤ g) (hd : (getS x f n (1 - k)).2.2 = 0 → (getS x f n (1 - k)).2.1 < g) : acc x f n 2 = (t, g, k) := by
  match k, hk with
  | 0, _ =>
    have hd' : (getS x f n 1).2.2 = 0 → (getS x f n 1).2.1 < g := hd
    have e1 : acc x f n 1 = (t, g, 0) := by
      show (if (getS x f n 0).2.2 = 0 ∧ 0 < (getS x f n 0).2.1 then ((getS x f n 0).1, (getS x f n 0).2.1, 0) else (⟨#[]⟩, 0, 0)) = _
      rw [hc, if_pos ⟨rfl, h1⟩]
    show (if (getS x f n 1).2.2 = 0 ∧ (acc x f n 1).2.1 < (getS x f n 1).2.1 then _ else acc x f n 1) = _
    rw [e1, if_neg (fun h => by have := hd' h.1; have := h.2; simp only at this; omega)]
  | 1, _ =>
    have e1 : (acc x f n 1).2.1 < g := by
      show (if (getS x f n 0).2.2 = 0 ∧ 0 < (getS x f n 0).2.1 then ((getS x f n 0).1, (getS x f n 0).2.1, 0) else (⟨#[]⟩, 0, 0)).2.1 < _
      by_cases h : (getS x f n 0).2.2 = 0 ∧ 0 < (getS x f n 0).2.1
      · rw [if_pos h]
        exact hd h.1
      · rw [if_neg h]
        exact h1
    show (if (getS x f n 1).2.2 = 0 ∧ (acc x f n 1).2.1 < (getS x f n 1).2.1 then _ else acc x f n 1) = _
    rw [hc, if_pos ⟨rfl, e1⟩]
theorem acc_inv (x : Dk.St) (f n : Nat) (h : 1 ≤ (acc x f n 2).2.1) : (acc x f n 2).2.2 < 2 ∧ getS x f n (acc x f n 2).2.2 = ((acc x f n 2).1, (acc x f n 2).2.1, 0) ∧ (acc x f n 2).2.1 ≤ 2147483647 := by
  have key : ∀ k, 1 ≤ (acc x f n k).2.1 → (acc x f n k).2.2 < k ∧ getS x f n (acc x f n k).2.2 = ((acc x f n k).1, (acc x f n k).2.1, 0) := by
    intro k
    induction k with
    | zero => exact fun h => absurd h (by show ¬ 1 ≤ 0; decide)
    | succ k ih =>
      by_cases hc : (getS x f n k).2.2 = 0 ∧ (acc x f n k).2.1 < (getS x f n k).2.1
      · rw [show acc x f n (k + 1) = ((getS x f n k).1, (getS x f n k).2.1, k) from if_pos hc]
        refine fun _ => ⟨Nat.lt_succ_self k, ?_⟩
        show getS x f n k = ((getS x f n k).1, (getS x f n k).2.1, 0)
        rw [← hc.1]
      · rw [show acc x f n (k + 1) = acc x f n k from if_neg hc]
        exact fun h => ⟨Nat.lt_succ_of_lt (ih h).1, (ih h).2⟩
  obtain ⟨h1, h2⟩ := key 2 h
  refine ⟨h1, h2, ?_⟩
  have := getR_num (rdZ x (f + (acc x f n 2).2.2 * (n / 2))) (n / 2) 0
  rw [show getR (rdZ x (f + (acc x f n 2).2.2 * (n / 2))) (n / 2) 0 = _ from h2] at this
  exact this
theorem getR_near {rd rd' : Nat → Nat → UInt8} {n : Nat} (h2 : 2 ≤ n) (h : ∀ i, i < n → ∀ j, j < 32 → rd i j = rd' i j) : getR rd n 0 = getR rd' n 0 := by
  have h0 : numG (rd 0) = numG (rd' 0) := numG_congr fun j hj => h 0 (by omega) j hj
  have hl : Sl.lenV rd 0 = Sl.lenV rd' 0 := by
    unfold Sl.lenV
    rw [h 1 (by omega) 4 (by omega), h 1 (by omega) 5 (by omega), h 1 (by omega) 6 (by omega), h 1 (by omega) 7 (by omega)]
  have hj : ∀ num k, jnOk rd n 0 num k = jnOk rd' n 0 num k := fun num k => jnOk_congr (fun i => Iff.rfl) k fun i _ hi j hj => by
    rw [Nat.zero_add]
    exact h i (by omega) j hj
  have ho : okG rd n 0 = okG rd' n 0 := by
    unfold okG
    rw [h0, hl, hj, hj]
  unfold getR
  rw [ho]
  by_cases hok : okG rd' n 0 = true
  · obtain ⟨_, hs⟩ := ok_less (Nat.le_refl n) hok
    have ha : allG rd 0 = allG rd' 0 := by
      unfold allG
      rw [hl]
      exact jnL_congr _ fun i hi j hj => by
        rw [Nat.zero_add]
        exact h i (by omega) j hj
    have ht : textG rd 0 = textG rd' 0 := by
      unfold textG
      rw [ha, hl]
    rw [if_pos hok, if_pos hok, ha, ht, h0]
  · rw [if_neg hok, if_neg hok]
/-- Bytes, of which the sectors from o on, so many, have a text and zeros behind it. -/
def wrF (F : Nat → UInt8) (o wd sz g : Nat) (L : List UInt8) (j : Nat) : UInt8 := if o ≤ j / 32 ∧ j / 32 < o + wd then (if j / 32 < o + sz then secF g L (j / 32 - o) (j % 32) else 0) else F j
theorem img_app (a b : Nat) (H : Nat → UInt8) : imgS (a + b) H = imgS a H ++ imgS b fun j => H (a * 32 + j) := by
  apply ByteArray.ext
  apply Array.toList_inj.1
  rw [ByteArray.data_append, Array.toList_append]
  show (List.range ((a + b) * 32)).map H = (List.range (a * 32)).map H ++ (List.range (b * 32)).map fun j => H (a * 32 + j)
  rw [Nat.add_mul, List.range_add, List.map_append, List.map_map]
  rfl
theorem cat_eq (g : Nat) (L : List UInt8) : ∀ k, catB g L k = imgS k fun j => secF g L (j / 32) (j % 32)
  | 0 => rfl
  | k + 1 => by
    unfold catB
    rw [cat_eq g L k, img_app k 1]
    congr 1
    show secS (secF g L k) = imgS 1 fun j => secF g L ((k * 32 + j) / 32) ((k * 32 + j) % 32)
    apply ByteArray.ext
    apply Array.toList_inj.1
    show (List.range 32).map (secF g L k) = (List.range (1 * 32)).map fun j => secF g L ((k * 32 + j) / 32) ((k * 32 + j) % 32)
    rw [Nat.one_mul]
    refine List.map_congr_left fun j hj => ?_
    have := List.mem_range.1 hj
    show secF g L k j = secF g L ((k * 32 + j) / 32) ((k * 32 + j) % 32)
    rw [show (k * 32 + j) / 32 = k by omega, show (k * 32 + j) % 32 = j by omega]
theorem img_end (n p : Nat) (F : Nat → UInt8) (h : p ≤ n) : (imgS n F).extract (p * 32) (imgS n F).size = imgS (n - p) fun j => F (p * 32 + j) := by
  have e := img_cut n F (p * 32) ((n - p) * 32) (by omega)
  rw [show p * 32 + (n - p) * 32 = n * 32 by omega] at e
  rw [imgS_size, e]
  rfl
theorem img_beg (n p : Nat) (F : Nat → UInt8) (h : p ≤ n) : (imgS n F).extract 0 (p * 32) = imgS p F := by
  have e := img_cut n F 0 (p * 32) (by omega)
  rw [Nat.zero_add] at e
  rw [e]
  unfold imgS
  congr 2
  exact List.map_congr_left fun j _ => by rw [Nat.zero_add]
/-- A save's bytes, joined. -/
theorem wr_img (F : Nat → UInt8) (n o wd sz g : Nat) (L : List UInt8) (hs : sz ≤ wd) (ho : o + wd ≤ n) :
    (imgS n F).extract 0 (o * 32) ++ catB g L sz ++ imgS (wd - sz) (fun _ => 0) ++ (imgS n F).extract ((o + wd) * 32) (imgS n F).size = imgS n (wrF F o wd sz g L) := by
  rw [img_beg n o F (by omega), img_end n (o + wd) F ho, cat_eq]
  have e : n = o + sz + (wd - sz) + (n - (o + wd)) := by omega
  have e2 : imgS n (wrF F o wd sz g L) = imgS (o + sz + (wd - sz) + (n - (o + wd))) (wrF F o wd sz g L) := by rw [← e]
  rw [e2, img_app (o + sz + (wd - sz)), img_app (o + sz), img_app o]
  have p1 : imgS o F = imgS o (wrF F o wd sz g L) := imgS_congr fun k hk => by
    unfold wrF
    rw [if_neg (by omega)]
  have p2 : (imgS sz fun j => secF g L (j / 32) (j % 32)) = imgS sz fun j => wrF F o wd sz g L (o * 32 + j) := imgS_congr fun k hk => by
    unfold wrF
    rw [if_pos (by omega), if_pos (by omega), show (o * 32 + k) / 32 - o = k / 32 by omega, show (o * 32 + k) % 32 = k % 32 by omega]
  have p3 : (imgS (wd - sz) fun _ => 0) = imgS (wd - sz) fun j => wrF F o wd sz g L ((o + sz) * 32 + j) := imgS_congr fun k hk => by
    unfold wrF
    rw [if_pos (by omega), if_neg (by omega)]
  have p4 : (imgS (n - (o + wd)) fun j => F ((o + wd) * 32 + j)) = imgS (n - (o + wd)) fun j => wrF F o wd sz g L ((o + sz + (wd - sz)) * 32 + j) := imgS_congr fun k hk => by
    unfold wrF
    rw [show o + sz + (wd - sz) = o + wd by omega, if_neg (by omega)]
  rw [p1, p2, p3, p4]
/-- What stands behind a fill and a text laid over it. -/
theorem wr_now (x : Dk.St) (o wd sz g n : Nat) (L : List UInt8) (hs : sz ≤ wd) (z : Dk.St) (hz : z.now = (x.filled o (fun _ => 0) wd).now) :
    ∀ j, j < n * 32 → (z.laid o (secF g L) sz).now j = wrF x.now o wd sz g L j := fun j _ => by
  have hj := Nat.mod_lt j (show 0 < 32 by decide)
  have e : (z.laid o (secF g L) sz).now j = sect (z.laid o (secF g L) sz).now (j / 32) (j % 32) := by
    unfold sect
    congr 1
    omega
  rw [e]
  unfold wrF
  by_cases h1 : o ≤ j / 32 ∧ j / 32 < o + sz
  · rw [if_pos (by omega), if_pos (by omega)]
    obtain ⟨i, hi⟩ := Nat.exists_eq_add_of_le h1.1
    rw [hi, Nat.add_sub_cancel_left]
    exact laid_in z o _ sz i (by omega) _ hj
  · rw [laid_out z o _ sz (j / 32) (by omega) _ hj, hz]
    by_cases h2 : o ≤ j / 32 ∧ j / 32 < o + wd
    · rw [if_pos h2, if_neg (by omega)]
      obtain ⟨i, hi⟩ := Nat.exists_eq_add_of_le h2.1
      rw [hi]
      exact filled_in x o _ wd i (by omega) _ hj
    · rw [if_neg h2, filled_out x o _ wd (j / 32) (by omega) _ hj]
      unfold sect
      congr 1
      omega
end Tw
end Go.Proofs.YtblgabdlpobbjaaGreatDoor
namespace Go.Proofs.YtblgabdlpobbjaaGreatDoor
open Go.ChangeShapes Go.WideShapes Go.ChangeAt Go.RowKit Pn Dk Sl Tw

theorem cut_tail (q : ByteArray) (i : Nat) (I : Int) (hI : I = (i : Int)) (h : i ≤ q.size) (W : World) : (Instr.slice 9 (.string q) (some (.int .i64 I)) none none).run Tryz.prog W = .ok (.string (q.extract i q.size)) W := by
  subst hI
  have := run_slice_string_from_if (P := Tryz.prog) W 9 q .i64 (i : Int) Tryz.underlying9
  rw [if_pos ⟨by omega, by omega⟩] at this
  simpa using this
theorem made_at (n j : Nat) (h : j < n) : (madeCells #[Value.int .u8 0] n)[j]? = some (.int .u8 0) := by
  simp [madeCells, Nat.mod_one, h]
theorem made_zeros7 (m : Nat) (b : Nat) (V : World) (h : V.heap[b]? = some (.cells (madeCells #[.int .u8 0] (m * 32)) 5 (0, 0))) :
    (convert 40 9 (.slice (some ⟨b, 0, none⟩) (m * 32) (m * 32))).run Tryz.prog V = .ok (.string (imgS m fun _ => 0)) V := by
  refine run_textK V _ (m * 32) (m * 32) ((List.range (m * 32)).map fun _ => (0 : UInt8)) (by simp) fun j u hj => ?_
  have hl := (List.getElem?_eq_some_iff.1 hj).1
  simp only [List.length_map, List.length_range] at hl
  rw [Addr.add_lit, Nat.zero_add, cell_of_row _ _ _ _ _ _ h, made_at _ _ hl, ← hj]
  simp [hl]
set_option maxRecDepth 100000 in
set_option maxHeartbeats 3200000 in
theorem ref7_last (w : World) (n : Nat) (F : Nat → UInt8) (h4 : 4 ≤ n) (h24 : n ≤ 24) (he : n % 2 = 0) :
    Calls Tryz.prog 11 #[.string (imgS n F)] w fun e w' => e = .returned (.tuple #[.string (racc F n 2).1, .int .i64 ((racc F n 2).2.1 : Int), .int .i64 (racc F n 2).2.2]) ∧ Below w.heap.size w w' := by
  have hsz := imgS_size n F
  have HGT := Lib.hid (fun (W : World) (k : Nat) (hk : k < 2) => (show Calls Tryz.prog 29 #[.string (imgS (n - k * (n / 2)) fun j => F (k * (n / 2) * 32 + j))] W (RefGot W (rget F n k)) from ref6_get W (n - k * (n / 2)) _ (by have hk1 : k * (n / 2) ≤ 1 * (n / 2) := Nat.mul_le_mul_right _ (by omega); omega) (by omega)))
  have HCT := Lib.hid (fun (k : Nat) (hk : k < 2) (I : Int) (hI : I = ((k * (n / 2) * 32 : Nat) : Int)) (W : World) => (show (Instr.slice 9 (.string (imgS n F)) (some (.int .i64 I)) none none).run Tryz.prog W = .ok (.string (imgS (n - k * (n / 2)) fun j => F (k * (n / 2) * 32 + j))) W from by
    have hk1 : k * (n / 2) ≤ 1 * (n / 2) := Nat.mul_le_mul_right _ (by omega)
    rw [cut_tail _ (k * (n / 2) * 32) I hI (by rw [hsz]; omega) W, img_end n (k * (n / 2)) F (by omega)]))
  have HSR := Lib.hid (fun (W : World) (s : ByteArray) (hs : s.size ≤ 1024) => ref6_size W s (by omega))
  have HST := Lib.hid (show ∀ k : Nat, racc F n (k + 1) = if (rget F n k).2.2 = 0 ∧ 32 * szN (rget F n k).1.size ≤ n * 16 ∧ (racc F n k).2.1 < (rget F n k).2.1 then ((rget F n k).1, (rget F n k).2.1, (k : Int)) else racc F n k from fun _ => rfl)
  have HL4 := Lib.hid (show ∀ k, (rget F n k).2.2 = 0 → (rget F n k).1.size ≤ 1024 from fun k h => by
    obtain ⟨z1, z2⟩ := got_zero h
    have z3 := ((okG_iff _ _ _).1 z1).2.2.1
    unfold rget
    rw [z2]
    exact z3)
  have z0 : ((imgS n F).size : Int) = ((n * 32 : Nat) : Int) := by rw [hsz]
  have z1 : ((n * 32 : Nat) : Int) / 2 = ((n * 16 : Nat) : Int) := by omega
  have z2 : (0 : Int) ≤ ((n * 32 : Nat) : Int) := by omega
  have HHK := Lib.hid (show ∀ k : Nat, k < 2 → (k : Int) * ((n * 16 : Nat) : Int) = ((k * (n / 2) * 32 : Nat) : Int) ∧ wrap64 ((k * (n / 2) * 32 : Nat) : Int) = ((k * (n / 2) * 32 : Nat) : Int) ∧ IntKind.i64.wrap ((k * (n / 2) * 32 : Nat) : Int) = ((k * (n / 2) * 32 : Nat) : Int) from fun k hk => by
    have hk1 : k * (n / 2) ≤ 1 * (n / 2) := Nat.mul_le_mul_right _ (by omega)
    refine ⟨?_, IntWalk.wrap64_in _ (by omega), IntWalk.i64_in _ (by omega)⟩
    have e : n * 16 = n / 2 * 32 := by omega
    rw [e, ← Int.natCast_mul, Nat.mul_assoc])
  have hn16 : ((n * 16 : Nat) : Int) ≤ 384 := by omega
  have hn160 : 0 ≤ ((n * 16 : Nat) : Int) := by omega
  have HX := Lib.hid (show n * 16 ≤ 384 by omega)
  clear hsz h4 h24 he
  generalize imgS n F = q at z0 HCT
  generalize hN16 : n * 16 = N16 at z1 HHK hn16 hn160 HST HX
  clear hN16
  generalize ((n * 32 : Nat) : Int) = N32 at z0 z1 z2
  go_enter Tryz.func11, Tryz.ntmps11
  go_wp2_with (fail)
  rw [z1]
  clear z0 z1 z2
  go_loopg [6, 7, 8, 9] 3 (fun gk vt vg vs vi wr => ∃ k : Nat, gk = 3 - k ∧ k ≤ 2 ∧ vi = .int .i64 (k : Int) ∧ vt = .string (racc F n k).1 ∧ vg = .int .i64 ((racc F n k).2.1 : Int) ∧ vs = .int .i64 (racc F n k).2.2 ∧ Below w.heap.size w wr)
  case atStart => exact ⟨0, rfl, Nat.zero_le _, rfl, rfl, rfl, rfl, Below.refl _ _⟩
  case round =>
    obtain ⟨k, hgk, hk2, rfl, rfl, rfl, rfl, hb⟩ := hrel
    have HGK := Lib.hid hgk
    have HB := Lib.hid hb
    clear hgk hb
    have y2 : 0 ≤ (k : Int) := by omega
    by_cases hlt : k < 2
    · have y0 : (k : Int) < 2 := by omega
      have y1 : decide ((k : Int) < 2) = true := decide_eq_true y0
      obtain ⟨s1, s2, s3⟩ := HHK.out k hlt
      have HG := Lib.hid (HGT.out wr k hlt)
      have hct := HCT.out k hlt _ rfl
      have HA := Lib.hid (HST.out k)
      have HL := Lib.hid (HL4.out k)
      clear HGT HCT HST HHK HL4
      obtain ⟨t, m, e0, hr⟩ : ∃ t m e0, rget F n k = (t, m, e0) := ⟨_, _, _, rfl⟩
      rw [hr] at HG HA HL
      clear hr
      generalize (imgS (n - k * (n / 2)) fun j => F (k * (n / 2) * 32 + j)) = part at HG hct
      generalize ((k * (n / 2) * 32 : Nat) : Int) = off at s1 s2 s3 hct
      go_wp2_with (fail)
      refine HG.out.mono ?_
      rintro e w1 ⟨rfl, b1⟩
      have B1 := Lib.hid (HB.out.trans (b1.mono HB.out.size))
      clear b1 HG HB s1 s2 s3 hct
      by_cases he0 : e0 = 0
      · have t1 : ((e0 : Int) == 0) = true := by rw [he0]; rfl
        have HSR1 := Lib.hid (HSR.out w1 t (HL.out he0))
        have hsb : 32 * szN t.size ≤ 2000 := by have := szN_max t.size (HL.out he0); omega
        have q1 : 32 * ((szN t.size : Nat) : Int) = ((32 * szN t.size : Nat) : Int) := by omega
        have q2 : wrap64 ((32 * szN t.size : Nat) : Int) = ((32 * szN t.size : Nat) : Int) := IntWalk.wrap64_in _ (by omega)
        have q3 : IntKind.i64.wrap ((32 * szN t.size : Nat) : Int) = ((32 * szN t.size : Nat) : Int) := IntWalk.i64_in _ (by omega)
        have q0 : 0 ≤ ((szN t.size : Nat) : Int) := by omega
        have q00 : ((szN t.size : Nat) : Int) ≤ 2000 := by omega
        clear HL
        by_cases h16 : 32 * szN t.size ≤ N16
        · have p1 : ((32 * szN t.size : Nat) : Int) ≤ (N16 : Int) := by omega
          have p2 : decide (((32 * szN t.size : Nat) : Int) ≤ (N16 : Int)) = true := decide_eq_true p1
          by_cases hm : (racc F n k).2.1 < m
          · have r1 : ((racc F n k).2.1 : Int) < (m : Int) := by omega
            have r2 : decide (((racc F n k).2.1 : Int) < (m : Int)) = true := decide_eq_true r1
            have hA := HA.out
            rw [if_pos ⟨he0, h16, hm⟩] at hA
            have HA2 := Lib.hid hA
            clear hA HA he0 h16 hm hsb
            generalize ((32 * szN t.size : Nat) : Int) = z32 at q1 q2 q3 p1 p2
            generalize ((szN t.size : Nat) : Int) = z1 at q0 q00 q1 HSR1
            generalize (racc F n k).2.1 = rg at r1 r2 ⊢
            go_wp2_with (fail)
            refine HSR1.out.mono ?_
            rintro e w2 ⟨rfl, rfl⟩
            go_wp2_with (fail)
            go_roundg (3 - (k + 1))
            case measure => have := HGK.out; omega
            case rel => exact ⟨k + 1, rfl, by omega, rfl, by rw [HA2.out], by rw [HA2.out], by rw [HA2.out], B1.out⟩
          · have r1 : ¬ ((racc F n k).2.1 : Int) < (m : Int) := by omega
            have r2 : decide (((racc F n k).2.1 : Int) < (m : Int)) = false := decide_eq_false r1
            have hA := HA.out
            rw [if_neg (fun h => hm h.2.2)] at hA
            have HA2 := Lib.hid hA
            clear hA HA he0 h16 hm hsb
            generalize ((32 * szN t.size : Nat) : Int) = z32 at q1 q2 q3 p1 p2
            generalize ((szN t.size : Nat) : Int) = z1 at q0 q00 q1 HSR1
            go_wp2_with (fail)
            refine HSR1.out.mono ?_
            rintro e w2 ⟨rfl, rfl⟩
            go_wp2_with (fail)
            go_roundg (3 - (k + 1))
            case measure => have := HGK.out; omega
            case rel => exact ⟨k + 1, rfl, by omega, rfl, by rw [HA2.out], by rw [HA2.out], by rw [HA2.out], B1.out⟩
        · have p1 : ¬ ((32 * szN t.size : Nat) : Int) ≤ (N16 : Int) := by omega
          have p2 : decide (((32 * szN t.size : Nat) : Int) ≤ (N16 : Int)) = false := decide_eq_false p1
          have hA := HA.out
          rw [if_neg (fun h => h16 h.2.1)] at hA
          have HA2 := Lib.hid hA
          clear hA HA he0 h16 hsb
          generalize ((32 * szN t.size : Nat) : Int) = z32 at q1 q2 q3 p1 p2
          generalize ((szN t.size : Nat) : Int) = z1 at q0 q00 q1 HSR1
          go_wp2_with (fail)
          refine HSR1.out.mono ?_
          rintro e w2 ⟨rfl, rfl⟩
          go_wp2_with (fail)
          go_roundg (3 - (k + 1))
          case measure => have := HGK.out; omega
          case rel => exact ⟨k + 1, rfl, by omega, rfl, by rw [HA2.out], by rw [HA2.out], by rw [HA2.out], B1.out⟩
      · have t1 : ((e0 : Int) == 0) = false := beq_eq_false_iff_ne.2 (by omega)
        have hA := HA.out
        rw [if_neg (fun h => he0 h.1)] at hA
        have HA2 := Lib.hid hA
        clear hA HA he0 HL
        go_wp2_with (fail)
        go_roundg (3 - (k + 1))
        case measure => have := HGK.out; omega
        case rel => exact ⟨k + 1, rfl, by omega, rfl, by rw [HA2.out], by rw [HA2.out], by rw [HA2.out], B1.out⟩
    · have hke : k = 2 := by omega
      subst hke
      have y0 : ¬ ((2 : Nat) : Int) < 2 := by omega
      have y1 : decide (((2 : Nat) : Int) < 2) = false := decide_eq_false y0
      clear hlt HGT HCT HST HHK HL4
      go_wp2_with (fail)
      refine bodyPost_ret (results_tmp3 rfl _ _ _) rfl ?_
      exact ⟨rfl, HB.out⟩
theorem cut_to (q : ByteArray) (j : Nat) (J : Int) (hJ : J = (j : Int)) (h2 : j ≤ q.size) (W : World) : (Instr.slice 9 (.string q) none (some (.int .i64 J)) none).run Tryz.prog W = .ok (.string (q.extract 0 j)) W := by
  subst hJ
  have := run_slice_string_to_if (P := Tryz.prog) W 9 q .i64 (j : Int) Tryz.underlying9
  rw [if_pos ⟨by omega, by omega⟩] at this
  simpa using this
section
variable (w : World) (n : Nat) (F : Nat → UInt8) (u t : ByteArray) (g k : Nat) (h4 : 4 ≤ n) (h24 : n ≤ 24) (he : n % 2 = 0) (hL : racc F n 2 = (t, g, (k : Int))) (hu : u.size ≤ 1024) (hg : g ≤ 2147483647)
include h4 h24 he hL hu hg
set_option maxRecDepth 100000 in
set_option maxHeartbeats 3200000 in
theorem ref7_save_not (hn : ¬ (szN u.size ≤ n / 2 ∧ g < 2147483647)) :
    Calls Tryz.prog 17 #[.string (imgS n F), .string u] w fun e w' => e = .returned (.tuple #[.string (imgS n F), .bool false]) ∧ Below w.heap.size w w' := by
  have hsz := imgS_size n F
  have hla := ref7_last w n F h4 h24 he
  rw [hL] at hla
  have HLA := Lib.hid hla
  have z0 : ((imgS n F).size : Int) = ((n * 32 : Nat) : Int) := by rw [hsz]
  have z1 : ((n * 32 : Nat) : Int) / 2 = ((n * 16 : Nat) : Int) := by omega
  have z2 : (0 : Int) ≤ ((n * 32 : Nat) : Int) := by omega
  have z3 : ((n * 32 : Nat) : Int) ≤ 768 := by omega
  have e1 : (g : Int) + 1 = ((g + 1 : Nat) : Int) := (Int.natCast_succ g).symm
  have e2 : wrap64 ((g + 1 : Nat) : Int) = ((g + 1 : Nat) : Int) := IntWalk.wrap64_in _ (by omega)
  have e3 : IntKind.i64.wrap ((g + 1 : Nat) : Int) = ((g + 1 : Nat) : Int) := IntWalk.i64_in _ (by omega)
  by_cases hgm : g < 2147483647
  · have hfit : ¬ szN u.size ≤ n / 2 := fun h => hn ⟨h, hgm⟩
    have hg1 : 1 ≤ g + 1 := Nat.succ_le_succ (Nat.zero_le g)
    have hg2 : g + 1 ≤ 2147483647 := Nat.succ_le_of_lt hgm
    have HBY := Lib.hid (fun W => ref6_bytes W (g + 1) u hg1 hg2 hu)
    have hcs : ((catB (g + 1) (sealL u) (szN u.size)).size : Int) = ((32 * szN u.size : Nat) : Int) := by rw [catB_size]
    have x1 : ((n * 16 : Nat) : Int) < ((32 * szN u.size : Nat) : Int) := by omega
    have x2 : decide (((n * 16 : Nat) : Int) < ((32 * szN u.size : Nat) : Int)) = true := decide_eq_true x1
    clear hla hsz h4 h24 he hL hu hg hn hgm hfit hg1 hg2
    generalize catB (g + 1) (sealL u) (szN u.size) = cb at HBY hcs
    generalize ((32 * szN u.size : Nat) : Int) = zi at hcs x1 x2
    generalize ((g + 1 : Nat) : Int) = gi at e1 e2 e3 HBY
    generalize imgS n F = q at z0 HLA ⊢
    generalize ((n * 16 : Nat) : Int) = N16 at z1 x1 x2
    generalize ((n * 32 : Nat) : Int) = N32 at z0 z1 z2 z3
    go_enter Tryz.func17, Tryz.ntmps17
    go_wp2_with (fail)
    refine HLA.out.mono ?_
    rintro e w1 ⟨rfl, b1⟩
    have B1 := Lib.hid b1
    clear b1 HLA
    go_wp2_with (fail)
    refine (HBY.out w1).mono ?_
    rintro e w2 ⟨rfl, b2⟩
    have B2 := Lib.hid (B1.out.trans (b2.mono B1.out.size))
    clear b2 HBY B1
    go_wp2_with (fail)
    refine bodyPost_ret (results_tmp2 rfl _ _ _) rfl ?_
    exact ⟨rfl, B2.out⟩
  · have hge : g = 2147483647 := by omega
    have HBY := Lib.hid (fun W => ref6_bytes_not W ((g + 1 : Nat) : Int) u (by unfold maxLen; omega) (by
      rw [hge, show decide ((((2147483647 + 1 : Nat) : Int)) ≤ 2147483647) = false from by decide, Bool.false_and, Bool.and_false]))
    clear hla hsz h4 h24 he hL hu hg hn hgm hge
    generalize ((g + 1 : Nat) : Int) = gi at e1 e2 e3 HBY
    generalize imgS n F = q at z0 HLA ⊢
    generalize ((n * 16 : Nat) : Int) = N16 at z1
    generalize ((n * 32 : Nat) : Int) = N32 at z0 z1 z2 z3
    go_enter Tryz.func17, Tryz.ntmps17
    go_wp2_with (fail)
    refine HLA.out.mono ?_
    rintro e w1 ⟨rfl, b1⟩
    have B1 := Lib.hid b1
    clear b1 HLA
    go_wp2_with (fail)
    refine (HBY.out w1).mono ?_
    rintro e w2 ⟨rfl, rfl⟩
    clear HBY
    go_wp2_with (fail)
    refine bodyPost_ret (results_tmp2 rfl _ _ _) rfl ?_
    exact ⟨rfl, B1.out⟩
set_option maxRecDepth 100000 in
set_option maxHeartbeats 3200000 in
theorem ref7_save (hk : k < 2) (hp : szN u.size ≤ n / 2) (hgm : g < 2147483647) :
    Calls Tryz.prog 17 #[.string (imgS n F), .string u] w fun e w' => e = .returned (.tuple #[.string (imgS n (wrF F ((1 - k) * (n / 2)) (n / 2) (szN u.size) (g + 1) (sealL u))), .bool true]) ∧ Below w.heap.size w w' := by
  have hsz := imgS_size n F
  have hla := ref7_last w n F h4 h24 he
  rw [hL] at hla
  have HLA := Lib.hid hla
  have hk1 : (1 - k) * (n / 2) ≤ 1 * (n / 2) := Nat.mul_le_mul_right _ (by omega)
  have HWR := Lib.hid (wr_img F n ((1 - k) * (n / 2)) (n / 2) (szN u.size) (g + 1) (sealL u) hp (by omega))
  have z0 : ((imgS n F).size : Int) = ((n * 32 : Nat) : Int) := by rw [hsz]
  have z1 : ((n * 32 : Nat) : Int) / 2 = ((n * 16 : Nat) : Int) := by omega
  have z2 : (0 : Int) ≤ ((n * 32 : Nat) : Int) := by omega
  have z3 : ((n * 32 : Nat) : Int) ≤ 768 := by omega
  have e1 : (g : Int) + 1 = ((g + 1 : Nat) : Int) := (Int.natCast_succ g).symm
  have e2 : wrap64 ((g + 1 : Nat) : Int) = ((g + 1 : Nat) : Int) := IntWalk.wrap64_in _ (by omega)
  have e3 : IntKind.i64.wrap ((g + 1 : Nat) : Int) = ((g + 1 : Nat) : Int) := IntWalk.i64_in _ (by omega)
  have hg1 : 1 ≤ g + 1 := Nat.succ_le_succ (Nat.zero_le g)
  have hg2 : g + 1 ≤ 2147483647 := Nat.succ_le_of_lt hgm
  have HBY := Lib.hid (fun W => ref6_bytes W (g + 1) u hg1 hg2 hu)
  have hcs : ((catB (g + 1) (sealL u) (szN u.size)).size : Int) = ((32 * szN u.size : Nat) : Int) := by rw [catB_size]
  have hcn : (catB (g + 1) (sealL u) (szN u.size)).size ≤ 2000 := by rw [catB_size]; omega
  have x1 : ¬ ((n * 16 : Nat) : Int) < ((32 * szN u.size : Nat) : Int) := by omega
  have x2 : decide (((n * 16 : Nat) : Int) < ((32 * szN u.size : Nat) : Int)) = false := decide_eq_false x1
  have s1 : ((n * 16 : Nat) : Int) - ((32 * szN u.size : Nat) : Int) = (((n / 2 - szN u.size) * 32 : Nat) : Int) := by omega
  have s2 : wrap64 (((n / 2 - szN u.size) * 32 : Nat) : Int) = (((n / 2 - szN u.size) * 32 : Nat) : Int) := IntWalk.wrap64_in _ (by omega)
  have s3 : IntKind.i64.wrap (((n / 2 - szN u.size) * 32 : Nat) : Int) = (((n / 2 - szN u.size) * 32 : Nat) : Int) := IntWalk.i64_in _ (by omega)
  have HMK := Lib.hid (fun W => run_make_row' (P := Tryz.prog) 40 5 (.int .u8 0) 1 Tryz.underlying40 infoU rfl .i64 .i64 ((n / 2 - szN u.size) * 32) (by omega) (by omega) W)
  have HCV := Lib.hid (fun b V hV => made_zeros7 (n / 2 - szN u.size) b V hV)
  have hzs : (imgS (n / 2 - szN u.size) fun _ => 0).size ≤ 2000 := by rw [imgS_size]; omega
  have HS1 := Lib.hid (fun J hJ W => cut_to (imgS n F) ((1 - k) * (n / 2) * 32) J hJ (by rw [hsz]; omega) W)
  have HS2 := Lib.hid (fun J hJ W => cut_tail (imgS n F) (((1 - k) * (n / 2) + n / 2) * 32) J hJ (by rw [hsz]; omega) W)
  have hp1 : ((imgS n F).extract 0 ((1 - k) * (n / 2) * 32)).size ≤ 2000 := by rw [ByteArray.size_extract, hsz]; omega
  have hp2 : ((imgS n F).extract (((1 - k) * (n / 2) + n / 2) * 32) (imgS n F).size).size ≤ 2000 := by rw [ByteArray.size_extract, hsz]; omega
  have HAT := Lib.hid (show (k = 0 → ((n * 16 : Nat) : Int) = (((1 - k) * (n / 2) * 32 : Nat) : Int) ∧ ((n * 16 : Nat) : Int) + ((n * 16 : Nat) : Int) = ((((1 - k) * (n / 2) + n / 2) * 32 : Nat) : Int)) ∧ (k = 1 → (0 : Int) = (((1 - k) * (n / 2) * 32 : Nat) : Int) ∧ 0 + ((n * 16 : Nat) : Int) = ((((1 - k) * (n / 2) + n / 2) * 32 : Nat) : Int)) from ⟨fun h => by subst h; exact ⟨by omega, by omega⟩, fun h => by subst h; exact ⟨by omega, by omega⟩⟩)
  have hN : 0 ≤ ((n * 16 : Nat) : Int) ∧ ((n * 16 : Nat) : Int) ≤ 384 := by omega
  obtain ⟨hN1, hN2⟩ := hN
  clear hla hsz h4 h24 he hL hu hg hgm hg1 hg2 hk1 hp
  generalize catB (g + 1) (sealL u) (szN u.size) = cb at HBY hcs hcn HWR
  generalize ((32 * szN u.size : Nat) : Int) = zi at hcs x1 x2 s1
  generalize ((g + 1 : Nat) : Int) = gi at e1 e2 e3 HBY
  generalize (imgS (n / 2 - szN u.size) fun _ => 0) = zs at HCV hzs HWR
  generalize (n / 2 - szN u.size) * 32 = NZ at HMK HCV s1 s2 s3
  generalize hq1 : (imgS n F).extract 0 ((1 - k) * (n / 2) * 32) = pa at HS1 hp1 HWR
  generalize hq2 : (imgS n F).extract (((1 - k) * (n / 2) + n / 2) * 32) (imgS n F).size = pt at HS2 hp2 HWR
  clear hq1 hq2
  generalize imgS n F = q at z0 HLA HS1 HS2
  generalize imgS n (wrF F ((1 - k) * (n / 2)) (n / 2) (szN u.size) (g + 1) (sealL u)) = out at HWR ⊢
  generalize (((1 - k) * (n / 2) * 32 : Nat) : Int) = at1 at HS1 HAT
  generalize ((((1 - k) * (n / 2) + n / 2) * 32 : Nat) : Int) = at2 at HS2 HAT
  generalize ((n * 16 : Nat) : Int) = N16 at z1 x1 x2 s1 HAT hN1 hN2
  generalize ((n * 32 : Nat) : Int) = N32 at z0 z1 z2 z3
  have n1 : ¬ 9223372036854775807 < pa.size + cb.size := by omega
  have n2 : ¬ 9223372036854775807 < (pa ++ cb).size + zs.size := by rw [ByteArray.size_append]; omega
  have n2' : ¬ 9223372036854775807 < pa.size + cb.size + zs.size := by omega
  have n3 : ¬ 9223372036854775807 < (pa ++ cb ++ zs).size + pt.size := by rw [ByteArray.size_append, ByteArray.size_append]; omega
  have n3' : ¬ 9223372036854775807 < pa.size + cb.size + zs.size + pt.size := by omega
  have HN := Lib.hid (And.intro n1 (And.intro n2 (And.intro n2' (And.intro n3 n3'))))
  clear n1 n2 n2' n3 n3' hp1 hp2 hcn hzs
  by_cases hk0 : k = 0
  · obtain ⟨a1, a2⟩ := HAT.out.1 hk0
    have q1 : ((k : Int) == 0) = true := by rw [hk0]; rfl
    have r1 := HS1.out N16 a1
    have r2 := HS2.out at2 rfl
    have a3 : wrap64 at2 = at2 := IntWalk.wrap64_in _ (by omega)
    have a4 : IntKind.i64.wrap at2 = at2 := IntWalk.i64_in _ (by omega)
    clear HS1 HS2 a1 hk0 HAT
    go_enter Tryz.func17, Tryz.ntmps17
    go_wp2_with (fail)
    refine HLA.out.mono ?_
    rintro e w1 ⟨rfl, b1⟩
    have B1 := Lib.hid b1
    clear b1 HLA
    go_wp2_with (fail)
    refine (HBY.out w1).mono ?_
    rintro e w2 ⟨rfl, b2⟩
    have B2 := Lib.hid (B1.out.trans (b2.mono B1.out.size))
    have hmk := HMK.out w2
    have hcv := HCV.out w2.heap.size (w2.alloc (.cells (madeCells #[.int .u8 0] NZ) 5)) (heap_alloc_new w2 _)
    have B3 := Lib.hid (show Below w.heap.size w (w2.alloc (.cells (madeCells #[.int .u8 0] NZ) 5)).drew from below_drewN (B2.out.alloc B2.out.size _) 1)
    obtain ⟨n1, n2, n2', n3, n3'⟩ := HN.out
    clear b2 HBY B1
    go_wp2_with (fail)
    go_region_held3 (fun _ : World => True) (first | exact trivial) (first | fail)
    go_wp2_with (fail)
    refine bodyPost_ret (results_tmp2 rfl _ _ _) rfl ?_
    exact ⟨show Ending.returned (.tuple #[.string (pa ++ cb ++ zs ++ pt), .bool true]) = .returned (.tuple #[.string out, .bool true]) by rw [HWR.out], B3.out⟩
  · obtain ⟨a1, a2⟩ := HAT.out.2 (by omega)
    have q1 : ((k : Int) == 0) = false := beq_eq_false_iff_ne.2 (by omega)
    have r1 := HS1.out 0 a1
    have r2 := HS2.out N16 (by omega)
    have a3 : wrap64 N16 = N16 := IntWalk.wrap64_in _ (by omega)
    have a4 : IntKind.i64.wrap N16 = N16 := IntWalk.i64_in _ (by omega)
    clear HS1 HS2 a1 a2 hk0 HAT
    go_enter Tryz.func17, Tryz.ntmps17
    go_wp2_with (fail)
    refine HLA.out.mono ?_
    rintro e w1 ⟨rfl, b1⟩
    have B1 := Lib.hid b1
    clear b1 HLA
    go_wp2_with (fail)
    refine (HBY.out w1).mono ?_
    rintro e w2 ⟨rfl, b2⟩
    have B2 := Lib.hid (B1.out.trans (b2.mono B1.out.size))
    have hmk := HMK.out w2
    have hcv := HCV.out w2.heap.size (w2.alloc (.cells (madeCells #[.int .u8 0] NZ) 5)) (heap_alloc_new w2 _)
    have B3 := Lib.hid (show Below w.heap.size w (w2.alloc (.cells (madeCells #[.int .u8 0] NZ) 5)).drew from below_drewN (B2.out.alloc B2.out.size _) 1)
    obtain ⟨n1, n2, n2', n3, n3'⟩ := HN.out
    clear b2 HBY B1
    go_wp2_with (fail)
    go_region_held3 (fun _ : World => True) (first | exact trivial) (first | fail)
    go_wp2_with (fail)
    refine bodyPost_ret (results_tmp2 rfl _ _ _) rfl ?_
    exact ⟨show Ending.returned (.tuple #[.string (pa ++ cb ++ zs ++ pt), .bool true]) = .returned (.tuple #[.string out, .bool true]) by rw [HWR.out], B3.out⟩
end
end Go.Proofs.YtblgabdlpobbjaaGreatDoor
namespace Go.Proofs.YtblgabdlpobbjaaGreatDoor
open Go.ChangeShapes Go.WideShapes Go.ChangeAt Go.RowKit Pn Dk Sl Tw

namespace Tw
def swA : ByteArray := ⟨#[97]⟩
def swB : ByteArray := ⟨#[98]⟩
theorem sB_text : swB.toList = [98] := by rw [ByteArray.toList_eq]; rfl
def aw0 : Dk.St := freshSt 10 fun _ => 0
def aw1 : Dk.St := (aw0.filled 1 (fun _ => 0) 8).placed 1 1 swA
def aw2 : Dk.St := (aw1.cleared 5 4).placed 5 (1 + 1) swB
theorem awp1 : Pair aw1 1 5 4 1 swA := formatted (x := aw0) (f := 1) (n := 8) (show aw0.Full from rfl) (by decide) (by decide) (by decide) _ rfl
theorem awp2 : Pair aw2 5 1 4 (1 + 1) swB := awp1.saves swB (by decide) (by decide) (by decide)
theorem aw_acc : acc aw2 1 8 2 = (swB, 2, 1) := awp2.opens (f := 1) (n := 8) (k := 1) (by decide) rfl rfl rfl (by decide)
theorem aw1_n : aw1.n = 10 := (placed_n _ _ _ _).trans (filled_n _ _ _ _)
theorem aw1_away : aw1.away = false := (placed_away _ _ _ _).trans (filled_away _ _ _ _)
theorem aw1_fuse : aw1.fuse = none := placed_fuse _ _ _ _ (filled_fuse _ _ _ rfl _)
theorem aw1_done : aw1.done ≤ 100 := by
  have h1 := placed_done (aw0.filled 1 (fun _ => 0) 8) 1 1 swA
  have h2 := (filled_done aw0 1 (fun _ => 0) 8).2
  have h3 : szN swA.size = 2 := by decide
  have h4 : aw0.done = 0 := rfl
  show ((aw0.filled 1 (fun _ => 0) 8).placed 1 1 swA).done ≤ 100
  omega
theorem aw2_n : aw2.n = 10 := (placed_n _ _ _ _).trans ((cleared_n _ _ _).trans aw1_n)
theorem aw2_away : aw2.away = false := (placed_away _ _ _ _).trans ((cleared_away _ _ _).trans aw1_away)
end Tw
set_option maxRecDepth 100000 in
set_option maxHeartbeats 3200000 in
theorem awake07 (w : World) (hT : Tabs w) :
    Calls Tryz.prog 4 #[] w fun e w' => e = .returned (.bool true) ∧ Below w.heap.size w w' := by
  have HT := Lib.hid hT
  clear hT
  go_enter Tryz.func4, Tryz.ntmps4
  go_wp2_with (fail)
  refine (at_new w w (Below.refl _ _) 10 10 (by omega)).mono ?_
  rintro e w1 ⟨D, rfl, h1⟩
  have H1 := Lib.hid (show Zn w w1 D aw0 [] from Zn.of_at h1)
  clear h1
  go_wp2_with (fail)
  refine (H1.out.news 1 8 (by decide) (by decide)).mono ?_
  rintro e w2 ⟨Z, rfl, h2⟩
  have H2 := Lib.hid h2
  clear h2 H1
  go_wp2_with (fail)
  refine (H2.out.formatOn (Z := Z) (f := 1) (n := 8) (List.mem_cons_self ..) HT.out rfl rfl (by decide) (by decide) (by decide) rfl swA (by decide) (by decide)).mono ?_
  rintro e w3 ⟨T, rfl, g1, g2, h3⟩
  have H3 := Lib.hid (show Zn w w3 D aw1 [(T, tobj Z swA 1 0 false), (Z, zobj D 1 8)] from h3)
  have G := Lib.hid (And.intro g1 g2)
  clear h3 H2 g1 g2
  go_wp2_with (fail)
  refine (H3.out.saveOn (T := T) (Z := Z) (f := 1) (n := 8) (List.mem_cons_self ..) G.out.2 G.out.1 HT.out aw1_away aw1_fuse (Nat.zero_le _) (Nat.lt_of_le_of_lt aw1_done (by decide)) (by rw [aw1_n]; decide) (by decide) (by decide) swB (by decide) (by decide) (by decide)).mono ?_
  rintro e w4 ⟨rfl, h4⟩
  have H4 := Lib.hid (show Zn w w4 D aw2 [(T, tobj Z swB 2 1 false), (Z, zobj D 1 8)] from h4)
  clear h4 H3
  go_wp2_with (fail)
  refine (H4.out.open_ (Z := Z) (f := 1) (n := 8) (List.mem_cons_of_mem _ (List.mem_cons_self ..)) HT.out aw2_away (by rw [aw2_n]; decide) rfl).mono ?_
  rw [aw_acc]
  rintro e w5 (⟨h0, _⟩ | ⟨T', _, rfl, _, _, h5⟩)
  · exact absurd h0 (by decide)
  have H5 := Lib.hid h5
  have cz := twin_c0 (h5.fix (T, tobj Z swB 2 1 false) (by simp))
  have cd := zone_c0 (h5.fix (Z, zobj D 1 8) (by simp))
  clear h5 H4
  go_wp2_with (fail)
  have ht := sB_text
  refine (twin_text w5 T Z 2 1 swB false (H5.out.fix (T, tobj Z swB 2 1 false) (by simp))).mono ?_
  rintro e w6 ⟨rfl, rfl⟩
  go_wp2_with (fail)
  refine (twin_gen w5 T Z 2 1 swB false (H5.out.fix (T, tobj Z swB 2 1 false) (by simp))).mono ?_
  rintro e w6 ⟨rfl, rfl⟩
  go_wp2_with (fail)
  refine (twin_side w5 T Z 2 1 swB false (H5.out.fix (T, tobj Z swB 2 1 false) (by simp))).mono ?_
  rintro e w6 ⟨rfl, rfl⟩
  go_wp2_with (fail)
  refine (twin_text w5 T' Z 2 1 swB false (H5.out.fix (T', tobj Z swB 2 1 false) (by simp))).mono ?_
  rintro e w6 ⟨rfl, rfl⟩
  go_wp2_with (fail)
  refine (twin_gen w5 T' Z 2 1 swB false (H5.out.fix (T', tobj Z swB 2 1 false) (by simp))).mono ?_
  rintro e w6 ⟨rfl, rfl⟩
  go_wp2_with (fail)
  refine (disk_loose _ w5 D aw2 H5.out.disk).mono ?_
  rintro e w6 ⟨rfl, rfl⟩
  rw [show aw2.loose = [] from rfl]
  go_wp2_with (fail)
  refine bodyPost_ret (results_tmp rfl _ _ _) rfl ?_
  exact ⟨rfl, H5.out.below⟩
end Go.Proofs.YtblgabdlpobbjaaGreatDoor
namespace Go.Proofs.YtblgabdlpobbjaaGreatDoor
open Go.ChangeShapes Go.WideShapes Go.ChangeAt Go.RowKit Pn Dk Sl Tw

namespace Tw
/-- A twin of all n sectors of a disk. -/
structure Hold (w wr : World) (D Z T : Nat) (x : Dk.St) (t : ByteArray) (g k n B : Nat) : Prop where
  zn : Zn w wr D x [(T, tobj Z t g k false), (Z, zobj D 0 n)]
  new : w.heap.size ≤ T
  ne : ∀ z ∈ [(Z, zobj D 0 n)], z.1 ≠ T
  on : x.away = false
  nofuse : x.fuse = none
  cnt : x.n = n
  few : x.loose = []
  full : x.Full
  done : x.done ≤ B
  last : acc x 0 n 2 = (t, g, k)
  one : 1 ≤ g
namespace Hold
variable {w wr wr' : World} {D Z T : Nat} {x : Dk.St} {t : ByteArray} {g k n B C : Nat}
theorem step (h : Hold w wr D Z T x t g k n B) (hb : Below wr.heap.size wr wr') : Hold w wr' D Z T x t g k n B :=
  ⟨h.zn.step hb, h.new, h.ne, h.on, h.nofuse, h.cnt, h.few, h.full, h.done, h.last, h.one⟩
theorem mono (h : Hold w wr D Z T x t g k n B) (hB : B ≤ C) : Hold w wr D Z T x t g k n C :=
  ⟨h.zn, h.new, h.ne, h.on, h.nofuse, h.cnt, h.few, h.full, Nat.le_trans h.done hB, h.last, h.one⟩
theorem tfix (h : Hold w wr D Z T x t g k n B) : wr.heap[T]? = some (tobj Z t g k false) := h.zn.fix (T, tobj Z t g k false) (by simp)
theorem safe (h : Hold w wr D Z T x t g k n B) : x.safe = x.now := by
  have := h.full
  unfold Dk.St.Full at this
  rw [h.few] at this
  exact this
theorem inv (h : Hold w wr D Z T x t g k n B) : k < 2 ∧ getS x 0 n k = (t, g, 0) ∧ g ≤ 2147483647 := by
  have h1 := acc_inv x 0 n (by rw [h.last]; exact h.one)
  rw [h.last] at h1
  exact h1
theorem racc (h : Hold w wr D Z T x t g k n B) (h4 : 4 ≤ n) (h2 : n % 2 = 0) : racc x.safe n 2 = (t, g, (k : Int)) := by
  rw [racc_eq h.safe.symm h4 h2 2 (Nat.le_refl 2), h.last]
  show (t, g, if g = 0 then (-1 : Int) else (k : Int)) = _
  have := h.one
  rw [if_neg (by omega)]
end Hold
section
variable {w wr : World} {D Z T : Nat} {x : Dk.St} {t : ByteArray} {g k n B : Nat} (h : Hold w wr D Z T x t g k n B) (hT : Tabs w) (h4 : 4 ≤ n) (h24 : n ≤ 24) (h2 : n % 2 = 0) (hB : B ≤ 100000)
include h hT h4 h24 h2 hB
theorem Hold.save (u : ByteArray) (hu : u.size ≤ 300) :
    Calls Tryz.prog 16 #[.pointer (some ⟨T, 0, none⟩), .string u] wr fun e w' => ∃ m, e = .returned (.int .i64 m) ∧
      ((szN u.size ≤ n / 2 ∧ g < 2147483647 ∧ m = 0 ∧ ∃ y, Hold w w' D Z T y u (g + 1) (1 - k) n (B + 40) ∧ imgS n y.safe = imgS n (wrF x.safe ((1 - k) * (n / 2)) (n / 2) (szN u.size) (g + 1) (sealL u))) ∨
       (¬ (szN u.size ≤ n / 2 ∧ g < 2147483647) ∧ wr = w' ∧ (m = 1 ∨ (m = 10 ∧ g = 2147483647)))) := by
  obtain ⟨hk, hgs, hgm⟩ := h.inv
  have hzf := h.zn.fix (Z, zobj D 0 n) (by simp)
  by_cases hf : szN u.size ≤ n / 2
  · by_cases hg : g < 2147483647
    · have hd := h.done
      have hk1 : (1 - k) * (n / 2) ≤ 1 * (n / 2) := Nat.mul_le_mul_right _ (by omega)
      have hk2 : k = 0 ∨ k = 1 := by omega
      refine (h.zn.saveOn (T := T) (Z := Z) (f := 0) (n := n) (List.mem_cons_self ..) h.ne h.new hT h.on h.nofuse (by rw [h.few]; decide) (by omega) (by rw [h.cnt]; omega) (by omega) hk u (by omega) hf hg).mono ?_
      rintro e w' ⟨rfl, h1⟩
      have hFu : ((x.cleared (Zn.other 0 n k) (n / 2)).laid (Zn.other 0 n k) (secF (g + 1) (sealL u)) (szN u.size)).burnt.Full := laid_full _ _ _ (full_synced (x := (x.filled (Zn.other 0 n k) (fun _ => 0) (n / 2)).burnt) (filled_full2 x _ _ h.full _)).1 _
      have ho : Zn.other 0 n k = 0 + (1 - k) * (n / 2) := rfl
      have ho2 : (k = 0 → Zn.other 0 n k = n / 2) ∧ (k = 1 → Zn.other 0 n k = 0) := ⟨fun e => by rw [ho, e]; omega, fun e => by rw [ho, e]; omega⟩
      have hcur : getS ((x.cleared (Zn.other 0 n k) (n / 2)).placed (Zn.other 0 n k) (g + 1) u) 0 n (1 - k) = (u, g + 1, 0) := by
        refine got (by omega) (by omega) (by omega) (by omega) fun i hi j hj => ?_
        show sect ((x.cleared (Zn.other 0 n k) (n / 2)).laid (Zn.other 0 n k) (secF (g + 1) (sealL u)) (szN u.size)).now (0 + (1 - k) * (n / 2) + (0 + i)) j = _
        rw [Nat.zero_add i]
        exact laid_in _ (Zn.other 0 n k) _ _ i hi j hj
      have hold : getS ((x.cleared (Zn.other 0 n k) (n / 2)).placed (Zn.other 0 n k) (g + 1) u) 0 n k = (t, g, 0) := by
        rw [← hgs]
        refine getR_near (by omega) fun i hi j hj => ?_
        have hkn : (k = 0 → 0 + k * (n / 2) = 0) ∧ (k = 1 → 0 + k * (n / 2) = n / 2) := ⟨fun e => by rw [e]; omega, fun e => by rw [e]; omega⟩
        show sect ((x.cleared (Zn.other 0 n k) (n / 2)).laid (Zn.other 0 n k) (secF (g + 1) (sealL u)) (szN u.size)).now (0 + k * (n / 2) + i) j = sect x.now (0 + k * (n / 2) + i) j
        rw [laid_out _ (Zn.other 0 n k) _ _ (0 + k * (n / 2) + i) (by rcases hk2 with e | e; have := ho2.1 e; have := hkn.1 e; omega; have := ho2.2 e; have := hkn.2 e; omega) j hj]
        exact filled_out x (Zn.other 0 n k) _ _ (0 + k * (n / 2) + i) (by rcases hk2 with e | e; have := ho2.1 e; have := hkn.1 e; omega; have := ho2.2 e; have := hkn.2 e; omega) j hj
      refine ⟨0, rfl, .inl ⟨hf, hg, rfl, _, ⟨h1, h.new, h.ne, ?_, ?_, ?_, rfl, (full_synced hFu).1, ?_, ?_, by omega⟩, ?_⟩⟩
      · exact (placed_away _ _ _ _).trans ((cleared_away _ _ _).trans h.on)
      · exact placed_fuse _ _ _ _ (cleared_fuse h.nofuse _ _)
      · exact (placed_n _ _ _ _).trans ((cleared_n _ _ _).trans h.cnt)
      · rw [placed_done]
        have := cleared_done x (Zn.other 0 n k) (n / 2)
        omega
      · refine acc_of (by omega) hcur (by omega) fun _ => ?_
        rw [show 1 - (1 - k) = k by omega, hold]
        exact Nat.lt_succ_self g
      · rw [show ((x.cleared (Zn.other 0 n k) (n / 2)).placed (Zn.other 0 n k) (g + 1) u).safe = ((x.cleared (Zn.other 0 n k) (n / 2)).laid (Zn.other 0 n k) (secF (g + 1) (sealL u)) (szN u.size)).now from (full_synced hFu).2]
        refine imgS_congr fun j hj => ?_
        rw [wr_now x (Zn.other 0 n k) (n / 2) (szN u.size) (g + 1) n (sealL u) hf (x.cleared (Zn.other 0 n k) (n / 2)) rfl j hj, h.safe, ho, Nat.zero_add]
    · refine (twin_save_full wr T Z D 0 n g k t u false h.tfix hzf (by omega) (by unfold maxLen; omega) (fitB_true (by omega) hf) (by omega)).mono ?_
      rintro e w' ⟨rfl, rfl⟩
      exact ⟨10, rfl, .inr ⟨fun hh => hg hh.2, rfl, .inr ⟨rfl, by omega⟩⟩⟩
  · refine (twin_save_arg wr T Z D 0 n g k t u false h.tfix hzf (by omega) (by unfold maxLen; omega) (by
      rw [Bool.eq_false_iff]
      exact fun e => hf (fitB_iff.1 e).2)).mono ?_
    rintro e w' ⟨rfl, rfl⟩
    exact ⟨1, rfl, .inr ⟨fun hh => hf hh.1, rfl, .inl rfl⟩⟩
end
def sFirst : ByteArray := ⟨#[102, 105, 114, 115, 116]⟩
theorem first_bytes (F : Nat → UInt8) (n : Nat) (h4 : 4 ≤ n) : catB 1 (sealL sFirst) 2 ++ imgS (n - 2) (fun _ => 0) = imgS n (wrF F 0 n 2 1 (sealL sFirst)) := by
  have e : imgS n (wrF F 0 n 2 1 (sealL sFirst)) = imgS (2 + (n - 2)) (wrF F 0 n 2 1 (sealL sFirst)) := by rw [show 2 + (n - 2) = n by omega]
  rw [e, img_app, cat_eq]
  have p2 : (imgS 2 fun j => secF 1 (sealL sFirst) (j / 32) (j % 32)) = imgS 2 (wrF F 0 n 2 1 (sealL sFirst)) := imgS_congr fun k hk => by
    unfold wrF
    rw [if_pos (by omega), if_pos (by omega), show k / 32 - 0 = k / 32 by omega]
  have p3 : (imgS (n - 2) fun _ => 0) = imgS (n - 2) fun j => wrF F 0 n 2 1 (sealL sFirst) (2 * 32 + j) := imgS_congr fun k hk => by
    unfold wrF
    rw [if_pos (by omega), if_neg (by omega)]
  rw [p2, p3]
theorem hold_first {w wr : World} {D Z T n : Nat} {x : Dk.St} (hx : x.Full) (hn : x.n = n) (ha : x.away = false) (hf : x.fuse = none) (hd : x.done = 0) (h4 : 4 ≤ n) (h24 : n ≤ 24)
    (h1 : w.heap.size ≤ T) (h2 : ∀ z ∈ [(Z, zobj D 0 n)], z.1 ≠ T) (h3 : Zn w wr D ((x.filled 0 (fun _ => 0) n).placed 0 1 sFirst) [(T, tobj Z sFirst 1 0 false), (Z, zobj D 0 n)]) :
    Hold w wr D Z T ((x.filled 0 (fun _ => 0) n).placed 0 1 sFirst) sFirst 1 0 n 100 ∧ imgS n ((x.filled 0 (fun _ => 0) n).placed 0 1 sFirst).safe = catB 1 (sealL sFirst) 2 ++ imgS (n - 2) (fun _ => 0) := by
  have hz2 : szN sFirst.size = 2 := by decide
  have hp : Pair ((x.filled 0 (fun _ => 0) n).placed 0 1 sFirst) 0 (0 + n / 2) (n / 2) 1 sFirst := formatted hx (by decide) (by rw [hz2]; omega) h4 _ rfl
  have hFu : ((x.filled 0 (fun _ => 0) n).laid 0 (secF 1 (sealL sFirst)) (szN sFirst.size)).burnt.Full := laid_full _ _ _ (filled_full2 x _ _ hx _) _
  refine ⟨⟨h3, h1, h2, (placed_away _ _ _ _).trans ((filled_away _ _ _ _).trans ha), placed_fuse _ _ _ _ (filled_fuse x _ _ hf _), (placed_n _ _ _ _).trans ((filled_n _ _ _ _).trans hn), rfl, (full_synced hFu).1, ?_, ?_, Nat.le_refl 1⟩, ?_⟩
  · have e1 := placed_done (x.filled 0 (fun _ => 0) n) 0 1 sFirst
    have e2 := (filled_done x 0 (fun _ => 0) n).2
    omega
  · exact hp.opens (f := 0) (n := n) (k := 0) (by omega) (by omega) (by omega) rfl (by decide)
  · rw [first_bytes x.now n h4, show ((x.filled 0 (fun _ => 0) n).placed 0 1 sFirst).safe = ((x.filled 0 (fun _ => 0) n).laid 0 (secF 1 (sealL sFirst)) (szN sFirst.size)).now from (full_synced hFu).2, hz2]
    exact imgS_congr fun j hj => wr_now x 0 n 2 1 n (sealL sFirst) (by omega) (x.filled 0 (fun _ => 0) n) rfl j hj
end Tw
end Go.Proofs.YtblgabdlpobbjaaGreatDoor
