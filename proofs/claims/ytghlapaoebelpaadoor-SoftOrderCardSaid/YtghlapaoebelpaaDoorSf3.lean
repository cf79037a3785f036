/-
  Package soft: Choose. Conditions: the weights are there.
-/
import Derived.Test.YtghlapaoebelpaaDoorSf2
namespace Go.Proofs.YtghlapaoebelpaaDoor
open Go.ChangeShapes Go.WideShapes Go.ChangeAt Go.RowKit Nm Vc Sf

namespace Sf
/-- Whether somebody can be chosen. -/
def okB (ws : List Int) : Bool := ws.all (fun x => decide (0 ≤ x) && decide (x ≤ 1048576)) && (decide (ws.length ≤ 64) && decide (0 < total ws))
/-- Who is chosen; -1: nobody. -/
def chooseL (d : Int) (ws : List Int) : Int := if okB ws = true then pickL d ws else -1
theorem inW_iff {m : Int} {ws : List Int} : InW m ws ↔ ∀ x ∈ ws, 0 ≤ x ∧ x ≤ m := by
  constructor
  · intro h x hx
    obtain ⟨i, hi, rfl⟩ := List.mem_iff_getElem.1 hx
    have := h i hi
    rwa [List.getD_eq_getElem?_getD, List.getElem?_eq_getElem hi] at this
  · intro h i hi
    rw [List.getD_eq_getElem?_getD, List.getElem?_eq_getElem hi]
    exact h _ (List.getElem_mem hi)
theorem okB_iff {ws : List Int} : okB ws = true ↔ okP ws := by
  unfold okB okP
  rw [inW_iff]
  simp [List.all_eq_true]
theorem choose_ok {d : Int} {ws : List Int} (h : okP ws) : chooseL d ws = pickL d ws := if_pos (okB_iff.2 h)
theorem choose_not {d : Int} {ws : List Int} (h : ¬ okP ws) : chooseL d ws = -1 := if_neg fun e => h (okB_iff.1 e)
theorem total_below {ws : List Int} {e : Int} {j n : Nat} (hn : ws.length = n) (he : e < total ws) (h : total (ws.take (j + 1)) ≤ e) (hj : j < n) : j + 1 < n := by
  apply Nat.lt_of_not_le
  intro hle
  rw [List.take_of_length_le (by omega)] at h
  omega
theorem tmod_in (d s : Int) (hs : 0 < s) : -s < d.tmod s ∧ d.tmod s < s := by
  by_cases h : 0 ≤ d
  · have h1 := Int.tmod_nonneg s h
    have h2 := Int.tmod_lt_of_pos d hs
    omega
  · have h1 := Int.tmod_nonneg s (show 0 ≤ -d by omega)
    have h2 := Int.tmod_lt_of_pos (-d) hs
    rw [Int.neg_tmod] at h1 h2
    omega
/-- The sums of the first weights, and one on. -/
theorem total_step {zs : List Int} {j n : Nat} (hz : zs.length = n) (h : InW 1048576 zs) (hj : j < n) : total (zs.take (j + 1)) = total (zs.take j) + zs.getD j 0 ∧ 0 ≤ zs.getD j 0 ∧ zs.getD j 0 ≤ 1048576 := ⟨total_next zs j (by omega), h j (by omega)⟩
/-- All that is asked of a sum that is sought in the weights. -/
structure Find (d : Int) (zs : List Int) (n : Nat) (s e t : Int) : Prop where
  len : zs.length = n
  ok : InW 1048576 zs
  is : s = total zs
  pos : 0 < s
  small : s ≤ 67108864
  e0 : 0 ≤ e
  e1 : e < s
  way : e = if t < 0 then t + s else t
  tin : -s < t ∧ t < s
  tis : d.tmod s = t
  pick : pickL d zs = (findP e zs : Int)
  n0 : 0 < n
  n1 : n ≤ 64
theorem find_of (d : Int) {zs : List Int} (h : okP zs) : ∃ e t, Find d zs zs.length (total zs) e t := by
  obtain ⟨hW, hl, hs⟩ := h
  have hle := total_in (by omega) zs hW
  refine ⟨d.emod (total zs), d.tmod (total zs), rfl, hW, rfl, hs, by omega, Int.emod_nonneg d (by omega), Int.emod_lt_of_pos d hs, emod_way d _ hs, tmod_in d _ hs, rfl, rfl, ?_, hl⟩
  refine Nat.pos_of_ne_zero fun e => ?_
  rw [List.length_eq_zero_iff.1 e] at hs
  exact absurd hs (by decide)
section
variable {d : Int} {zs : List Int} {n : Nat} {s e t : Int} (F : Find d zs n s e t)
include F
theorem Find.small_at {j : Nat} (hj : j ≤ n) : 0 ≤ total (zs.take j) ∧ total (zs.take j) ≤ 1099511627776 :=
  total_small (by omega) (Int.le_refl _) (fun i hi => F.ok i (by rw [F.len]; omega)) (by rw [F.len]; exact hj) F.len (by have := F.n1; omega)
theorem Find.here {j : Nat} (hj : j < n) (hb : ∀ i, i < j → total (zs.take (i + 1)) ≤ e) (h : ¬ zs.getD j 0 ≤ e - total (zs.take j)) : pickL d zs = (j : Int) := by
  rw [F.pick, findP_next (ws := zs) (d := e) (i := j) (by rw [F.len]; exact hj) hb (by omega)]
theorem Find.on {j : Nat} (hj : j < n) (hb : ∀ i, i < j → total (zs.take (i + 1)) ≤ e) (h : zs.getD j 0 ≤ e - total (zs.take j)) :
    j + 1 < n ∧ (∀ i, i < j + 1 → total (zs.take (i + 1)) ≤ e) ∧ wrap64 (e - total (zs.take j) - zs.getD j 0) = e - total (zs.take (j + 1)) := by
  have hst := total_step F.len F.ok hj
  have hnx : total (zs.take (j + 1)) ≤ e := by omega
  have htn := F.small_at (show j ≤ n by omega)
  have h1 := F.e1
  have h2 := F.small
  have h3 := F.e0
  refine ⟨total_below F.len (F.is ▸ F.e1) hnx hj, fun i hi => ?_, ?_⟩
  · by_cases q : i = j
    · rw [q]; exact hnx
    · exact hb i (by omega)
  · rw [show e - total (zs.take j) - zs.getD j 0 = e - total (zs.take (j + 1)) by omega]
    exact IntWalk.wrap64_in _ (by omega)
theorem Find.below (ht : t < 0) : wrap64 (t + s) = e := by
  have h1 := F.way
  rw [if_pos ht] at h1
  have h2 := F.small
  have h3 := F.e1
  have h4 := F.e0
  rw [← h1]
  exact IntWalk.wrap64_in _ (by omega)
theorem Find.above (ht : ¬ t < 0) : t = e := by
  have h1 := F.way
  rw [if_neg ht] at h1
  exact h1.symm
omit F in
theorem start0 (zs : List Int) (e : Int) : e = e - total (zs.take 0) := by show e = e - 0; omega
end
end Sf
section
variable (w : World) (d : Int) (A : Option Addr) (n c : Nat) (zs : List Int)
set_option maxRecDepth 100000 in
set_option maxHeartbeats 1600000 in
theorem soft_choose_not (hz : zs.length = n) (hm : n ≤ 1000000) (hA : KIn .i64 w A zs) (h : ¬ okP zs) :
    Calls Tryd.prog 14 #[.int .i64 d, .slice A n c] w fun e w' => e = .returned (.int .i64 (-1)) ∧ w = w' := by
  by_cases hW : InW 1048576 zs
  · have HS := Lib.hid (soft_sum w 1048576 A n c zs hz hm (by omega) (by omega) hA hW)
    by_cases h0 : total zs = 0
    · rw [h0] at HS
      clear h hW h0 hA
      go_enter Tryd.func14, Tryd.ntmps14
      go_wp2_with (fail)
      refine HS.out.mono ?_
      rintro e w1 ⟨rfl, rfl⟩
      go_wp2_with (fail)
      refine bodyPost_ret (results_tmp rfl _ _ _) rfl ?_
      exact ⟨rfl, rfl⟩
    · have ht := (total_in (by omega) zs hW).1
      have hn : 64 < n := by
        apply Nat.lt_of_not_le
        intro hle
        exact h ⟨hW, by omega, by omega⟩
      have t0 : (total zs == 0) = false := beq_eq_false_iff_ne.2 h0
      have t1 : 64 < (n : Int) := by omega
      have t2 : decide (64 < (n : Int)) = true := decide_eq_true t1
      generalize total zs = s at HS t0
      clear h hW h0 ht hA
      go_enter Tryd.func14, Tryd.ntmps14
      go_wp2_with (fail)
      refine HS.out.mono ?_
      rintro e w1 ⟨rfl, rfl⟩
      go_wp2_with (fail)
      refine bodyPost_ret (results_tmp rfl _ _ _) rfl ?_
      exact ⟨rfl, rfl⟩
  · have HS := Lib.hid (soft_sum_not w 1048576 A n c zs hz hm (by omega) (by omega) hA hW)
    clear h hW hA
    go_enter Tryd.func14, Tryd.ntmps14
    go_wp2_with (fail)
    refine HS.out.mono ?_
    rintro e w1 ⟨rfl, rfl⟩
    go_wp2_with (fail)
    refine bodyPost_ret (results_tmp rfl _ _ _) rfl ?_
    exact ⟨rfl, rfl⟩
set_option maxRecDepth 100000 in
set_option maxHeartbeats 3200000 in
theorem soft_choose_ok (hz : zs.length = n) (hA : KIn .i64 w A zs) (h : okP zs) :
    Calls Tryd.prog 14 #[.int .i64 d, .slice A n c] w fun e w' => e = .returned (.int .i64 (pickL d zs)) ∧ w = w' := by
  have HSM := Lib.hid (soft_sum w 1048576 A n c zs hz (by have := h.2.1; omega) (by omega) (by omega) hA h.1)
  have HA := Lib.hid hA
  obtain ⟨e, t, hf⟩ := find_of d h
  rw [hz] at hf
  generalize total zs = s at HSM hf
  have HF := Lib.hid hf
  have hs0 : 0 < s := hf.pos
  have t0 : (s == 0) = false := beq_eq_false_iff_ne.2 (by omega)
  have t1 : ¬ 64 < (n : Int) := by have := hf.n1; omega
  have t2 : decide (64 < (n : Int)) = false := decide_eq_false t1
  have ht := hf.tis
  have hn := hf.n1
  have hn0 := hf.n0
  clear hA h hf hz
  by_cases hneg : t < 0
  · have t3 : decide (t < 0) = true := decide_eq_true hneg
    have x5 := HF.out.below hneg
    clear hneg
    go_enter Tryd.func14, Tryd.ntmps14
    go_wp2_with (fail)
    refine HSM.out.mono ?_
    rintro e1 w1 ⟨rfl, rfl⟩
    go_wp2_with (fail)
    go_loopw [6, 7] (fun l a wr => ∃ j : Nat, a = .int .i64 (j : Int) ∧ j < n ∧ l = .int .i64 (e - total (zs.take j)) ∧ w = wr ∧ ∀ i, i < j → total (zs.take (i + 1)) ≤ e) (fun _ a _ => match a with | .int _ k => n - k.toNat | _ => 0)
    case atStart => exact ⟨0, rfl, hn0, by rw [← start0]; try rw [x5], rfl, fun i hi => absurd hi (by omega)⟩
    case round =>
      obtain ⟨j, rfl, hlt, rfl, rfl, hb⟩ := hrel
      have x2 : 0 ≤ (j : Int) := by omega
      have x0 : (j : Int) < (n : Int) := by omega
      obtain ⟨pa, oa, rfl, hc⟩ := HA.out.at (show j < zs.length by rw [HF.out.len]; exact hlt)
      by_cases hq : zs.getD j 0 ≤ e - total (zs.take j)
      · have t4 : decide (zs.getD j 0 ≤ e - total (zs.take j)) = true := decide_eq_true hq
        have HON := Lib.hid (HF.out.on hlt hb hq)
        have x4 := HON.out.2.2
        clear hq hb
        generalize zs.getD j 0 = z at hc t4 x4
        generalize total (zs.take j) = q at t4 x4
        generalize hfi : total (zs.take (j + 1)) = f at x4
        have HFI := Lib.hid hfi
        clear hfi
        have x3 := IntWalk.wrap64_in ((j : Int) + 1) (by omega)
        go_wp2_with (fail)
        exact ⟨⟨j + 1, rfl, HON.out.1, by rw [HFI.out, x4], by trivial, HON.out.2.1⟩, vc_less j n hlt⟩
      · have t4 : decide (zs.getD j 0 ≤ e - total (zs.take j)) = false := decide_eq_false hq
        have HR := Lib.hid (HF.out.here hlt hb hq)
        clear hq hb
        generalize zs.getD j 0 = z at hc t4
        generalize total (zs.take j) = q at t4
        go_wp2_with (fail)
        refine bodyPost_ret (results_tmp rfl _ _ _) rfl ?_
        exact ⟨ret_i HR.out.symm, rfl⟩
  · have t3 : decide (t < 0) = false := decide_eq_false hneg
    have x5 := HF.out.above hneg
    rw [x5] at ht t3
    clear hneg
    go_enter Tryd.func14, Tryd.ntmps14
    go_wp2_with (fail)
    refine HSM.out.mono ?_
    rintro e1 w1 ⟨rfl, rfl⟩
    go_wp2_with (fail)
    go_loopw [6, 7] (fun l a wr => ∃ j : Nat, a = .int .i64 (j : Int) ∧ j < n ∧ l = .int .i64 (e - total (zs.take j)) ∧ w = wr ∧ ∀ i, i < j → total (zs.take (i + 1)) ≤ e) (fun _ a _ => match a with | .int _ k => n - k.toNat | _ => 0)
    case atStart => exact ⟨0, rfl, hn0, by rw [← start0]; try rw [x5], rfl, fun i hi => absurd hi (by omega)⟩
    case round =>
      obtain ⟨j, rfl, hlt, rfl, rfl, hb⟩ := hrel
      have x2 : 0 ≤ (j : Int) := by omega
      have x0 : (j : Int) < (n : Int) := by omega
      obtain ⟨pa, oa, rfl, hc⟩ := HA.out.at (show j < zs.length by rw [HF.out.len]; exact hlt)
      by_cases hq : zs.getD j 0 ≤ e - total (zs.take j)
      · have t4 : decide (zs.getD j 0 ≤ e - total (zs.take j)) = true := decide_eq_true hq
        have HON := Lib.hid (HF.out.on hlt hb hq)
        have x4 := HON.out.2.2
        clear hq hb
        generalize zs.getD j 0 = z at hc t4 x4
        generalize total (zs.take j) = q at t4 x4
        generalize hfi : total (zs.take (j + 1)) = f at x4
        have HFI := Lib.hid hfi
        clear hfi
        have x3 := IntWalk.wrap64_in ((j : Int) + 1) (by omega)
        go_wp2_with (fail)
        exact ⟨⟨j + 1, rfl, HON.out.1, by rw [HFI.out, x4], by trivial, HON.out.2.1⟩, vc_less j n hlt⟩
      · have t4 : decide (zs.getD j 0 ≤ e - total (zs.take j)) = false := decide_eq_false hq
        have HR := Lib.hid (HF.out.here hlt hb hq)
        clear hq hb
        generalize zs.getD j 0 = z at hc t4
        generalize total (zs.take j) = q at t4
        go_wp2_with (fail)
        refine bodyPost_ret (results_tmp rfl _ _ _) rfl ?_
        exact ⟨ret_i HR.out.symm, rfl⟩
theorem soft_choose (hz : zs.length = n) (hm : n ≤ 1000000) (hA : KIn .i64 w A zs) :
    Calls Tryd.prog 14 #[.int .i64 d, .slice A n c] w fun e w' => e = .returned (.int .i64 (chooseL d zs)) ∧ w = w' := by
  by_cases h : okP zs
  · rw [choose_ok h]; exact soft_choose_ok w d A n c zs hz hA h
  · rw [choose_not h]; exact soft_choose_not w d A n c zs hz hm hA h
end
end Go.Proofs.YtghlapaoebelpaaDoor
