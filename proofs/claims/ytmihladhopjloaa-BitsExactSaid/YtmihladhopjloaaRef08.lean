/-
  The reference of layer 8: In and Text. Conditions: the list's cells are there; at most 1024 bools.
-/
import Derived.Test.YtmihladhopjloaaBt7
import Derived.Deep.OwnRows
namespace Go.Proofs.Ytmihladhopjloaa
open Go.ChangeShapes Go.WideShapes Go.ChangeAt Go.RowKit Bt

/-- Bools behind a slice. -/
def BoolsInB (w : World) (A : Option Addr) (len : Nat) (u : Nat → Bool) : Prop := 0 < len → ∃ pb po, A = some ⟨pb, po, none⟩ ∧ ∀ k, k < len → w.cell? ⟨pb, po + k, none⟩ = some (.bool (u k))
theorem BoolsInB.below {w w' : World} {A : Option Addr} {len : Nat} {u : Nat → Bool} (h : BoolsInB w A len u) (hb : Below w.heap.size w w') : BoolsInB w' A len u := fun h0 => by
  obtain ⟨pb, po, e, hc⟩ := h h0
  exact ⟨pb, po, e, fun k hk => (hb.cell (p := ⟨pb, po + k, none⟩) (block_lt_of_cell (hc k hk))).trans (hc k hk)⟩
set_option maxRecDepth 100000 in
set_option maxHeartbeats 1600000 in
theorem ref8_in (w : World) (n : Nat) (A : Option Addr) (len cap : Nat) (xs : Nat → Int) (hl : len < 9223372036854775807) (hA : IntsInB w A len xs) :
    Calls Try.prog 11 #[.slice A len cap, .int .i64 (n : Int)] w fun e w' => e = .returned (.bool (allIn n xs len)) ∧ w = w' := by
  have HA := Lib.hid hA
  clear hA
  go_enter Try.func11, Try.ntmps11
  go_wp2_with (fail)
  go_loopw [5] (fun i wr => ∃ k : Nat, i = .int .i64 (k : Int) ∧ k ≤ len ∧ wr = w ∧ allIn n xs k = true) (fun i _ => match i with | .int _ k => len - k.toNat | _ => 0)
  case atStart => exact ⟨0, rfl, Nat.zero_le _, rfl, rfl⟩
  case round =>
    obtain ⟨k, rfl, hk, rfl, hall⟩ := hrel
    have HL := Lib.hid hall
    clear hall
    by_cases hlt : k < len
    · have x0 : (k : Int) < (len : Int) := by omega
      have x1 : decide ((k : Int) < (len : Int)) = true := decide_eq_true x0
      have x2 : 0 ≤ (k : Int) := by omega
      have x3 := IntWalk.wrap64_in ((k : Int) + 1) (by omega)
      obtain ⟨pb, po, rfl, hc⟩ := HA.out (by omega)
      have hcell := hc k hlt
      clear hc
      have hfd : fitsB n (xs k) = (decide (0 ≤ xs k) && decide (xs k < (n : Int))) := rfl
      generalize hx : xs k = x at hcell hfd
      have HX := Lib.hid hx
      clear hx
      by_cases h0 : x < 0
      · have t0 : decide (x < 0) = true := decide_eq_true h0
        have HV := Lib.hid (allIn_not (n := n) (xs := xs) hlt (by rw [HX.out, hfd, decide_eq_false (by omega), Bool.false_and]))
        clear hfd
        go_wp2_with (fail)
        refine bodyPost_ret (results_tmp rfl _ _ _) rfl ?_
        rw [HV.out]
        exact ⟨rfl, rfl⟩
      · have t0 : decide (x < 0) = false := decide_eq_false h0
        by_cases h1 : (n : Int) ≤ x
        · have t1 : decide ((n : Int) ≤ x) = true := decide_eq_true h1
          have HV := Lib.hid (allIn_not (n := n) (xs := xs) hlt (by rw [HX.out, hfd, decide_eq_false (show ¬ x < (n : Int) by omega), Bool.and_false]))
          clear hfd
          go_wp2_with (fail)
          refine bodyPost_ret (results_tmp rfl _ _ _) rfl ?_
          rw [HV.out]
          exact ⟨rfl, rfl⟩
        · have t1 : decide ((n : Int) ≤ x) = false := decide_eq_false h1
          have HV := Lib.hid (show allIn n xs (k + 1) = true by rw [allIn_next, HL.out, HX.out, hfd, decide_eq_true (show 0 ≤ x by omega), decide_eq_true (show x < (n : Int) by omega)]; rfl)
          clear hfd
          go_wp2_with (fail)
          exact ⟨⟨k + 1, rfl, by omega, by trivial, HV.out⟩, by show len - ((k : Int) + 1).toNat < len - (k : Int).toNat; omega⟩
    · have hke : k = len := by omega
      subst hke
      have x0 : ¬ (k : Int) < (k : Int) := by omega
      have x1 : decide ((k : Int) < (k : Int)) = false := decide_eq_false x0
      clear hlt x0
      go_wp2_with (fail)
      refine bodyPost_ret (results_tmp rfl _ _ _) rfl ?_
      rw [HL.out]
      exact ⟨rfl, rfl⟩
namespace Bt
/-- The numbers below i of a set. -/
def lowU (u : Nat → Bool) (i : Nat) : Nat → Bool := fun k => decide (k < i) && u k
theorem lowU_zero (u : Nat → Bool) : lowU u 0 = fun _ => false := by
  funext k
  unfold lowU
  rw [decide_eq_false (by omega), Bool.false_and]
theorem lowU_next {u : Nat → Bool} {i : Nat} (h : u i = true) : lowU u (i + 1) = upd (lowU u i) i true := by
  funext k
  unfold lowU upd
  by_cases hk : k = i
  · subst hk
    rw [if_pos rfl, h, decide_eq_true (by omega)]
    rfl
  · rw [if_neg hk]
    congr 1
    exact decide_eq_decide.2 (by omega)
theorem lowU_skip {u : Nat → Bool} {i : Nat} (h : u i = false) : lowU u (i + 1) = lowU u i := by
  funext k
  unfold lowU
  by_cases hk : k = i
  · subst hk
    rw [h, Bool.and_false, Bool.and_false]
  · congr 1
    exact decide_eq_decide.2 (by omega)
theorem lowU_all {u : Nat → Bool} {n : Nat} (h : Low n u) : lowU u n = u := by
  funext k
  unfold lowU
  cases hu : u k with
  | false => rw [Bool.and_false]
  | true => rw [decide_eq_true (h k hu)]; rfl
theorem lowU_at (u : Nat → Bool) (i : Nat) : lowU u i i = false := by
  unfold lowU
  rw [decide_eq_false (by omega), Bool.false_and]
theorem bytes_row {w : World} {g m cap : Nat} {u : Nat → Bool} (h : w.rowIs g 5 m fun j => .int .u8 (by8 u j : Int)) :
    (convert 54 9 (.slice (some ⟨g, 0, none⟩) m cap)).run Try.prog w = .ok (.string ⟨(bytesOf u m).toArray⟩) w := by
  refine run_textB w _ m cap (bytesOf u m) (bytesOf_length u _).symm fun j x hj => ?_
  have hl := (List.getElem?_eq_some_iff.1 hj).1
  rw [bcellsB_length, bytesOf_length] at hl
  rw [Addr.add_lit, Nat.zero_add, h.cell hl, ← hj]
  unfold bcellsB
  rw [List.getElem?_map, bytesOf_get u _ j hl]
  show _ = some (Value.int .u8 ((UInt8.ofNat (by8 u j)).toNat : Int))
  rw [byte_back]
end Bt
set_option maxRecDepth 100000 in
set_option maxHeartbeats 3200000 in
theorem ref8_text (w : World) (A : Option Addr) (n cap : Nat) (u : Nat → Bool) (hn : n ≤ 1024) (hu : Low n u) (hA : BoolsInB w A n u) :
    Calls Try.prog 18 #[.slice A n cap] w fun e w' => e = .returned (.string (textB n u)) ∧ Below w.heap.size w w' := by
  have HA := Lib.hid hA
  have HU := Lib.hid hu
  obtain ⟨i0, hi, hz0, hz1, hz2⟩ := info_parts info_u8B
  have HI := Lib.hid hi
  have HZ0 := Lib.hid hz0
  have HZ1 := Lib.hid hz1
  have HZ2 := Lib.hid hz2
  have e7 : ((n : Int) + 7) / 8 = ((szB n : Nat) : Int) := by unfold szB; omega
  have HM := Lib.hid (show szB n ≤ 128 by unfold szB; omega)
  have HT := Lib.hid (show textB n u = ⟨(bytesOf u (szB n)).toArray⟩ from rfl)
  have HJ := Lib.hid (show ∀ i, i < n → i / 8 < szB n from fun i hi => by unfold szB; omega)
  clear hA hu hi hz0 hz1 hz2
  generalize textB n u = q at HT ⊢
  generalize szB n = m at e7 HM HT HJ
  go_enter Try.func18, Try.ntmps18
  go_wp2_with (at_make; refine wpList_make_row _ rfl _ _ 54 rfl 5 i0 (.int .u8 0) Try.underlying54 HI.out HZ0.out HZ1.out rfl .i64 .i64 m (congrArg (Value.int .i64) e7) (congrArg (Value.int .i64) e7) (by rw [HZ2.out]; have := HM.out; omega) (by have := HM.out; omega) ?_)
  have HR0 := Lib.hid (show (w.alloc (.cells (madeCells #[.int .u8 0] m) 5)).rowIs w.heap.size 5 m (fun j => .int .u8 (by8 (lowU u 0) j : Int)) from (World.rowIs_made w (.int .u8 0) m 5).congr fun i _ => by rw [lowU_zero]; rfl)
  have HB0 := Lib.hid ((Below.refl w.heap.size w).alloc (Nat.le_refl _) (.cells (madeCells #[.int .u8 0] m) 5))
  go_loopw [4] (fun i wr => ∃ k : Nat, i = .int .i64 (k : Int) ∧ k ≤ n ∧ wr.rowIs w.heap.size 5 m (fun j => .int .u8 (by8 (lowU u k) j : Int)) ∧ Below w.heap.size w wr) (fun i _ => match i with | .int _ k => n - k.toNat | _ => 0)
  case atStart => exact ⟨0, rfl, Nat.zero_le _, HR0.out, HB0.out⟩
  case round =>
    clear HR0 HB0 e7
    obtain ⟨k, rfl, hk, hr, hb⟩ := hrel
    have HR := Lib.hid hr
    have HB := Lib.hid hb
    clear hr hb
    have x2 : 0 ≤ (k : Int) := by omega
    by_cases hlt : k < n
    · have x0 : (k : Int) < (n : Int) := by omega
      have x1 : decide ((k : Int) < (n : Int)) = true := decide_eq_true x0
      obtain ⟨pb, po, rfl, hc⟩ := HA.out (by omega)
      have hcell := (HB.out.cell (p := ⟨pb, po + k, none⟩) (block_lt_of_cell (hc k hlt))).trans (hc k hlt)
      clear hc
      cases hu : u k with
      | true =>
        rw [hu] at hcell
        have HN := Lib.hid (lowU_next hu)
        have hm8 := by8_more (lowU u k) k (lowU_at u k)
        rw [← lowU_next hu] at hm8
        have hj := HJ.out k hlt
        have hm := HM.out
        have c1 := HR.out.cell hj
        have f1 := HR.out.frozen (k / 8)
        have hlt8 := by8_lt (lowU u (k + 1)) (k / 8)
        have hpw := pw_int k
        have r1 : (k : Int).tmod 8 = ((k % 8 : Nat) : Int) := by rw [Int.tmod_eq_emod_of_nonneg x2]; omega
        have r4 : k % 8 < 8 := by omega
        have k1 : (k : Int) / 8 = ((k / 8 : Nat) : Int) := by omega
        have HS := Lib.hid (show ∀ W : World, W.rowIs w.heap.size 5 m (fun j => .int .u8 (by8 (lowU u k) j : Int)) → (W.setCell ⟨w.heap.size, k / 8, none⟩ (.int .u8 (by8 (lowU u (k + 1)) (k / 8) : Int))).rowIs w.heap.size 5 m (fun j => .int .u8 (by8 (lowU u (k + 1)) j : Int)) from fun W h => (h.set (k / 8) _).congr fun j _ => by
          by_cases e : j = k / 8
          · rw [if_pos e, e]
          · rw [if_neg e, HN.out, by8_upd_other _ _ _ _ e])
        have e1 : IntKind.u8.wrap ((by8 (lowU u k) (k / 8) : Int) + (pw k : Int)) = (by8 (lowU u (k + 1)) (k / 8) : Int) := by
          have : IntKind.u8.wrap ((by8 (lowU u k) (k / 8) : Int) + (pw k : Int)) = ((by8 (lowU u k) (k / 8) : Int) + (pw k : Int)) % 256 := by simp [IntKind.wrap, IntKind.bits, IntKind.signed]
          rw [this]
          omega
        have e2 : ((by8 (lowU u k) (k / 8) : Int) + (pw k : Int)) % 256 = (by8 (lowU u (k + 1)) (k / 8) : Int) := by omega
        clear hm8 hlt8 hu HN
        generalize (by8 (lowU u (k + 1)) (k / 8) : Int) = Y at e1 e2 HS
        generalize (by8 (lowU u k) (k / 8) : Int) = X at e1 e2 c1
        generalize (pw k : Int) = P at e1 e2 hpw
        generalize k / 8 = j at k1 c1 f1 hj HS
        generalize k % 8 = r at hpw r1 r4
        have r2 : 0 ≤ (r : Int) := by omega
        have r3 : (r : Int) < 8 := by omega
        have r5 : IntKind.i64.wrap (r : Int) = (r : Int) := IntWalk.i64_in _ (by omega)
        have hpw2 : IntKind.u8.wrap ((2 : Int) ^ r) = P := by
          rw [← hpw]
          simp [IntKind.wrap, IntKind.bits, IntKind.signed]
        have k2 : 0 ≤ (j : Int) := by omega
        have k3 : (j : Int) < (m : Int) := by omega
        have k5 : IntKind.i64.wrap (j : Int) = (j : Int) := IntWalk.i64_in _ (by omega)
        go_wp2_with (fail)
        go_still_tail 13, (by kernel_rfl)
        change wpList _ _ _ _ _ wr.drew
        have c1d : wr.drew.cell? ⟨w.heap.size, j, none⟩ = some (.int .u8 X) := c1
        have f1d : wr.drew.frozen? ⟨w.heap.size, j, none⟩ = false := f1
        have HRd := Lib.hid (show wr.drew.rowIs w.heap.size 5 m (fun j => .int .u8 (by8 (lowU u k) j : Int)) from HR.out)
        have HBd := Lib.hid (below_drewN HB.out 1)
        clear c1 f1 HR HB hcell
        have HBs : Hid (Below w.heap.size w wr.drew) := HBd
        clear HBd
        generalize wr.drew = w2 at c1d f1d HRd HBs ⊢
        go_wp2_with (fail)
        exact ⟨⟨k + 1, rfl, by omega, HS.out _ HRd.out, HBs.out.setCell (p := ⟨w.heap.size, j, none⟩) (Nat.le_refl _) _⟩, by show n - ((k : Int) + 1).toNat < n - (k : Int).toNat; omega⟩
      | false =>
        rw [hu] at hcell
        have HN := Lib.hid (lowU_skip hu)
        clear hu
        go_wp2_with (fail)
        exact ⟨⟨k + 1, rfl, by omega, by rw [HN.out]; exact HR.out, HB.out⟩, by show n - ((k : Int) + 1).toNat < n - (k : Int).toNat; omega⟩
    · have hke : k = n := by omega
      subst hke
      have x0 : ¬ (k : Int) < (k : Int) := by omega
      have x1 : decide ((k : Int) < (k : Int)) = false := decide_eq_false x0
      have hr := HR.out
      rw [lowU_all HU.out] at hr
      have hcv := bytes_row (cap := m) hr
      rw [← HT.out] at hcv
      clear hlt x0 hr
      go_wp2_with (fail)
      refine bodyPost_ret (results_tmp rfl _ _ _) rfl ?_
      exact ⟨rfl, HB.out⟩
end Go.Proofs.Ytmihladhopjloaa
