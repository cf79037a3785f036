/-
  Package bits: what check, Has and First answer. Conditions: the set stands in its block, of at most 1024 numbers; the list's cells are there.
-/
import Derived.Test.YtmihladhopjloaaBt1
namespace Go.Proofs.Ytmihladhopjloaa
open Go.ChangeShapes Go.WideShapes Go.ChangeAt Go.RowKit Bt

/-- Numbers behind a slice. -/
def IntsInB (w : World) (A : Option Addr) (len : Nat) (xs : Nat → Int) : Prop := 0 < len → ∃ pb po, A = some ⟨pb, po, none⟩ ∧ ∀ k, k < len → w.cell? ⟨pb, po + k, none⟩ = some (.int .i64 (xs k))
theorem IntsInB.below {w w' : World} {A : Option Addr} {len : Nat} {xs : Nat → Int} (h : IntsInB w A len xs) (hb : Below w.heap.size w w') : IntsInB w' A len xs := fun h0 => by
  obtain ⟨pb, po, e, hc⟩ := h h0
  exact ⟨pb, po, e, fun k hk => (hb.cell (p := ⟨pb, po + k, none⟩) (block_lt_of_cell (hc k hk))).trans (hc k hk)⟩
theorem IntsInB.drewN {w : World} {A : Option Addr} {len : Nat} {xs : Nat → Int} (h : IntsInB w A len xs) (m : Nat) : IntsInB (w.drewN m) A len xs := h
namespace Bt
/-- Whether all of so many are numbers below n. -/
def allIn (n : Nat) (xs : Nat → Int) (len : Nat) : Bool := (List.range len).all fun k => fitsB n (xs k)
theorem allIn_next (n : Nat) (xs : Nat → Int) (k : Nat) : allIn n xs (k + 1) = (allIn n xs k && fitsB n (xs k)) := by
  unfold allIn; rw [List.range_succ, List.all_append]; simp
theorem allIn_not {n : Nat} {xs : Nat → Int} {k len : Nat} (hk : k < len) (h : fitsB n (xs k) = false) : allIn n xs len = false := by
  unfold allIn
  rw [List.all_eq_false]
  exact ⟨k, List.mem_range.2 hk, by rw [h]; decide⟩
theorem allIn_at {n : Nat} {xs : Nat → Int} {k len : Nat} (hk : k < len) (h : allIn n xs len = true) : fitsB n (xs k) = true := by
  unfold allIn at h
  exact List.all_eq_true.1 h k (List.mem_range.2 hk)
theorem fitsB_nat {n : Nat} {x : Int} (h : fitsB n x = true) : ∃ k : Nat, x = (k : Int) ∧ k < n := by
  unfold fitsB at h
  simp only [Bool.and_eq_true, decide_eq_true_eq] at h
  exact ⟨x.toNat, by omega, by omega⟩
theorem fitsB_of {n k : Nat} (h : k < n) : fitsB n (k : Int) = true := by
  unfold fitsB
  rw [decide_eq_true (by omega), decide_eq_true (by omega)]
  rfl
/-- What check says. -/
def chk (n : Nat) (xs : Nat → Int) (len : Nat) : Int := if allIn n xs len then 0 else 3
theorem chk_in {n : Nat} {xs : Nat → Int} {len : Nat} (h : allIn n xs len = true) : chk n xs len = 0 := by unfold chk; rw [if_pos h]
theorem chk_out {n : Nat} {xs : Nat → Int} {len : Nat} (h : allIn n xs len = false) : chk n xs len = 3 := by unfold chk; rw [h]; rfl
/-- Whether a number is there. -/
def isIn (n : Nat) (u : Nat → Bool) (x : Int) : Bool := fitsB n x && u x.toNat
/-- Whether all of so many are there. -/
def allAt (n : Nat) (u : Nat → Bool) (xs : Nat → Int) (len : Nat) : Bool := (List.range len).all fun k => isIn n u (xs k)
theorem allAt_next (n : Nat) (u : Nat → Bool) (xs : Nat → Int) (k : Nat) : allAt n u xs (k + 1) = (allAt n u xs k && isIn n u (xs k)) := by
  unfold allAt; rw [List.range_succ, List.all_append]; simp
theorem allAt_not {n : Nat} {u : Nat → Bool} {xs : Nat → Int} {k len : Nat} (hk : k < len) (h : isIn n u (xs k) = false) : allAt n u xs len = false := by
  unfold allAt
  rw [List.all_eq_false]
  exact ⟨k, List.mem_range.2 hk, by rw [h]; decide⟩
end Bt
section
variable (w : World) (b n : Nat) (u : Nat → Bool) (hs : w.heap[b]? = some (sobj n u)) (A : Option Addr) (len cap : Nat) (xs : Nat → Int) (hl : len < 9223372036854775807) (hA : IntsInB w A len xs)
include hs hl hA
set_option maxRecDepth 100000 in
set_option maxHeartbeats 1600000 in
theorem bits_check : Calls Try.prog 22 #[.pointer (some ⟨b, 0, none⟩), .slice A len cap] w fun e w' => e = .returned (.int .i64 (chk n xs len)) ∧ w = w' := by
  have HA := Lib.hid hA
  have HF := Lib.hid (fun x => bits_fits w b n u hs x)
  clear hA hs
  go_enter Try.func22, Try.ntmps22
  go_wp2_with (fail)
  go_loopw [11] (fun i wr => ∃ k : Nat, i = .int .i64 (k : Int) ∧ k ≤ len ∧ wr = w ∧ allIn n xs k = true) (fun i _ => match i with | .int _ k => len - k.toNat | _ => 0)
  case atStart => exact ⟨0, rfl, Nat.zero_le _, rfl, rfl⟩
  case round =>
    obtain ⟨k, rfl, hk, rfl, hall⟩ := hrel
    have HL := Lib.hid hall
    clear hall
    by_cases hlt : k < len
    · have x0 : (k : Int) < (len : Int) := by omega
      have x1 : decide ((k : Int) < (len : Int)) = true := decide_eq_true x0
      have x2 : 0 ≤ (k : Int) := by omega
      obtain ⟨pb, po, rfl, hc⟩ := HA.out (by omega)
      have hcell := hc k hlt
      have HFX := Lib.hid (HF.out (xs k))
      clear hc
      cases hf : fitsB n (xs k) with
      | true =>
        rw [hf] at HFX
        go_wp2_with (fail)
        refine HFX.out.mono ?_
        rintro e w2 ⟨rfl, rfl⟩
        go_wp2_with (fail)
        exact ⟨⟨k + 1, rfl, by omega, by trivial, by rw [allIn_next, HL.out, hf]; rfl⟩, by show len - ((k : Int) + 1).toNat < len - (k : Int).toNat; omega⟩
      | false =>
        rw [hf] at HFX
        have HV := Lib.hid (chk_out (allIn_not hlt hf))
        go_wp2_with (fail)
        refine HFX.out.mono ?_
        rintro e w2 ⟨rfl, rfl⟩
        go_wp2_with (fail)
        refine bodyPost_ret (results_tmp rfl _ _ _) rfl ?_
        rw [HV.out]
        exact ⟨rfl, rfl⟩
    · have hke : k = len := by omega
      subst hke
      have x0 : ¬ (k : Int) < (k : Int) := by omega
      have x1 : decide ((k : Int) < (k : Int)) = false := decide_eq_false x0
      clear hlt x0
      go_wp2_with (fail)
      refine bodyPost_ret (results_tmp rfl _ _ _) rfl ?_
      rw [chk_in HL.out]
      exact ⟨rfl, rfl⟩
set_option maxRecDepth 100000 in
set_option maxHeartbeats 1600000 in
theorem bits_Has (hn : n ≤ 1024) : Calls Try.prog 12 #[.pointer (some ⟨b, 0, none⟩), .slice A len cap] w fun e w' => e = .returned (.bool (allAt n u xs len)) ∧ ∃ m, w' = w.drewN m := by
  have HA := Lib.hid hA
  have HF := Lib.hid (fun m x => bits_fits (w.drewN m) b n u (sobj_drewN hs m) x)
  have HH := Lib.hid (fun m k hk => bits_has (w.drewN m) b n u (sobj_drewN hs m) k hk)
  clear hA hs
  go_enter Try.func12, Try.ntmps12
  go_wp2_with (fail)
  go_loopw [11] (fun i wr => ∃ k m : Nat, i = .int .i64 (k : Int) ∧ k ≤ len ∧ wr = w.drewN m ∧ allAt n u xs k = true) (fun i _ => match i with | .int _ k => len - k.toNat | _ => 0)
  case atStart => exact ⟨0, 0, rfl, Nat.zero_le _, rfl, rfl⟩
  case round =>
    obtain ⟨k, m, rfl, hk, rfl, hall⟩ := hrel
    have HL := Lib.hid hall
    clear hall
    by_cases hlt : k < len
    · have x0 : (k : Int) < (len : Int) := by omega
      have x1 : decide ((k : Int) < (len : Int)) = true := decide_eq_true x0
      have x2 : 0 ≤ (k : Int) := by omega
      obtain ⟨pb, po, rfl, hc⟩ := HA.out (by omega)
      have hcell : (w.drewN m).cell? ⟨pb, po + k, none⟩ = some (.int .i64 (xs k)) := hc k hlt
      have HFX := Lib.hid (HF.out m (xs k))
      clear hc
      cases hf : fitsB n (xs k) with
      | true =>
        rw [hf] at HFX
        obtain ⟨j, hj, hjn⟩ := fitsB_nat hf
        have HHX := Lib.hid (HH.out m j (by omega))
        have HI := Lib.hid (show isIn n u (xs k) = u j by unfold isIn; rw [hf, hj]; rfl)
        rw [hj] at hcell HFX
        clear HF HH hf hj
        cases hu : u j with
        | true =>
          rw [hu] at HHX HI
          go_wp2_with (fail)
          refine HFX.out.mono ?_
          rintro e w2 ⟨rfl, rfl⟩
          go_wp2_with (fail)
          refine HHX.out.mono ?_
          rintro e w2 ⟨rfl, m2, rfl⟩
          go_wp2_with (fail)
          exact ⟨⟨k + 1, m + m2, rfl, by omega, rfl, by rw [allAt_next, HL.out, HI.out]; rfl⟩, by show len - ((k : Int) + 1).toNat < len - (k : Int).toNat; omega⟩
        | false =>
          rw [hu] at HHX HI
          have HV := Lib.hid (allAt_not hlt HI.out)
          go_wp2_with (fail)
          refine HFX.out.mono ?_
          rintro e w2 ⟨rfl, rfl⟩
          go_wp2_with (fail)
          refine HHX.out.mono ?_
          rintro e w2 ⟨rfl, m2, rfl⟩
          go_wp2_with (fail)
          refine bodyPost_ret (results_tmp rfl _ _ _) rfl ?_
          rw [HV.out]
          exact ⟨rfl, m + m2, rfl⟩
      | false =>
        rw [hf] at HFX
        have HV := Lib.hid (allAt_not (u := u) hlt (show isIn n u (xs k) = false by unfold isIn; rw [hf]; rfl))
        go_wp2_with (fail)
        refine HFX.out.mono ?_
        rintro e w2 ⟨rfl, rfl⟩
        go_wp2_with (fail)
        refine bodyPost_ret (results_tmp rfl _ _ _) rfl ?_
        rw [HV.out]
        exact ⟨rfl, m, rfl⟩
    · have hke : k = len := by omega
      subst hke
      have x0 : ¬ (k : Int) < (k : Int) := by omega
      have x1 : decide ((k : Int) < (k : Int)) = false := decide_eq_false x0
      clear hlt x0
      go_wp2_with (fail)
      refine bodyPost_ret (results_tmp rfl _ _ _) rfl ?_
      rw [HL.out]
      exact ⟨rfl, m, rfl⟩
end
end Go.Proofs.Ytmihladhopjloaa
