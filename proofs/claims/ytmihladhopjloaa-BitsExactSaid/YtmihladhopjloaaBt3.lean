/-
  Package bits: what First, Add and Drop answer. Conditions: the set stands in its block, of at most 1024 numbers; the list's cells are there, not in the set's block.
-/
import Derived.Test.YtmihladhopjloaaBt2
import Derived.StillTailTactics
namespace Go.Proofs.Ytmihladhopjloaa
open Go.ChangeShapes Go.WideShapes Go.ChangeAt Go.RowKit Bt

namespace Bt
/-- The first number that isn't there; -1, if all are. -/
def fstB (n : Nat) (u : Nat → Bool) : Int := match (List.range n).find? fun k => !u k with
  | some k => (k : Int)
  | none => -1
theorem fstB_at {n : Nat} {u : Nat → Bool} {k : Nat} (hk : k < n) (h : u k = false) (hb : ∀ j, j < k → u j = true) : fstB n u = (k : Int) := by
  unfold fstB
  rw [show (List.range n).find? (fun k => !u k) = some k from List.find?_range_eq_some.2 ⟨by rw [h]; rfl, List.mem_range.2 hk, fun j hj => by rw [hb j hj]; rfl⟩]
theorem fstB_all {n : Nat} {u : Nat → Bool} (hb : ∀ j, j < n → u j = true) : fstB n u = -1 := by
  unfold fstB
  rw [show (List.range n).find? (fun k => !u k) = none from List.find?_range_eq_none.2 fun j hj => by rw [hb j hj]; rfl]
/-- Either it is the first that isn't there, or all are. -/
theorem fstB_or (n : Nat) (u : Nat → Bool) : (∃ k, k < n ∧ fstB n u = (k : Int) ∧ u k = false ∧ ∀ j, j < k → u j = true) ∨ fstB n u = -1 ∧ ∀ j, j < n → u j = true := by
  cases h : (List.range n).find? fun k => !u k with
  | none =>
    refine .inr ⟨by unfold fstB; rw [h], fun j hj => ?_⟩
    have := List.find?_range_eq_none.1 h j hj
    simpa using this
  | some k =>
    obtain ⟨h1, h2, h3⟩ := List.find?_range_eq_some.1 h
    refine .inl ⟨k, List.mem_range.1 h2, by unfold fstB; rw [h], by simpa using h1, fun j hj => by simpa using h3 j hj⟩
/-- So many of a list are there, or aren't. -/
def puts (v : Bool) (u : Nat → Bool) (xs : Nat → Int) : Nat → Nat → Bool
  | 0 => u
  | m + 1 => upd (puts v u xs m) (xs m).toNat v
theorem puts_next (v : Bool) (u : Nat → Bool) (xs : Nat → Int) (m : Nat) : puts v u xs (m + 1) = upd (puts v u xs m) (xs m).toNat v := rfl
theorem puts_low {n : Nat} {v : Bool} {u : Nat → Bool} {xs : Nat → Int} (hu : Low n u) : ∀ m, allIn n xs m = true → Low n (puts v u xs m)
  | 0, _ => hu
  | m + 1, h => by
    rw [allIn_next, Bool.and_eq_true] at h
    obtain ⟨k, hk, hkn⟩ := fitsB_nat h.2
    rw [puts_next]
    exact (puts_low hu m h.1).upd (by rw [hk]; exact hkn) v
end Bt
section
variable (w : World) (b n : Nat) (u : Nat → Bool) (hs : w.heap[b]? = some (sobj n u)) (hn : n ≤ 1024)
include hs hn
set_option maxRecDepth 100000 in
set_option maxHeartbeats 1600000 in
theorem bits_first : Calls Try.prog 16 #[.pointer (some ⟨b, 0, none⟩)] w fun e w' => e = .returned (.int .i64 (fstB n u)) ∧ ∃ m, w' = w.drewN m := by
  have HL := Lib.hid (bits_len w b n u hs)
  have HH := Lib.hid (fun m k hk => bits_has (w.drewN m) b n u (sobj_drewN hs m) k hk)
  clear hs
  go_enter Try.func16, Try.ntmps16
  go_wp2_with (fail)
  refine HL.out.mono ?_
  rintro e w2 ⟨rfl, rfl⟩
  go_wp2_with (fail)
  go_loopw [6] (fun i wr => ∃ k m : Nat, i = .int .i64 (k : Int) ∧ k ≤ n ∧ wr = w.drewN m ∧ ∀ j, j < k → u j = true) (fun i _ => match i with | .int _ k => n - k.toNat | _ => 0)
  case atStart => exact ⟨0, 0, rfl, Nat.zero_le _, rfl, fun j hj => by omega⟩
  case round =>
    obtain ⟨k, m, rfl, hk, rfl, hall⟩ := hrel
    have HA := Lib.hid hall
    clear hall
    by_cases hlt : k < n
    · have x0 : (k : Int) < (n : Int) := by omega
      have x1 : decide ((k : Int) < (n : Int)) = true := decide_eq_true x0
      have x2 : 0 ≤ (k : Int) := by omega
      have HHX := Lib.hid (HH.out m k (by omega))
      clear HH HL
      cases hu : u k with
      | true =>
        rw [hu] at HHX
        have HU := Lib.hid hu
        clear hu
        go_wp2_with (fail)
        refine HHX.out.mono ?_
        rintro e w2 ⟨rfl, m2, rfl⟩
        go_wp2_with (fail)
        exact ⟨⟨k + 1, m + m2, rfl, by omega, by trivial, fun j hj => (show j < k ∨ j = k by omega).elim (HA.out j) fun e => e ▸ HU.out⟩, by show n - ((k : Int) + 1).toNat < n - (k : Int).toNat; omega⟩
      | false =>
        rw [hu] at HHX
        have HV := Lib.hid (fstB_at hlt hu HA.out)
        clear hu
        go_wp2_with (fail)
        refine HHX.out.mono ?_
        rintro e w2 ⟨rfl, m2, rfl⟩
        go_wp2_with (fail)
        refine bodyPost_ret (results_tmp rfl _ _ _) rfl ?_
        rw [HV.out]
        exact ⟨rfl, m + m2, rfl⟩
    · have hke : k = n := by omega
      subst hke
      have HV := Lib.hid (fstB_all HA.out)
      have x0 : ¬ (k : Int) < (k : Int) := by omega
      have x1 : decide ((k : Int) < (k : Int)) = false := decide_eq_false x0
      clear hlt x0
      go_wp2_with (fail)
      refine bodyPost_ret (results_tmp rfl _ _ _) rfl ?_
      rw [HV.out]
      exact ⟨rfl, m, rfl⟩
variable (A : Option Addr) (len cap : Nat) (xs : Nat → Int) (hl : len < 9223372036854775807) (hA : IntsInB w A len xs)
include hl hA
set_option maxRecDepth 100000 in
set_option maxHeartbeats 3200000 in
theorem bits_Add (hi : allIn n xs len = true) (hne : 0 < len → ∀ a, A = some a → a.block ≠ b) : Calls Try.prog 10 #[.pointer (some ⟨b, 0, none⟩), .slice A len cap] w fun e w' => e = .returned (.int .i64 0) ∧ w'.heap[b]? = some (sobj n (puts true u xs len)) ∧ Only w w' b := by
  have HCK := Lib.hid (bits_check w b n u hs A len cap xs hl hA)
  rw [chk_in hi] at HCK
  have HA := Lib.hid hA
  have HI := Lib.hid (fun k (hk : k < len) => fitsB_nat (allIn_at hk hi))
  have HNE := Lib.hid hne
  have HS := Lib.hid hs
  have HB := Lib.hid bits_bit
  clear hs hA hi hne
  go_enter Try.func10, Try.ntmps10
  go_wp2_with (fail)
  refine HCK.out.mono ?_
  rintro e w2 ⟨rfl, rfl⟩
  clear HCK
  go_wp2_with (fail)
  go_loopw [16] (fun i wr => ∃ k : Nat, i = .int .i64 (k : Int) ∧ k ≤ len ∧ wr.heap[b]? = some (sobj n (puts true u xs k)) ∧ Only w wr b) (fun i _ => match i with | .int _ k => len - k.toNat | _ => 0)
  case atStart => exact ⟨0, rfl, Nat.zero_le _, HS.out, Only.refl _ _⟩
  case round =>
    clear HS
    obtain ⟨i, rfl, hk, hs, ho⟩ := hrel
    have HO := Lib.hid ho
    have HS := Lib.hid hs
    clear hs ho
    by_cases hlt : i < len
    · have x0 : (i : Int) < (len : Int) := by omega
      have x1 : decide ((i : Int) < (len : Int)) = true := decide_eq_true x0
      have x2 : 0 ≤ (i : Int) := by omega
      obtain ⟨pb, po, rfl, hc⟩ := HA.out (by omega)
      have hcell := (HO.out.cell (a := ⟨pb, po + i, none⟩) (block_lt_of_cell (hc i hlt)) (show pb ≠ b from HNE.out (by omega) ⟨pb, po, none⟩ rfl)).trans (hc i hlt)
      obtain ⟨k, hxk, hkn⟩ := HI.out i hlt
      have HX := Lib.hid hxk
      rw [hxk] at hcell
      clear hc hxk
      have hk1 : k < 1024 := Nat.lt_of_lt_of_le hkn hn
      have HP := Lib.hid (sobj_put HS.out k true)
      have c1 := sobj_byte HS.out (k / 8) (by omega)
      have f1 := sobj_fz HS.out (1 + k / 8)
      have hb := or_bit (puts true u xs i) k
      have HBK := Lib.hid (fun W => HB.out W k)
      have k4 : k / 8 < 128 := by omega
      have k1 : (k : Int) / 8 = ((k / 8 : Nat) : Int) := by omega
      clear hkn
      generalize (by8 (upd (puts true u xs i) k true) (k / 8) : Int) = Y at HP hb
      generalize (by8 (puts true u xs i) (k / 8) : Int) = X at c1 hb
      generalize k / 8 = j at k1 c1 f1 k4 HP
      generalize (pw k : Int) = P at hb HBK
      have k2 : 0 ≤ (j : Int) := by omega
      have k3 : (j : Int) < 128 := by omega
      have k5 : IntKind.i64.wrap (j : Int) = (j : Int) := IntWalk.i64_in _ (by omega)
      go_wp2_with (fail)
      go_still_tail 13, (by kernel_rfl)
      still_call ((HBK.out _).mono fun _ _ ⟨a, b⟩ => ⟨a, b.symm⟩)
      repeat still_step
      refine wpStill_nil ?_
      change wpList _ _ _ _ _ wr.drew
      have c1d : wr.drew.cell? ⟨b, 1 + j, none⟩ = some (.int .u8 X) := c1
      have f1d : wr.drew.frozen? ⟨b, 1 + j, none⟩ = false := f1
      have HPd := Lib.hid (show (wr.drew.setCell ⟨b, 1 + j, none⟩ (.int .u8 Y)).heap[b]? = some (sobj n (upd (puts true u xs i) k true)) from HP.out)
      have HOd := Lib.hid HO.out.drew
      clear c1 f1 HP HO HS hcell
      generalize wr.drew = w2 at c1d f1d HPd HOd ⊢
      go_wp2_with (fail)
      exact ⟨⟨i + 1, rfl, by omega, by rw [puts_next, HX.out]; exact HPd.out, HOd.out.setCell (.inl rfl) _⟩, by show len - ((i : Int) + 1).toNat < len - (i : Int).toNat; omega⟩
    · have hke : i = len := by omega
      subst hke
      have x0 : ¬ (i : Int) < (i : Int) := by omega
      have x1 : decide ((i : Int) < (i : Int)) = false := decide_eq_false x0
      clear hlt x0
      go_wp2_with (fail)
      refine bodyPost_ret (results_tmp rfl _ _ _) rfl ?_
      exact ⟨rfl, HS.out, HO.out⟩
set_option maxRecDepth 100000 in
set_option maxHeartbeats 3200000 in
theorem bits_Drop (hi : allIn n xs len = true) (hne : 0 < len → ∀ a, A = some a → a.block ≠ b) : Calls Try.prog 9 #[.pointer (some ⟨b, 0, none⟩), .slice A len cap] w fun e w' => e = .returned (.int .i64 0) ∧ w'.heap[b]? = some (sobj n (puts false u xs len)) ∧ Only w w' b := by
  have HCK := Lib.hid (bits_check w b n u hs A len cap xs hl hA)
  rw [chk_in hi] at HCK
  have HA := Lib.hid hA
  have HI := Lib.hid (fun k (hk : k < len) => fitsB_nat (allIn_at hk hi))
  have HNE := Lib.hid hne
  have HS := Lib.hid hs
  have HB := Lib.hid bits_bit
  clear hs hA hi hne
  go_enter Try.func9, Try.ntmps9
  go_wp2_with (fail)
  refine HCK.out.mono ?_
  rintro e w2 ⟨rfl, rfl⟩
  clear HCK
  go_wp2_with (fail)
  go_loopw [16] (fun i wr => ∃ k : Nat, i = .int .i64 (k : Int) ∧ k ≤ len ∧ wr.heap[b]? = some (sobj n (puts false u xs k)) ∧ Only w wr b) (fun i _ => match i with | .int _ k => len - k.toNat | _ => 0)
  case atStart => exact ⟨0, rfl, Nat.zero_le _, HS.out, Only.refl _ _⟩
  case round =>
    clear HS
    obtain ⟨i, rfl, hk, hs, ho⟩ := hrel
    have HO := Lib.hid ho
    have HS := Lib.hid hs
    clear hs ho
    by_cases hlt : i < len
    · have x0 : (i : Int) < (len : Int) := by omega
      have x1 : decide ((i : Int) < (len : Int)) = true := decide_eq_true x0
      have x2 : 0 ≤ (i : Int) := by omega
      obtain ⟨pb, po, rfl, hc⟩ := HA.out (by omega)
      have hcell := (HO.out.cell (a := ⟨pb, po + i, none⟩) (block_lt_of_cell (hc i hlt)) (show pb ≠ b from HNE.out (by omega) ⟨pb, po, none⟩ rfl)).trans (hc i hlt)
      obtain ⟨k, hxk, hkn⟩ := HI.out i hlt
      have HX := Lib.hid hxk
      rw [hxk] at hcell
      clear hc hxk
      have hk1 : k < 1024 := Nat.lt_of_lt_of_le hkn hn
      have HP := Lib.hid (sobj_put HS.out k false)
      have c1 := sobj_byte HS.out (k / 8) (by omega)
      have f1 := sobj_fz HS.out (1 + k / 8)
      have hb := not_bit (puts false u xs i) k
      have HBK := Lib.hid (fun W => HB.out W k)
      have k4 : k / 8 < 128 := by omega
      have k1 : (k : Int) / 8 = ((k / 8 : Nat) : Int) := by omega
      clear hkn
      generalize (by8 (upd (puts false u xs i) k false) (k / 8) : Int) = Y at HP hb
      generalize (by8 (puts false u xs i) (k / 8) : Int) = X at c1 hb
      generalize k / 8 = j at k1 c1 f1 k4 HP
      generalize (pw k : Int) = P at hb HBK
      have k2 : 0 ≤ (j : Int) := by omega
      have k3 : (j : Int) < 128 := by omega
      have k5 : IntKind.i64.wrap (j : Int) = (j : Int) := IntWalk.i64_in _ (by omega)
      go_wp2_with (fail)
      go_still_tail 13, (by kernel_rfl)
      still_call ((HBK.out _).mono fun _ _ ⟨a, b⟩ => ⟨a, b.symm⟩)
      repeat still_step
      refine wpStill_nil ?_
      change wpList _ _ _ _ _ wr.drew
      have c1d : wr.drew.cell? ⟨b, 1 + j, none⟩ = some (.int .u8 X) := c1
      have f1d : wr.drew.frozen? ⟨b, 1 + j, none⟩ = false := f1
      have HPd := Lib.hid (show (wr.drew.setCell ⟨b, 1 + j, none⟩ (.int .u8 Y)).heap[b]? = some (sobj n (upd (puts false u xs i) k false)) from HP.out)
      have HOd := Lib.hid HO.out.drew
      clear c1 f1 HP HO HS hcell
      generalize wr.drew = w2 at c1d f1d HPd HOd ⊢
      go_wp2_with (fail)
      exact ⟨⟨i + 1, rfl, by omega, by rw [puts_next, HX.out]; exact HPd.out, HOd.out.setCell (.inl rfl) _⟩, by show len - ((i : Int) + 1).toNat < len - (i : Int).toNat; omega⟩
    · have hke : i = len := by omega
      subst hke
      have x0 : ¬ (i : Int) < (i : Int) := by omega
      have x1 : decide ((i : Int) < (i : Int)) = false := decide_eq_false x0
      clear hlt x0
      go_wp2_with (fail)
      refine bodyPost_ret (results_tmp rfl _ _ _) rfl ?_
      exact ⟨rfl, HS.out, HO.out⟩
omit hn in
set_option maxRecDepth 100000 in
theorem bits_Add_not (hi : allIn n xs len = false) : Calls Try.prog 10 #[.pointer (some ⟨b, 0, none⟩), .slice A len cap] w fun e w' => e = .returned (.int .i64 3) ∧ w = w' := by
  have HCK := Lib.hid (bits_check w b n u hs A len cap xs hl hA)
  rw [chk_out hi] at HCK
  clear hs hA hi
  go_enter Try.func10, Try.ntmps10
  go_wp2_with (fail)
  refine HCK.out.mono ?_
  rintro e w2 ⟨rfl, rfl⟩
  clear HCK
  go_wp2_with (fail)
  refine bodyPost_ret (results_tmp rfl _ _ _) rfl ?_
  exact ⟨rfl, rfl⟩
omit hn in
set_option maxRecDepth 100000 in
theorem bits_Drop_not (hi : allIn n xs len = false) : Calls Try.prog 9 #[.pointer (some ⟨b, 0, none⟩), .slice A len cap] w fun e w' => e = .returned (.int .i64 3) ∧ w = w' := by
  have HCK := Lib.hid (bits_check w b n u hs A len cap xs hl hA)
  rw [chk_out hi] at HCK
  clear hs hA hi
  go_enter Try.func9, Try.ntmps9
  go_wp2_with (fail)
  refine HCK.out.mono ?_
  rintro e w2 ⟨rfl, rfl⟩
  clear HCK
  go_wp2_with (fail)
  refine bodyPost_ret (results_tmp rfl _ _ _) rfl ?_
  exact ⟨rfl, rfl⟩
end
set_option maxRecDepth 100000 in
theorem bits_check_nil (w : World) (v : Value) : Calls Try.prog 22 #[.pointer none, v] w fun e w' => e = .returned (.int .i64 2) ∧ w = w' := by
  go_enter Try.func22, Try.ntmps22
  go_wp2_with (fail)
  refine bodyPost_ret (results_tmp rfl _ _ _) rfl ?_
  exact ⟨rfl, rfl⟩
set_option maxRecDepth 100000 in
theorem bits_Add_nil (w : World) (v : Value) : Calls Try.prog 10 #[.pointer none, v] w fun e w' => e = .returned (.int .i64 2) ∧ w = w' := by
  go_enter Try.func10, Try.ntmps10
  go_wp2_with (fail)
  refine (bits_check_nil _ _).mono ?_
  rintro e w2 ⟨rfl, rfl⟩
  go_wp2_with (fail)
  refine bodyPost_ret (results_tmp rfl _ _ _) rfl ?_
  exact ⟨rfl, rfl⟩
set_option maxRecDepth 100000 in
theorem bits_Drop_nil (w : World) (v : Value) : Calls Try.prog 9 #[.pointer none, v] w fun e w' => e = .returned (.int .i64 2) ∧ w = w' := by
  go_enter Try.func9, Try.ntmps9
  go_wp2_with (fail)
  refine (bits_check_nil _ _).mono ?_
  rintro e w2 ⟨rfl, rfl⟩
  go_wp2_with (fail)
  refine bodyPost_ret (results_tmp rfl _ _ _) rfl ?_
  exact ⟨rfl, rfl⟩
set_option maxRecDepth 100000 in
theorem bits_Has_nil (w : World) (v : Value) : Calls Try.prog 12 #[.pointer none, v] w fun e w' => e = .returned (.bool false) ∧ w = w' := by
  go_enter Try.func12, Try.ntmps12
  go_wp2_with (fail)
  refine bodyPost_ret (results_tmp rfl _ _ _) rfl ?_
  exact ⟨rfl, rfl⟩
set_option maxRecDepth 100000 in
theorem bits_first_nil (w : World) : Calls Try.prog 16 #[.pointer none] w fun e w' => e = .returned (.int .i64 (-1)) ∧ w = w' := by
  go_enter Try.func16, Try.ntmps16
  go_wp2_with (fail)
  refine (bits_len_nil _).mono ?_
  rintro e w2 ⟨rfl, rfl⟩
  go_wp2_with (fail)
  go_loopw [6] (fun i wr => i = .int .i64 0 ∧ wr = w) (fun _ _ => 0)
  case atStart => exact ⟨rfl, rfl⟩
  case round =>
    obtain ⟨rfl, rfl⟩ := hrel
    go_wp2_with (fail)
    refine bodyPost_ret (results_tmp rfl _ _ _) rfl ?_
    exact ⟨rfl, rfl⟩
set_option maxRecDepth 100000 in
theorem bits_row_nil (w : World) : Calls Try.prog 13 #[.pointer none] w fun e w' => e = .returned (.slice none 0 0) ∧ w = w' := by
  go_enter Try.func13, Try.ntmps13
  go_wp2_with (fail)
  refine (bits_len_nil _).mono ?_
  rintro e w2 ⟨rfl, rfl⟩
  go_wp2_with (fail)
  go_loopw [3, 7] (fun r i wr => r = .slice none 0 0 ∧ i = .int .i64 0 ∧ wr = w) (fun _ _ _ => 0)
  case atStart => exact ⟨rfl, rfl, rfl⟩
  case round =>
    obtain ⟨rfl, rfl, rfl⟩ := hrel
    go_wp2_with (fail)
    refine bodyPost_ret (results_tmp rfl _ _ _) rfl ?_
    exact ⟨rfl, rfl⟩
set_option maxRecDepth 100000 in
theorem bits_count_nil (w : World) : Calls Try.prog 14 #[.pointer none] w fun e w' => e = .returned (.int .i64 0) ∧ w = w' := by
  go_enter Try.func14, Try.ntmps14
  go_wp2_with (fail)
  refine (bits_row_nil _).mono ?_
  rintro e w2 ⟨rfl, rfl⟩
  go_wp2_with (fail)
  refine bodyPost_ret (results_tmp rfl _ _ _) rfl ?_
  exact ⟨rfl, rfl⟩
set_option maxRecDepth 100000 in
theorem bits_text_nil (w : World) : Calls Try.prog 17 #[.pointer none] w fun e w' => e = .returned (.string ⟨#[]⟩) ∧ w = w' := by
  go_enter Try.func17, Try.ntmps17
  go_wp2_with (fail)
  refine bodyPost_ret (results_tmp rfl _ _ _) rfl ?_
  exact ⟨rfl, rfl⟩
end Go.Proofs.Ytmihladhopjloaa
