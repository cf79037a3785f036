/-
  Proved: PenReads: of all bytes, and every row of deeds, what is read, what is left, and whether something was wrong, is the document's. No condition.
-/
import Derived.Test.YtdadcpkkpopbcabPenAwake
import Derived.Test.YtdadcpkkpopbcabPenActs
import Derived.Test.YtdadcpkkpopbcabPenDig
import Derived.Test.YtdadcpkkpopbcabGuard
import Derived.Test.YtdadcpkkpopbcabPenEq
import Derived.Deep.QuietTactic
import Derived.BigQuiet
import Derived.Deep.RegionHeld3
import Derived.Deep.Cut
namespace Go.Proofs.Ytdadcpkkpopbcab.penReads
open Go.ChangeShapes Go.WideShapes Go.ChangeAt Go.RowKit Pn

theorem _root_.Go.Proofs.Ytdadcpkkpopbcab.EyeAt.drew' {w : World} {b : Nat} {r : ByteArray} {bad : Bool} (h : EyeAt w b r bad) : EyeAt w.drew b r bad := h
theorem _root_.Go.Proofs.Ytdadcpkkpopbcab.RefAt.drew' {w : World} {b : Nat} {r : ByteArray} {bad : Bool} (h : RefAt w b r bad) : RefAt w.drew b r bad := h
theorem hbD : Try.prog.built 30 [] = some (dgV fun _ => 0) := by kernel_rfl
theorem dg_row (r : ByteArray) : vals 32 (fun x => if x < (tkOut r 32).size then Value.int .u8 ((byAt (tkOut r 32) x).toNat : Int) else .int .u8 0) = dgV (dgOut r) := by
  refine vals_congr fun j hj => ?_
  by_cases h : 32 ≤ r.size
  · rw [size_pos h (by omega), if_pos hj, tk_out_yes h, byAt_take _ _ _ hj]
    unfold dgOut; rw [if_pos h]
  · rw [tk_out_no (by omega), if_neg (by show ¬ j < 0; omega)]
    unfold dgOut; rw [if_neg h]; rfl
/-- How both readers stand. -/
structure Both (w wr : World) (E U : Nat) (r : ByteArray) (bad : Bool) : Prop where
  eye : EyeAt wr E r bad
  ref : RefAt wr U r bad
  sane : Sane r bad
  size : r.size ≤ 1024
  below : Below w.heap.size w wr
theorem Both.drewN {w wr : World} {E U : Nat} {r : ByteArray} {bad : Bool} (h : Both w wr E U r bad) (n : Nat) : Both w (wr.drewN n) E U r bad := ⟨h.eye.drewN n, h.ref.drewN n, h.sane, h.size, below_drewN h.below n⟩
theorem Both.drew {w wr : World} {E U : Nat} {r : ByteArray} {bad : Bool} (h : Both w wr E U r bad) : Both w wr.drew E U r bad := h.drewN 1
theorem Both.step' {w wr : World} {E U : Nat} {r : ByteArray} {bad : Bool} (h : Both w wr E U r bad) {g : Nat} {c : Array Value} (hE : g ≠ E) (hU : g ≠ U) (hw : w.heap.size ≤ g) : Both w (wr.setRow g c) E U r bad :=
  ⟨h.eye.of_block (setRow_other _ _ _ _ (Ne.symm hE)), h.ref.of_block (setRow_other _ _ _ _ (Ne.symm hU)), h.sane, h.size, below_setRow' h.below hw c⟩
theorem Both.step {w wr w' : World} {E U : Nat} {r : ByteArray} {bad : Bool} (h : Both w wr E U r bad) (hb : Below wr.heap.size wr w') : Both w w' E U r bad :=
  ⟨h.eye.of_block (hb.block E h.eye.lt), h.ref.of_block (hb.block U h.ref.lt), h.sane, h.size, h.below.trans (hb.mono h.below.size)⟩

set_option maxRecDepth 100000 in
set_option maxHeartbeats 4000000 in
theorem walk (s : ByteArray) (w : World) (A : Option Addr) (n cap : Nat) (C : Nat → Array Value) (hnb : n ≤ 9223372036854775807)
    (hC : ∀ i, i < n → ∃ (k n m : Int) (s : ByteArray) (b : UInt8) (f : Nat → UInt8), C i = actC k n m s b f)
    (hA : 0 < n → ∃ b o, A = some ⟨b, o, none⟩ ∧ ∀ i, i < n → w.rangeAt b (o + 37 * i) (C i).toList) :
    Calls Try.prog 3 #[.string s, .slice A n cap] w fun e w' => e = .returned (.bool true) ∧ Below w.heap.size w w' := by
  have HC := Lib.hid hC
  have HA := Lib.hid hA
  clear hC hA
  go_enter Try.func3, Try.ntmps3
  go_wp2_with (fail)
  refine (awake_any w).mono ?_
  rintro e w1 ⟨rfl, b1⟩
  have s1 := b1.size
  by_cases hs : s.size ≤ 1024
  case neg =>
    have hsi : (1024 : Int) < (s.size : Int) := by omega
    go_wp2
    go_ret
    exact ⟨rfl, b1⟩
  have hsi : ¬ (1024 : Int) < (s.size : Int) := by omega
  have HS := Lib.hid hs
  clear hs
  go_wp2_with (fail)
  refine (eye_of s w1).mono ?_
  rintro e w2 ⟨rfl, e2, b2⟩
  have B2 := Lib.hid (b1.trans (b2.mono s1))
  have s2 := e2.lt
  have hE : w.heap.size ≤ w1.heap.size := s1
  generalize w1.heap.size = E at e2 s2 hE ⊢
  have E2 := Lib.hid e2
  clear e2 b2 b1 s1 hsi
  go_wp2_with (fail)
  have hU : E < w2.heap.size := s2
  refine gen_world (fun wr => Both w wr E w2.heap.size s false) ?_ ?_
  · exact ⟨E2.out.of_block (heap_alloc_old w2 _ s2), heap_alloc_new w2 _, (fun h => by cases h), HS.out, B2.out.alloc (by omega) _⟩
  intro w3 h3
  have H3 := Lib.hid h3
  generalize w2.heap.size = U at hU H3 ⊢
  clear h3 B2 E2 s2
  go_loopw [7] (fun i wr => ∃ (k : Nat) (r : ByteArray) (bad : Bool), k ≤ n ∧ i = .int .i64 k ∧ Both w wr E U r bad) (fun i _ => n - (intOf i).toNat)
  case atStart => exact ⟨0, s, false, Nat.zero_le _, rfl, H3.out⟩
  case round =>
    clear H3
    obtain ⟨k, r, bad, hk, rfl, hboth⟩ := hrel
    by_cases hlt : k < n ∧ k < 40
    case neg =>
      have HB := Lib.hid hboth.below
      clear hboth
      have heq0 : ∀ W, (binOp .eql 30 (.agg (dgV fun _ => 0)) (.agg (dgV fun _ => 0))).run Try.prog W = .ok (.bool true) W := fun W => run_eql_dgV _ W
      by_cases hkn : k < n
      case' pos =>
        have mk : (k : Int) < (n : Int) := by omega
        have m4 : ¬ (k : Int) < 40 := by omega
      case' neg => have mk : ¬ (k : Int) < (n : Int) := by omega
      all_goals
        clear hlt
        have hsz := HB.out.size
        go_wp2_with (fail)
        refine (nil_byte wr).mono ?_
        rintro e w4 ⟨rfl, rfl⟩
        go_wp2_with (fail)
        refine (nil_num wr 9).mono ?_
        rintro e w4 ⟨rfl, rfl⟩
        go_wp2_with (fail)
        refine (nil_text wr 9).mono ?_
        rintro e w4 ⟨rfl, b4⟩
        have B4 := Lib.hid (HB.out.trans (b4.mono hsz))
        have hsz4 := b4.size
        clear b4 HB
        go_wp2_with (fail)
        refine (nil_digest w4).mono ?_
        rintro e w5 ⟨rfl, b5⟩
        have B5 := Lib.hid (B4.out.trans (b5.mono (by omega)))
        clear b5 B4
        go_wp2_with ((refine wpList_build_g ?_ 30 rfl _ hbD ?_); rfl)
        refine (nil_left w5).mono ?_
        rintro e w6 ⟨rfl, rfl⟩
        go_wp2_with (fail)
        refine (nil_err w5).mono ?_
        rintro e w6 ⟨rfl, rfl⟩
        go_wp2_with (fail)
        refine (nil_end w5).mono ?_
        rintro e w6 ⟨rfl, rfl⟩
        go_wp2
        go_ret
        exact ⟨rfl, B5.out⟩
    obtain ⟨hkn, hk40⟩ := hlt
    obtain ⟨b, o, rfl, hc⟩ := HA.out (by omega)
    have hck := hc k hkn
    obtain ⟨K, N, M, S, Bb, D, hCk⟩ := HC.out k hkn
    have hsz : (C k).size = 37 := by rw [hCk, actC_size]
    have h0 : (C k)[0]? = some (.int .i64 K) := by rw [hCk, actC_low _ _ _ _ _ _ _ (by omega)]; rfl
    have h1 : (C k)[1]? = some (.int .i64 N) := by rw [hCk, actC_low _ _ _ _ _ _ _ (by omega)]; rfl
    have hone : (C k).all (·.oneCell') = true := by rw [hCk]; exact actC_one K N M S Bb D
    clear hCk
    generalize C k = c at hck hsz h0 h1 hone
    have HB := Lib.hid hboth
    have hb := hboth.below
    rw [Nat.mul_comm] at hck
    have hr0 : wr.rangeAt b (o + k * 37) c.toList := fun j v hj => (hb.cell (p := ⟨b, o + k * 37 + j, none⟩) (block_lt_of_cell (hck j v hj))).trans (hck j v hj)
    have HR0 := Lib.hid hr0
    have hEl := hboth.eye.lt
    have hUl := hboth.ref.lt
    clear hboth hb hr0 hck hc
    have l0 : 0 ≤ (k : Int) := by omega
    have m0 : (k : Int) < (n : Int) := by omega
    have m1 : (k : Int) < 40 := by omega
    have hci : (Try.prog.info? 32).map (·.size) = some c.size := by rw [hsz]; kernel_rfl
    have HAI := Lib.hid (show (Try.prog.info? 32).map (·.size) = some c.toList.length by rw [Array.length_toList]; exact hci)
    have HCI := Lib.hid hci
    have HAO := Lib.hid hone
    have HSZ := Lib.hid hsz
    have H0 := Lib.hid h0
    have H1 := Lib.hid h1
    clear hci hone hsz h0 h1
    have HNW := Lib.hid (show ∀ o, (wr.alloc o).heap[wr.heap.size]? = some o from fun o => heap_alloc_new wr o)
    have hzs : ∀ z : Array Value, z.size = 37 → z.size = c.size := fun z h => h.trans HSZ.out.symm
    have HZS := Lib.hid hzs
    clear hzs
    go_upto_region 11 with (first
      | (refine wpList_load_mid rfl 32 _ rfl b (o + k * 37) rfl c.toList _ HR0.out Try.underlying32 rfl HAI.out ?_)
      | (refine wpList_store_row rfl 32 _ _ rfl _ c rfl rfl 32 _ (HNW.out _) HCI.out (HZS.out _ (by kernel_rfl)) HAO.out ?_))
    -- CASES
    refine gen_world (fun wx => Both w wx E U r bad ∧ wx.heap[wr.heap.size]? = some (.cells c 32 (0, 0))) ⟨(HB.out.step ((Below.refl _ _).alloc (Nat.le_refl _) _)).step' (by omega) (by omega) (HB.out.below.size), setRow_heap _ _ _ _ _ _ (HNW.out _)⟩ ?_
    clear HNW HAI HCI HAO HZS HR0 HA
    rintro wx ⟨hbx, hcx⟩
    have hXE : wr.heap.size ≠ E := by omega
    have hXU : wr.heap.size ≠ U := by omega
    have hE0 := hE
    generalize wr.heap.size = X at hcx hXE hXU
    have x0 : wx.cell? ⟨X, 0, none⟩ = some (.int .i64 K) := (cell_of_row _ _ 0 _ _ _ hcx).trans H0.out
    have x1 : wx.cell? ⟨X, 1, none⟩ = some (.int .i64 N) := (cell_of_row _ _ 1 _ _ _ hcx).trans H1.out
    have hXl : X < wx.heap.size := (Array.getElem?_eq_some_iff.1 hcx).1
    have HBX := Lib.hid hbx
    clear hcx hbx H0 H1 HB HSZ
    by_cases hK5 : K = 5
    · subst hK5
      have hsn := HBX.out.sane
      have HSN0 := Lib.hid hsn
      clear hsn
      go_wp2_with (fail)
      refine (ref_take wx U r bad HBX.out.ref HSN0.out 1).mono ?_
      rintro e w4 ⟨rfl, g1, g2⟩
      have G1 := Lib.hid g1
      have G2 := Lib.hid g2
      have HE4 := Lib.hid (HBX.out.eye.of_block (g2.block E HBX.out.eye.lt (by omega)))
      clear g1 g2
      obtain ⟨tt, htt, hidx⟩ : ∃ tt : ByteArray, (tt = if 1 ≤ r.size then tkOut r 1 else ⟨#[0]⟩) ∧ ∀ W, (Instr.index 9 (.string tt) (.int .i64 0)).run Try.prog W = .ok (.int .u8 ((byAt (tkOut r 1) 0).toNat : Int)) W := by
        refine ⟨_, rfl, fun W => ?_⟩
        by_cases h1 : 1 ≤ r.size
        · rw [if_pos h1]; exact index_by (tkOut r 1) 0 (by have := size_pos h1 (by omega); omega) 0 rfl W
        · rw [if_neg h1, tk_out_no (by omega)]; exact index_by ⟨#[0]⟩ 0 (by decide) 0 rfl W
      have HTT := Lib.hid htt
      clear htt
      have HBY := Lib.hid (show ∀ m, Calls Try.prog 8 #[.pointer (some ⟨E, 0, none⟩)] (w4.drewN m) (EyeSays (w4.drewN m) E (.int .u8 ((byAt (tkOut r 1) 0).toNat : Int)) (tkRest r 1) (tkBad r bad 1)) from fun m => eye_byte (w4.drewN m) E r bad (HE4.out.drewN m))
      generalize byAt (tkOut r 1) 0 = by1 at hidx HBY
      by_cases h1 : 1 ≤ r.size
      · have hne := not_empty (q := tkOut r 1) (by have := size_pos h1 (by omega); omega)
        have htq : tt = tkOut r 1 := by rw [HTT.out, if_pos h1]
        rw [← htq] at hne ⊢
        clear htq HTT
        go_wp2
        go_region_with ((go_at_call 8; refine (HBY.out 1).mono ?_; rintro e w5 ⟨rfl, k1, k2⟩))
        all_goals
          have HB2 := Lib.hid (show Both w w5 E U (tkRest r 1) (tkBad r bad 1) from ⟨k1, (G1.out.drewN 1).of_block (k2.block U (G1.out.drewN 1).lt (by omega)), tk_sane HSN0.out 1, by have := tk_rest_size r 1; have := HBX.out.size; omega,
            below_only (below_drewN (below_only HBX.out.below G2.out (by omega) HBX.out.below.size) 1) k2 hE0 (by have := HBX.out.below.size; have := G2.out.size; show w.heap.size ≤ w4.heap.size; omega)⟩)
          clear k1 k2 HBY HE4 G1 G2 HBX
          have YL := Lib.hid (fun m => eye_left (w5.drewN m) E (tkRest r 1) (tkBad r bad 1) (HB2.out.eye.drewN m))
          have YR := Lib.hid (fun m => eye_err (w5.drewN m) E (tkRest r 1) (tkBad r bad 1) (HB2.out.eye.drewN m))
          have YE := Lib.hid (fun m => eye_end (w5.drewN m) E (tkRest r 1) (tkBad r bad 1) (HB2.out.eye.drewN m))
          have u0 : w5.cell? ⟨U, 0, none⟩ = some (.string (tkRest r 1)) := HB2.out.ref.rest
          have u1 : w5.cell? ⟨U, 1, none⟩ = some (.bool (tkBad r bad 1)) := HB2.out.ref.wrong
          have HREL := Lib.hid (show ∀ m, ∃ (k' : Nat) (r : ByteArray) (bad : Bool), k' ≤ n ∧ Value.int .i64 ((k : Int) + 1) = .int .i64 k' ∧ Both w (w5.drewN m) E U r bad from fun m => ⟨k + 1, (tkRest r 1), (tkBad r bad 1), by omega, by go_num, HB2.out.drewN m⟩)
          have HSN := Lib.hid HB2.out.sane
          clear HB2
          generalize (tkRest r 1) = r2 at YL YR YE u0 HREL HSN ⊢
          generalize (tkBad r bad 1) = x2 at YL YR YE u1 HREL HSN ⊢
          cases x2 with
          | true =>
            have hz : ¬ (0 : Int) < (r2.size : Int) := by have := HSN.out rfl; omega
            have YR2 := Lib.hid (show ∀ m, Calls Try.prog 15 #[.pointer (some ⟨E, 0, none⟩)] (w5.drewN m) (fun e w' => e = .returned (.int .i64 5) ∧ w5.drewN m = w') from YR.out)
            have YE2 := Lib.hid (show ∀ m, Calls Try.prog 16 #[.pointer (some ⟨E, 0, none⟩)] (w5.drewN m) (fun e w' => e = .returned (.int .i64 5) ∧ w5.drewN m = w') from fun m => as_val (YE.out m) (congrArg (fun z => Value.int .i64 z) (if_neg (by omega))))
            go_wp2
            go_quiet ((first | (go_at_call 14; exact quiet_here (YL.out _)) | (go_at_call 15; exact quiet_here (YR2.out _)) | (go_at_call 16; exact quiet_here (YE2.out _))))
            go_wp2
            go_roundw
            case rel => exact HREL.out _
            case measure => simp [intOf]; omega
          | false =>
            by_cases h0 : 0 < r2.size
            · have hz : (0 : Int) < (r2.size : Int) := by omega
              have YR2 := Lib.hid (show ∀ m, Calls Try.prog 15 #[.pointer (some ⟨E, 0, none⟩)] (w5.drewN m) (fun e w' => e = .returned (.int .i64 0) ∧ w5.drewN m = w') from YR.out)
              have YE2 := Lib.hid (show ∀ m, Calls Try.prog 16 #[.pointer (some ⟨E, 0, none⟩)] (w5.drewN m) (fun e w' => e = .returned (.int .i64 5) ∧ w5.drewN m = w') from fun m => as_val (YE.out m) (congrArg (fun z => Value.int .i64 z) (if_pos h0)))
              go_wp2
              go_quiet ((first | (go_at_call 14; exact quiet_here (YL.out _)) | (go_at_call 15; exact quiet_here (YR2.out _)) | (go_at_call 16; exact quiet_here (YE2.out _))))
              go_wp2
              go_roundw
              case rel => exact HREL.out _
              case measure => simp [intOf]; omega
            · have hz : ¬ (0 : Int) < (r2.size : Int) := by omega
              have YR2 := Lib.hid (show ∀ m, Calls Try.prog 15 #[.pointer (some ⟨E, 0, none⟩)] (w5.drewN m) (fun e w' => e = .returned (.int .i64 0) ∧ w5.drewN m = w') from YR.out)
              have YE2 := Lib.hid (show ∀ m, Calls Try.prog 16 #[.pointer (some ⟨E, 0, none⟩)] (w5.drewN m) (fun e w' => e = .returned (.int .i64 0) ∧ w5.drewN m = w') from fun m => as_val (YE.out m) (congrArg (fun z => Value.int .i64 z) (if_neg h0)))
              go_wp2
              go_quiet ((first | (go_at_call 14; exact quiet_here (YL.out _)) | (go_at_call 15; exact quiet_here (YR2.out _)) | (go_at_call 16; exact quiet_here (YE2.out _))))
              go_wp2
              go_roundw
              case rel => exact HREL.out _
              case measure => simp [intOf]; omega
      · have htq : tt = ⟨#[0]⟩ := by rw [HTT.out, if_neg h1]
        have HQ0 := Lib.hid (tk_out_no (r := r) (n := 1) (by omega))
        subst htq
        clear HTT
        rw [HQ0.out]
        go_wp2
        go_region_with ((go_at_call 8; refine (HBY.out 1).mono ?_; rintro e w5 ⟨rfl, k1, k2⟩))
        all_goals
          have HB2 := Lib.hid (show Both w w5 E U (tkRest r 1) (tkBad r bad 1) from ⟨k1, (G1.out.drewN 1).of_block (k2.block U (G1.out.drewN 1).lt (by omega)), tk_sane HSN0.out 1, by have := tk_rest_size r 1; have := HBX.out.size; omega,
            below_only (below_drewN (below_only HBX.out.below G2.out (by omega) HBX.out.below.size) 1) k2 hE0 (by have := HBX.out.below.size; have := G2.out.size; show w.heap.size ≤ w4.heap.size; omega)⟩)
          clear k1 k2 HBY HE4 G1 G2 HBX
          have YL := Lib.hid (fun m => eye_left (w5.drewN m) E (tkRest r 1) (tkBad r bad 1) (HB2.out.eye.drewN m))
          have YR := Lib.hid (fun m => eye_err (w5.drewN m) E (tkRest r 1) (tkBad r bad 1) (HB2.out.eye.drewN m))
          have YE := Lib.hid (fun m => eye_end (w5.drewN m) E (tkRest r 1) (tkBad r bad 1) (HB2.out.eye.drewN m))
          have u0 : w5.cell? ⟨U, 0, none⟩ = some (.string (tkRest r 1)) := HB2.out.ref.rest
          have u1 : w5.cell? ⟨U, 1, none⟩ = some (.bool (tkBad r bad 1)) := HB2.out.ref.wrong
          have HREL := Lib.hid (show ∀ m, ∃ (k' : Nat) (r : ByteArray) (bad : Bool), k' ≤ n ∧ Value.int .i64 ((k : Int) + 1) = .int .i64 k' ∧ Both w (w5.drewN m) E U r bad from fun m => ⟨k + 1, (tkRest r 1), (tkBad r bad 1), by omega, by go_num, HB2.out.drewN m⟩)
          have HSN := Lib.hid HB2.out.sane
          clear HB2
          generalize (tkRest r 1) = r2 at YL YR YE u0 HREL HSN ⊢
          generalize (tkBad r bad 1) = x2 at YL YR YE u1 HREL HSN ⊢
          cases x2 with
          | true =>
            have hz : ¬ (0 : Int) < (r2.size : Int) := by have := HSN.out rfl; omega
            have YR2 := Lib.hid (show ∀ m, Calls Try.prog 15 #[.pointer (some ⟨E, 0, none⟩)] (w5.drewN m) (fun e w' => e = .returned (.int .i64 5) ∧ w5.drewN m = w') from YR.out)
            have YE2 := Lib.hid (show ∀ m, Calls Try.prog 16 #[.pointer (some ⟨E, 0, none⟩)] (w5.drewN m) (fun e w' => e = .returned (.int .i64 5) ∧ w5.drewN m = w') from fun m => as_val (YE.out m) (congrArg (fun z => Value.int .i64 z) (if_neg (by omega))))
            go_wp2
            go_quiet ((first | (go_at_call 14; exact quiet_here (YL.out _)) | (go_at_call 15; exact quiet_here (YR2.out _)) | (go_at_call 16; exact quiet_here (YE2.out _))))
            go_wp2
            go_roundw
            case rel => exact HREL.out _
            case measure => simp [intOf]; omega
          | false =>
            by_cases h0 : 0 < r2.size
            · have hz : (0 : Int) < (r2.size : Int) := by omega
              have YR2 := Lib.hid (show ∀ m, Calls Try.prog 15 #[.pointer (some ⟨E, 0, none⟩)] (w5.drewN m) (fun e w' => e = .returned (.int .i64 0) ∧ w5.drewN m = w') from YR.out)
              have YE2 := Lib.hid (show ∀ m, Calls Try.prog 16 #[.pointer (some ⟨E, 0, none⟩)] (w5.drewN m) (fun e w' => e = .returned (.int .i64 5) ∧ w5.drewN m = w') from fun m => as_val (YE.out m) (congrArg (fun z => Value.int .i64 z) (if_pos h0)))
              go_wp2
              go_quiet ((first | (go_at_call 14; exact quiet_here (YL.out _)) | (go_at_call 15; exact quiet_here (YR2.out _)) | (go_at_call 16; exact quiet_here (YE2.out _))))
              go_wp2
              go_roundw
              case rel => exact HREL.out _
              case measure => simp [intOf]; omega
            · have hz : ¬ (0 : Int) < (r2.size : Int) := by omega
              have YR2 := Lib.hid (show ∀ m, Calls Try.prog 15 #[.pointer (some ⟨E, 0, none⟩)] (w5.drewN m) (fun e w' => e = .returned (.int .i64 0) ∧ w5.drewN m = w') from YR.out)
              have YE2 := Lib.hid (show ∀ m, Calls Try.prog 16 #[.pointer (some ⟨E, 0, none⟩)] (w5.drewN m) (fun e w' => e = .returned (.int .i64 0) ∧ w5.drewN m = w') from fun m => as_val (YE.out m) (congrArg (fun z => Value.int .i64 z) (if_neg h0)))
              go_wp2
              go_quiet ((first | (go_at_call 14; exact quiet_here (YL.out _)) | (go_at_call 15; exact quiet_here (YR2.out _)) | (go_at_call 16; exact quiet_here (YE2.out _))))
              go_wp2
              go_roundw
              case rel => exact HREL.out _
              case measure => simp [intOf]; omega
    by_cases hK6 : K = 6
    · subst hK6
      have HSN0 := Lib.hid HBX.out.sane
      have HX1 := Lib.hid x1
      have x1d : wx.drew.cell? ⟨X, 1, none⟩ = some (.int .i64 N) := x1
      have HEN := Lib.hid (eye_num wx.drew E r bad HBX.out.eye.drew' N)
      have HRN := Lib.hid (fun W (hW : RefAt W U r bad) => ref_num W U r bad hW HSN0.out N)
      go_wp2
      go_region_held3 (fun W : World => W.cell? ⟨X, 1, none⟩ = some (.int .i64 N)) (first | exact x1d | assumption | (show World.cell? (World.drew _) _ = _; assumption))
        (first
        | (go_at_call 9; refine HEN.out.mono ?_; rintro e w4 ⟨rfl, k1, k2⟩; have y1 : w4.cell? ⟨X, 1, none⟩ = some (.int .i64 N) := (k2.cell (a := ⟨X, 1, none⟩) hXl hXE).trans x1d)
        | (go_at_call 10; refine (HRN.out _ ((HBX.out.ref.drew').of_block (k2.block U HBX.out.ref.lt (by omega)))).mono ?_; rintro e w5 ⟨rfl, j1, j2⟩; have z1 : w5.cell? ⟨X, 1, none⟩ = some (.int .i64 N) := (j2.cell (a := ⟨X, 1, none⟩) (Nat.lt_of_lt_of_le hXl k2.size) hXU).trans y1))
      all_goals
        have HB2 := Lib.hid (show Both w w5 E U (nmRest r N) (nmBad r bad N) from ⟨k1.of_block (j2.block E k1.lt (by omega)), j1, nm_sane HSN0.out N, by have := nm_rest_size r N; have := HBX.out.size; omega,
          below_only (below_only (below_drewN HBX.out.below 1) k2 hE0 (by have := HBX.out.below.size; show w.heap.size ≤ wx.heap.size; omega)) j2 (by omega) (by have := HBX.out.below.size; have : wx.heap.size ≤ w4.heap.size := k2.size; omega)⟩)
        clear k1 k2 j1 j2 y1 z1 HEN HRN HBX
        have YL := Lib.hid (fun m => eye_left (w5.drewN m) E (nmRest r N) (nmBad r bad N) (HB2.out.eye.drewN m))
        have YR := Lib.hid (fun m => eye_err (w5.drewN m) E (nmRest r N) (nmBad r bad N) (HB2.out.eye.drewN m))
        have YE := Lib.hid (fun m => eye_end (w5.drewN m) E (nmRest r N) (nmBad r bad N) (HB2.out.eye.drewN m))
        have u0 : w5.cell? ⟨U, 0, none⟩ = some (.string (nmRest r N)) := HB2.out.ref.rest
        have u1 : w5.cell? ⟨U, 1, none⟩ = some (.bool (nmBad r bad N)) := HB2.out.ref.wrong
        have HREL := Lib.hid (show ∀ m, ∃ (k' : Nat) (r : ByteArray) (bad : Bool), k' ≤ n ∧ Value.int .i64 ((k : Int) + 1) = .int .i64 k' ∧ Both w (w5.drewN m) E U r bad from fun m => ⟨k + 1, (nmRest r N), (nmBad r bad N), by omega, by go_num, HB2.out.drewN m⟩)
        have HSN := Lib.hid HB2.out.sane
        clear HB2
        generalize (nmRest r N) = r2 at YL YR YE u0 HREL HSN ⊢
        generalize (nmBad r bad N) = x2 at YL YR YE u1 HREL HSN ⊢
        cases x2 with
        | true =>
          have hz : ¬ (0 : Int) < (r2.size : Int) := by have := HSN.out rfl; omega
          have YR2 := Lib.hid (show ∀ m, Calls Try.prog 15 #[.pointer (some ⟨E, 0, none⟩)] (w5.drewN m) (fun e w' => e = .returned (.int .i64 5) ∧ w5.drewN m = w') from YR.out)
          have YE2 := Lib.hid (show ∀ m, Calls Try.prog 16 #[.pointer (some ⟨E, 0, none⟩)] (w5.drewN m) (fun e w' => e = .returned (.int .i64 5) ∧ w5.drewN m = w') from fun m => as_val (YE.out m) (congrArg (fun z => Value.int .i64 z) (if_neg (by omega))))
          go_wp2
          go_quiet ((first | (go_at_call 14; exact quiet_here (YL.out _)) | (go_at_call 15; exact quiet_here (YR2.out _)) | (go_at_call 16; exact quiet_here (YE2.out _))))
          go_wp2
          go_roundw
          case rel => exact HREL.out _
          case measure => simp [intOf]; omega
        | false =>
          by_cases h0 : 0 < r2.size
          · have hz : (0 : Int) < (r2.size : Int) := by omega
            have YR2 := Lib.hid (show ∀ m, Calls Try.prog 15 #[.pointer (some ⟨E, 0, none⟩)] (w5.drewN m) (fun e w' => e = .returned (.int .i64 0) ∧ w5.drewN m = w') from YR.out)
            have YE2 := Lib.hid (show ∀ m, Calls Try.prog 16 #[.pointer (some ⟨E, 0, none⟩)] (w5.drewN m) (fun e w' => e = .returned (.int .i64 5) ∧ w5.drewN m = w') from fun m => as_val (YE.out m) (congrArg (fun z => Value.int .i64 z) (if_pos h0)))
            go_wp2
            go_quiet ((first | (go_at_call 14; exact quiet_here (YL.out _)) | (go_at_call 15; exact quiet_here (YR2.out _)) | (go_at_call 16; exact quiet_here (YE2.out _))))
            go_wp2
            go_roundw
            case rel => exact HREL.out _
            case measure => simp [intOf]; omega
          · have hz : ¬ (0 : Int) < (r2.size : Int) := by omega
            have YR2 := Lib.hid (show ∀ m, Calls Try.prog 15 #[.pointer (some ⟨E, 0, none⟩)] (w5.drewN m) (fun e w' => e = .returned (.int .i64 0) ∧ w5.drewN m = w') from YR.out)
            have YE2 := Lib.hid (show ∀ m, Calls Try.prog 16 #[.pointer (some ⟨E, 0, none⟩)] (w5.drewN m) (fun e w' => e = .returned (.int .i64 0) ∧ w5.drewN m = w') from fun m => as_val (YE.out m) (congrArg (fun z => Value.int .i64 z) (if_neg h0)))
            go_wp2
            go_quiet ((first | (go_at_call 14; exact quiet_here (YL.out _)) | (go_at_call 15; exact quiet_here (YR2.out _)) | (go_at_call 16; exact quiet_here (YE2.out _))))
            go_wp2
            go_roundw
            case rel => exact HREL.out _
            case measure => simp [intOf]; omega
    by_cases hK7 : K = 7
    · subst hK7
      have HSN0 := Lib.hid HBX.out.sane
      have HX1 := Lib.hid x1
      have x1d : wx.drew.cell? ⟨X, 1, none⟩ = some (.int .i64 N) := x1
      have HEN := Lib.hid (eye_text wx.drew E r bad HBX.out.eye.drew' (by have := HBX.out.size; omega) N)
      have HRN := Lib.hid (fun W (hW : RefAt W U r bad) => ref_text W U r bad hW HSN0.out N)
      go_wp2
      go_region_held3 (fun W : World => W.cell? ⟨X, 1, none⟩ = some (.int .i64 N)) (first | exact x1d | assumption | (show World.cell? (World.drew _) _ = _; assumption))
        (first
        | (go_at_call 11; refine HEN.out.mono ?_; rintro e w4 ⟨rfl, k1, k2⟩; have y1 : w4.cell? ⟨X, 1, none⟩ = some (.int .i64 N) := (k2.cell (a := ⟨X, 1, none⟩) hXl hXE).trans x1d)
        | (go_at_call 12; refine (HRN.out _ ((HBX.out.ref.drew').of_block (k2.block U HBX.out.ref.lt (by omega)))).mono ?_; rintro e w5 ⟨rfl, j1, j2⟩; have z1 : w5.cell? ⟨X, 1, none⟩ = some (.int .i64 N) := (j2.cell (a := ⟨X, 1, none⟩) (Nat.lt_of_lt_of_le hXl k2.size) hXU).trans y1))
      all_goals
        have HB2 := Lib.hid (show Both w w5 E U (txRest r N) (txBad r bad N) from ⟨k1.of_block (j2.block E k1.lt (by omega)), j1, tx_sane HSN0.out N, by have := tx_rest_size r N; have := HBX.out.size; omega,
          below_only (below_only (below_drewN HBX.out.below 1) k2 hE0 (by have := HBX.out.below.size; show w.heap.size ≤ wx.heap.size; omega)) j2 (by omega) (by have := HBX.out.below.size; have : wx.heap.size ≤ w4.heap.size := k2.size; omega)⟩)
        clear k1 k2 j1 j2 y1 z1 HEN HRN HBX
        have YL := Lib.hid (fun m => eye_left (w5.drewN m) E (txRest r N) (txBad r bad N) (HB2.out.eye.drewN m))
        have YR := Lib.hid (fun m => eye_err (w5.drewN m) E (txRest r N) (txBad r bad N) (HB2.out.eye.drewN m))
        have YE := Lib.hid (fun m => eye_end (w5.drewN m) E (txRest r N) (txBad r bad N) (HB2.out.eye.drewN m))
        have u0 : w5.cell? ⟨U, 0, none⟩ = some (.string (txRest r N)) := HB2.out.ref.rest
        have u1 : w5.cell? ⟨U, 1, none⟩ = some (.bool (txBad r bad N)) := HB2.out.ref.wrong
        have HREL := Lib.hid (show ∀ m, ∃ (k' : Nat) (r : ByteArray) (bad : Bool), k' ≤ n ∧ Value.int .i64 ((k : Int) + 1) = .int .i64 k' ∧ Both w (w5.drewN m) E U r bad from fun m => ⟨k + 1, (txRest r N), (txBad r bad N), by omega, by go_num, HB2.out.drewN m⟩)
        have HSN := Lib.hid HB2.out.sane
        clear HB2
        generalize (txRest r N) = r2 at YL YR YE u0 HREL HSN ⊢
        generalize (txBad r bad N) = x2 at YL YR YE u1 HREL HSN ⊢
        cases x2 with
        | true =>
          have hz : ¬ (0 : Int) < (r2.size : Int) := by have := HSN.out rfl; omega
          have YR2 := Lib.hid (show ∀ m, Calls Try.prog 15 #[.pointer (some ⟨E, 0, none⟩)] (w5.drewN m) (fun e w' => e = .returned (.int .i64 5) ∧ w5.drewN m = w') from YR.out)
          have YE2 := Lib.hid (show ∀ m, Calls Try.prog 16 #[.pointer (some ⟨E, 0, none⟩)] (w5.drewN m) (fun e w' => e = .returned (.int .i64 5) ∧ w5.drewN m = w') from fun m => as_val (YE.out m) (congrArg (fun z => Value.int .i64 z) (if_neg (by omega))))
          go_wp2
          go_quiet ((first | (go_at_call 14; exact quiet_here (YL.out _)) | (go_at_call 15; exact quiet_here (YR2.out _)) | (go_at_call 16; exact quiet_here (YE2.out _))))
          go_wp2
          go_roundw
          case rel => exact HREL.out _
          case measure => simp [intOf]; omega
        | false =>
          by_cases h0 : 0 < r2.size
          · have hz : (0 : Int) < (r2.size : Int) := by omega
            have YR2 := Lib.hid (show ∀ m, Calls Try.prog 15 #[.pointer (some ⟨E, 0, none⟩)] (w5.drewN m) (fun e w' => e = .returned (.int .i64 0) ∧ w5.drewN m = w') from YR.out)
            have YE2 := Lib.hid (show ∀ m, Calls Try.prog 16 #[.pointer (some ⟨E, 0, none⟩)] (w5.drewN m) (fun e w' => e = .returned (.int .i64 5) ∧ w5.drewN m = w') from fun m => as_val (YE.out m) (congrArg (fun z => Value.int .i64 z) (if_pos h0)))
            go_wp2
            go_quiet ((first | (go_at_call 14; exact quiet_here (YL.out _)) | (go_at_call 15; exact quiet_here (YR2.out _)) | (go_at_call 16; exact quiet_here (YE2.out _))))
            go_wp2
            go_roundw
            case rel => exact HREL.out _
            case measure => simp [intOf]; omega
          · have hz : ¬ (0 : Int) < (r2.size : Int) := by omega
            have YR2 := Lib.hid (show ∀ m, Calls Try.prog 15 #[.pointer (some ⟨E, 0, none⟩)] (w5.drewN m) (fun e w' => e = .returned (.int .i64 0) ∧ w5.drewN m = w') from YR.out)
            have YE2 := Lib.hid (show ∀ m, Calls Try.prog 16 #[.pointer (some ⟨E, 0, none⟩)] (w5.drewN m) (fun e w' => e = .returned (.int .i64 0) ∧ w5.drewN m = w') from fun m => as_val (YE.out m) (congrArg (fun z => Value.int .i64 z) (if_neg h0)))
            go_wp2
            go_quiet ((first | (go_at_call 14; exact quiet_here (YL.out _)) | (go_at_call 15; exact quiet_here (YR2.out _)) | (go_at_call 16; exact quiet_here (YE2.out _))))
            go_wp2
            go_roundw
            case rel => exact HREL.out _
            case measure => simp [intOf]; omega
    have q5 : (K == 5) = false := beq_eq_false_iff_ne.2 hK5
    have q6 : (K == 6) = false := beq_eq_false_iff_ne.2 hK6
    have q7 : (K == 7) = false := beq_eq_false_iff_ne.2 hK7
    have HSN0 := Lib.hid HBX.out.sane
    have HN7 := Lib.hid (show ∀ o, (wx.alloc o).heap[wx.heap.size]? = some o from fun o => heap_alloc_new wx o)
    have hEx := HBX.out.eye.lt
    have hUx := HBX.out.ref.lt
    have HBW := Lib.hid (show ∀ c, Both w ((wx.alloc (.cells c 30)).setRow wx.heap.size (dgV fun _ => 0)) E U r bad from fun c => (HBX.out.step ((Below.refl _ _).alloc (Nat.le_refl _) _)).step' (by omega) (by omega) HBX.out.below.size)
    have HDW := Lib.hid (show ∀ c, ((wx.alloc (.cells c 30)).setRow wx.heap.size (dgV fun _ => 0)).heap[wx.heap.size]? = some (.cells (dgV fun _ => 0) 30 (0, 0)) from fun c => setRow_heap _ _ _ _ _ _ (HN7.out _))
    have hs7 := HBX.out.below.size
    have hrsz := HBX.out.size
    go_wp2_with (first
      | (refine wpList_build_to rfl 30 #[] rfl [] rfl _ hbD ?_)
      | (with_reducible refine wpList_store_row rfl 30 _ _ rfl _ _ rfl rfl 30 _ (HN7.out _) (dgI _) ?_ (dgO _) ?_))
    · rw [dgV_size]
    refine (ref_take _ U r bad (HBW.out _).ref HSN0.out 32).mono ?_
    rintro e w4 ⟨rfl, g1, g2⟩
    have he4 : EyeAt w4 E r bad := (HBW.out _).eye.of_block (g2.block E (HBW.out _).eye.lt (by omega))
    have hb4 : Below w.heap.size w w4 := below_only (HBW.out _).below g2 (by omega) (HBW.out _).below.size
    have hd4 : w4.rowIs wx.heap.size 30 32 (fun _ => .int .u8 0) := row_of_block ((g2.block wx.heap.size (by simp) (by omega)).trans (HDW.out _))
    have hXX : X < wx.heap.size := hXl
    clear g2 HBW HDW HN7 HBX q5 q6 q7 x0 x1
    generalize wx.heap.size = Dk at hd4 hEx hUx hs7 hXX ⊢
    have HG1 := Lib.hid g1
    have HE4 := Lib.hid he4
    have HB4 := Lib.hid hb4
    have HD4 := Lib.hid hd4
    have HRD := Lib.hid (dg_row r)
    have hq32 : (tkOut r 32).size ≤ 32 := by
      by_cases h : 32 ≤ r.size
      · rw [size_pos h (by omega)]; exact Nat.le_refl _
      · rw [tk_out_no (by omega)]; exact Nat.zero_le _
    have hr1024 := tk_rest_size r 32
    clear g1 he4 hb4 hd4
    generalize hq : tkOut r 32 = q at hq32 HRD ⊢
    clear hq
    go_wp2_with (fail)
    go_loopw [12] (fun i wr => ∃ j : Nat, j ≤ q.size ∧ i = .int .i64 j ∧ wr.rowIs Dk 30 32 (fun x => if x < j then .int .u8 ((byAt q x).toNat : Int) else .int .u8 0) ∧ Only w4 wr Dk) (fun i _ => q.size - (intOf i).toNat)
    case atStart => exact ⟨0, Nat.zero_le _, rfl, HD4.out, Only.refl _ _⟩
    case round =>
      obtain ⟨j, hj, rfl, hrw, how⟩ := hrel
      by_cases hjq : j < q.size
      · have hix := fun W => index_by q j hjq (j : Int) rfl W
        have lj : 0 ≤ (j : Int) := by omega
        have mj : (j : Int) < 32 := by omega
        have nj : (j : Int) < (q.size : Int) := by omega
        have cj := hrw.cell (i := j) (by omega)
        have fj := hrw.frozen j
        have HRW := Lib.hid hrw
        have HOW := Lib.hid how
        clear hrw how
        have hby : ∀ x, x = j → byAt q x = byAt q j := fun x h => by rw [h]
        have HBY := Lib.hid hby
        clear hby
        go_wp2
        go_roundw
        case rel =>
          refine ⟨j + 1, by omega, by go_num, (HRW.out.set j _).congr fun x _ => ?_, HOW.out.setCell (.inl rfl) _⟩
          by_cases e1 : x = j
          · rw [if_pos e1, if_pos (by omega), HBY.out x e1]
          · rw [if_neg e1]
            by_cases e2 : x < j
            · rw [if_pos e2, if_pos (by omega)]
            · rw [if_neg e2, if_neg (by omega)]
        case measure => simp [intOf]; omega
      · have hje : j = q.size := by omega
        subst hje
        have hd5 : wr.heap[Dk]? = some (.cells (dgV (dgOut r)) 30 (0, 0)) := by rw [← HRD.out]; exact row_block hrw
        have he5 := HE4.out.of_block (how.block E HE4.out.lt (by omega))
        have hg5 := HG1.out.of_block (how.block U HG1.out.lt (by omega))
        have hb5 : Below w.heap.size w wr := below_only HB4.out how hs7 HB4.out.size
        have hDl := (Array.getElem?_eq_some_iff.1 hd5).1
        have HIX := Lib.hid (dgI (dgOut r))
        have hnq := run_neq_dgV (dgOut r)
        have HED := Lib.hid (eye_digest wr.drew E r bad (EyeAt.drew' he5))
        generalize dgV (dgOut r) = dd at hd5 HIX hnq HED
        have hrD : wr.drew.rangeAt Dk 0 dd.toList := fun x v hx => by
          rw [Nat.zero_add, cell_of_row wr.drew Dk x dd _ _ hd5, ← Array.getElem?_toList]; exact hx
        have HG5 := Lib.hid hg5
        have HB5 := Lib.hid hb5
        clear hrw how hd5 he5 hg5 hb5 HRD HD4 HE4 HG1 HB4
        have qi : (Try.prog.info? 30).map (·.size) = some dd.toList.length := by rw [Array.length_toList]; exact HIX.out
        have qu := Try.underlying30
        clear HIX
        have hEn : E < Dk := by omega
        go_upto_region 18 with (fail)
        go_region_held3 (fun W : World => W.rangeAt Dk 0 dd.toList) (first | exact hrD | assumption)
          (first
          | (go_at_call 13; refine HED.out.mono ?_; rintro e w6 ⟨rfl, k1, k2⟩; have y1 : w6.rangeAt Dk 0 dd.toList := fun x v hx => (k2.cell (a := ⟨Dk, 0 + x, none⟩) hDl (by show Dk ≠ E; omega)).trans (hrD x v hx)))
        all_goals
          clear qi qu
          have HB2 := Lib.hid (show Both w w6 E U (tkRest r 32) (tkBad r bad 32) from ⟨k1, HG5.out.of_block (k2.block U HG5.out.lt (by omega)), tk_sane HSN0.out 32, by omega, below_only (below_drewN HB5.out 1) k2 hE0 HB5.out.size⟩)
          clear k1 k2 y1 hrD HED HG5 HB5
          have YL := Lib.hid (fun m => eye_left (w6.drewN m) E (tkRest r 32) (tkBad r bad 32) (HB2.out.eye.drewN m))
          have YR := Lib.hid (fun m => eye_err (w6.drewN m) E (tkRest r 32) (tkBad r bad 32) (HB2.out.eye.drewN m))
          have YE := Lib.hid (fun m => eye_end (w6.drewN m) E (tkRest r 32) (tkBad r bad 32) (HB2.out.eye.drewN m))
          have u0 : w6.cell? ⟨U, 0, none⟩ = some (.string (tkRest r 32)) := HB2.out.ref.rest
          have u1 : w6.cell? ⟨U, 1, none⟩ = some (.bool (tkBad r bad 32)) := HB2.out.ref.wrong
          have HREL := Lib.hid (show ∀ m, ∃ (k' : Nat) (r : ByteArray) (bad : Bool), k' ≤ n ∧ Value.int .i64 ((k : Int) + 1) = .int .i64 k' ∧ Both w (w6.drewN m) E U r bad from fun m => ⟨k + 1, (tkRest r 32), (tkBad r bad 32), by omega, by go_num, HB2.out.drewN m⟩)
          have HSN := Lib.hid HB2.out.sane
          clear HB2
          generalize (tkRest r 32) = r2 at YL YR YE u0 HREL HSN ⊢
          generalize (tkBad r bad 32) = x2 at YL YR YE u1 HREL HSN ⊢
          cases x2 with
          | true =>
            have hz : ¬ (0 : Int) < (r2.size : Int) := by have := HSN.out rfl; omega
            have YR2 := Lib.hid (show ∀ m, Calls Try.prog 15 #[.pointer (some ⟨E, 0, none⟩)] (w6.drewN m) (fun e w' => e = .returned (.int .i64 5) ∧ w6.drewN m = w') from YR.out)
            have YE2 := Lib.hid (show ∀ m, Calls Try.prog 16 #[.pointer (some ⟨E, 0, none⟩)] (w6.drewN m) (fun e w' => e = .returned (.int .i64 5) ∧ w6.drewN m = w') from fun m => as_val (YE.out m) (congrArg (fun z => Value.int .i64 z) (if_neg (by omega))))
            go_wp2
            go_quiet ((first | (go_at_call 14; exact quiet_here (YL.out _)) | (go_at_call 15; exact quiet_here (YR2.out _)) | (go_at_call 16; exact quiet_here (YE2.out _))))
            go_wp2
            go_roundw
            case rel => exact HREL.out _
            case measure => simp [intOf]; omega
          | false =>
            by_cases h0 : 0 < r2.size
            · have hz : (0 : Int) < (r2.size : Int) := by omega
              have YR2 := Lib.hid (show ∀ m, Calls Try.prog 15 #[.pointer (some ⟨E, 0, none⟩)] (w6.drewN m) (fun e w' => e = .returned (.int .i64 0) ∧ w6.drewN m = w') from YR.out)
              have YE2 := Lib.hid (show ∀ m, Calls Try.prog 16 #[.pointer (some ⟨E, 0, none⟩)] (w6.drewN m) (fun e w' => e = .returned (.int .i64 5) ∧ w6.drewN m = w') from fun m => as_val (YE.out m) (congrArg (fun z => Value.int .i64 z) (if_pos h0)))
              go_wp2
              go_quiet ((first | (go_at_call 14; exact quiet_here (YL.out _)) | (go_at_call 15; exact quiet_here (YR2.out _)) | (go_at_call 16; exact quiet_here (YE2.out _))))
              go_wp2
              go_roundw
              case rel => exact HREL.out _
              case measure => simp [intOf]; omega
            · have hz : ¬ (0 : Int) < (r2.size : Int) := by omega
              have YR2 := Lib.hid (show ∀ m, Calls Try.prog 15 #[.pointer (some ⟨E, 0, none⟩)] (w6.drewN m) (fun e w' => e = .returned (.int .i64 0) ∧ w6.drewN m = w') from YR.out)
              have YE2 := Lib.hid (show ∀ m, Calls Try.prog 16 #[.pointer (some ⟨E, 0, none⟩)] (w6.drewN m) (fun e w' => e = .returned (.int .i64 0) ∧ w6.drewN m = w') from fun m => as_val (YE.out m) (congrArg (fun z => Value.int .i64 z) (if_neg h0)))
              go_wp2
              go_quiet ((first | (go_at_call 14; exact quiet_here (YL.out _)) | (go_at_call 15; exact quiet_here (YR2.out _)) | (go_at_call 16; exact quiet_here (YE2.out _))))
              go_wp2
              go_roundw
              case rel => exact HREL.out _
              case measure => simp [intOf]; omega
end Go.Proofs.Ytdadcpkkpopbcab.penReads
