/-
  The program's sums (package sha): digits as a sum, the walk. No conditions.
-/
import Derived.Test.YtdadcpkkpopbcaaDoorShaParse
namespace Go.Proofs.YtdadcpkkpopbcaaDoor
open Go.ChangeShapes Go.WideShapes Go.ChangeAt Go.RowKit Sh

theorem hb5 : Tryd.prog.built 25 [] = some (digF fun _ => 0) := by kernel_rfl
theorem results_dig_no {w : World} {tmps : Array Value} {g : Nat} {f : Nat → UInt8} {t : TypeId} {fr : Nat × Nat} {v : Value} (h0 : tmps.getD 2 undef = .pointer (some ⟨g, 0, none⟩)) (h1 : tmps.getD 3 undef = v)
    (hg : w.heap[g]? = some (.cells (digF f) t fr)) : (results Tryd.f17 tmps).run Tryd.prog w = .ok (.tuple #[.agg (digF f), v]) w := by
  rw [results_cell_tmp (p := 2) (u := 3) (ty := 25) (by kernel_rfl), h0, h1]
  simp [asAddr, run_loadVar_row w g t 25 (digF f) fr _ hg Tryd.underlying25 rfl (hiDigF f)]

set_option maxRecDepth 100000 in
set_option maxHeartbeats 1600000 in
theorem parse_len (q : ByteArray) (w : World) (hq : q.size ≠ 64) :
    Calls Tryd.prog 17 #[.string q] w fun e w' => e = .returned (.tuple #[.agg (digF fun _ => 0), .int .i64 5]) ∧ Below w.heap.size w w' := by
  have h1 : ((q.size : Int) == 64) = false := beq_eq_false_iff_ne.2 (by omega)
  have h2 : ((q.size : Int) != 64) = true := by rw [bne, h1]; rfl
  have HNW := Lib.hid (show ∀ o, (w.alloc o).heap[w.heap.size]? = some o from fun o => heap_alloc_new w o)
  have HO := Lib.hid (hoDig fun _ => 0)
  go_enter Tryd.func17, Tryd.ntmps17
  go_wp2_with (first
    | (refine wpList_build_to rfl 25 #[] rfl [] rfl _ hb5 ?_)
    | (with_reducible refine wpList_store_row rfl 25 _ _ rfl _ _ rfl rfl 25 _ (HNW.out _) (hiDigF _) ?_ HO.out ?_))
  · unfold digF; rw [vals_size]; rfl
  refine bodyPost_ret (results_dig_no rfl rfl (setRow_heap _ _ _ _ _ _ (HNW.out _))) rfl ⟨rfl, ?_⟩
  exact below_setRow' ((Below.refl _ _).alloc (Nat.le_refl _) _) (Nat.le_refl _) _

/-- The row of a sum half told. -/
def half (q : ByteArray) (k j : Nat) : Value := if j < k then .int .u8 ((parsedF q j).toNat : Int) else .int .u8 0
set_option maxRecDepth 100000 in
set_option maxHeartbeats 3200000 in
theorem parse_full (q : ByteArray) (w : World) (hq : q.size = 64) :
    Calls Tryd.prog 17 #[.string q] w fun e w' => (hexText q = true ∧ e = .returned (.tuple #[.agg (digF (parsedF q)), .int .i64 0]) ∨ hexText q = false ∧ e = .returned (.tuple #[.agg (digF fun _ => 0), .int .i64 5])) ∧ Below w.heap.size w w' := by
  have h1 : ((q.size : Int) == 64) = true := beq_iff_eq.2 (by omega)
  have h2 : ((q.size : Int) != 64) = false := by rw [bne, h1]; rfl
  have HQ := Lib.hid hq
  clear hq
  go_enter Tryd.func17, Tryd.ntmps17
  go_wp2_with (fail)
  clear h1 h2
  go_loopw [12] (fun i wr => ∃ k : Nat, k ≤ 32 ∧ i = .int .i64 k ∧ (∀ j, j < 2 * k → isHex (byteAt q.data.toList j) = true) ∧ wr.rowIs w.heap.size 25 32 (fun _ => .int .u8 0) ∧ wr.rowIs (w.heap.size + 1) 25 32 (half q k) ∧ Below w.heap.size w wr) (fun i _ => 32 - (intOf i).toNat)
  case atStart =>
    refine ⟨0, Nat.zero_le _, rfl, fun j hj => by omega, (row_alloc _ rfl (by kernel_rfl)).alloc _, (row_alloc (f := fun _ => Value.int .u8 0) _ (by simp) (by kernel_rfl)).congr fun j _ => ?_, ((Below.refl _ _).alloc (Nat.le_refl _) _).alloc (by simp) _⟩
    unfold half; rw [if_neg (Nat.not_lt_zero j)]
  case round =>
    obtain ⟨k, hk, rfl, hj, hr, hd, hb⟩ := hrel
    by_cases hlt : k < 32
    · have HJ := Lib.hid hj
      clear hj
      have x0 := fun W => index_str q (2 * k) (by have := HQ.out; omega) (2 * (k : Int)) (by omega) W
      have x1 := fun W => index_str q (2 * k + 1) (by have := HQ.out; omega) (2 * (k : Int) + 1) (by omega) W
      have HP := Lib.hid (show parsedF q k = pairB (byteAt q.data.toList (2 * k)) (byteAt q.data.toList (2 * k + 1)) from rfl)
      have HA := Lib.hid (hexText_not q (2 * k) (by have := HQ.out; omega))
      have HB := Lib.hid (hexText_not q (2 * k + 1) (by have := HQ.out; omega))
      have HN := Lib.hid (show isHex (byteAt q.data.toList (2 * k)) = true → isHex (byteAt q.data.toList (2 * k + 1)) = true → ∀ j, j < 2 * (k + 1) → isHex (byteAt q.data.toList j) = true from fun h1 h2 j hj => by
        rcases (show j < 2 * k ∨ j = 2 * k ∨ j = 2 * k + 1 by omega) with h | h | h
        · exact HJ.out j h
        · rw [h]; exact h1
        · rw [h]; exact h2)
      have e0 : IntKind.i64.wrap (2 * (k : Int)) = 2 * (k : Int) := IntWalk.i64_in _ (by omega)
      have e1 : IntKind.i64.wrap (2 * (k : Int) + 1) = 2 * (k : Int) + 1 := IntWalk.i64_in _ (by omega)
      have l0 : 0 ≤ (k : Int) := by omega
      have m0 : (k : Int) < 32 := by omega
      generalize byteAt q.data.toList (2 * k) = a at x0 HP HA HN
      generalize byteAt q.data.toList (2 * k + 1) = b at x1 HP HB HN
      have c0 := hd.cell hlt
      have f0 := hd.frozen k
      have HD := Lib.hid hd
      have HR := Lib.hid hr
      clear hd hr
      have HBL := Lib.hid hb
      have sb := hb.size
      clear hb
      cases ha : isHex a with
      | true =>
        cases hb : isHex b with
        | true =>
          have g0 := hexv_lt a ha
          have g1 := hexv_lt b hb
          have y0 := fun W => hex_index a ha W
          have y1 := fun W => hex_index b hb W
          have HJ16 := Lib.hid (join16 (hexv a) (hexv b) g0 g1)
          have HPV := Lib.hid (pairB_val a b ha hb)
          have HAB := Lib.hid ha
          have HBB := Lib.hid hb
          clear ha hb
          generalize hexv a = n1 at g0 y0 HJ16 HPV
          generalize hexv b = n2 at g1 y1 HJ16 HPV
          have HV := Lib.hid (show bits .or .i64 ((n1 : Int) * 16) (n2 : Int) % 256 = ((parsedF q k).toNat : Int) by rw [Int.mul_comm, HJ16.out, HP.out, HPV.out]; omega)
          have p0 : 0 ≤ (n1 : Int) := by omega
          have p1 : (n1 : Int) < 16 := by omega
          have p2 : 0 ≤ (n2 : Int) := by omega
          have p3 : (n2 : Int) < 16 := by omega
          clear HJ16 HPV HP HA HB
          have Y0 := Lib.hid y0
          have Y1 := Lib.hid y1
          clear y0 y1
          go_wp2
          go_quiet ((go_at_call 24; first | exact Calls.quiet_of_same (Y0.out _) | exact Calls.quiet_of_same (Y1.out _)))
          go_wp2
          go_roundw
          case rel =>
            refine ⟨k + 1, by omega, by go_num, HN.out HAB.out HBB.out, ?_, ?_, (below_drewN HBL.out _).setCell (by show w.heap.size ≤ w.heap.size + 1; omega) _⟩
            · have h : (wr.drewN nq).rowIs w.heap.size 25 32 (fun _ => .int .u8 0) := HR.out
              exact h.of_block (heap_setCell_other _ _ _ _ (by show w.heap.size ≠ w.heap.size + 1; omega))
            · have h : (wr.drewN nq).rowIs (w.heap.size + 1) 25 32 (half q k) := HD.out
              refine (h.set k _).congr fun j _ => ?_
              by_cases e : j = k
              · rw [if_pos e]; subst e; unfold half; rw [if_pos (by omega), HV.out]
              · rw [if_neg e]; unfold half
                by_cases e2 : j < k
                · rw [if_pos e2, if_pos (by omega)]
                · rw [if_neg e2, if_neg (by omega)]
          case measure => simp [intOf]; omega
        | false =>
          have g0 := hexv_lt a ha
          have Y0 := Lib.hid (fun W => hex_index a ha W)
          have Y1 := Lib.hid (fun W => hex_index_not b hb W)
          have HF := Lib.hid (show hexText q = false from HB.out (by rw [hb]; exact Bool.false_ne_true))
          clear HA HB HP HN HD HJ ha hb
          generalize hexv a = n1 at g0 Y0
          have p0 : 0 ≤ (n1 : Int) := by omega
          have HRB := Lib.hid (row_block (w := wr) HR.out)
          have HO := Lib.hid (hoDig fun _ => 0)
          have HZ := Lib.hid (hzDig fun _ => 0)
          go_wp2
          go_quiet ((go_at_call 24; first | exact Calls.quiet_of_same (Y0.out _) | exact Calls.quiet_of_same (Y1.out _)))
          go_wp2_with (first
            | (refine wpList_build_to rfl 25 #[] rfl [] rfl _ hb5 ?_)
            | (with_reducible refine wpList_store_row rfl 25 _ _ rfl _ _ rfl rfl 25 _ HRB.out (hiDigF _) HZ.out HO.out ?_))
          refine bodyPost_ret (results_dig_no rfl rfl (setRow_heap _ _ _ _ _ _ HRB.out)) rfl ⟨Or.inr ⟨HF.out, rfl⟩, ?_⟩
          exact below_setRow' (below_drewN HBL.out _) (Nat.le_refl _) _
      | false =>
        have Y0 := Lib.hid (fun W => hex_index_not a ha W)
        obtain ⟨n2, hn2⟩ : ∃ n2 : Int, ∀ W, Calls Tryd.prog 24 #[.string ⟨#[48, 49, 50, 51, 52, 53, 54, 55, 56, 57, 97, 98, 99, 100, 101, 102]⟩, .int .u8 (b.toNat : Int)] W fun e w' => e = .returned (.int .i64 n2) ∧ w' = W := by
          cases hb : isHex b with
          | true => exact ⟨_, fun W => hex_index b hb W⟩
          | false => exact ⟨_, fun W => hex_index_not b hb W⟩
        have Y1 := Lib.hid hn2
        have HF := Lib.hid (show hexText q = false from HA.out (by rw [ha]; exact Bool.false_ne_true))
        clear HA HB HP HN HD HJ ha hn2
        have HRB := Lib.hid (row_block (w := wr) HR.out)
        have HO := Lib.hid (hoDig fun _ => 0)
        have HZ := Lib.hid (hzDig fun _ => 0)
        go_wp2
        go_quiet ((go_at_call 24; first | exact Calls.quiet_of_same (Y0.out _) | exact Calls.quiet_of_same (Y1.out _)))
        go_wp2_with (first
          | (refine wpList_build_to rfl 25 #[] rfl [] rfl _ hb5 ?_)
          | (with_reducible refine wpList_store_row rfl 25 _ _ rfl _ _ rfl rfl 25 _ HRB.out (hiDigF _) HZ.out HO.out ?_))
        refine bodyPost_ret (results_dig_no rfl rfl (setRow_heap _ _ _ _ _ _ HRB.out)) rfl ⟨Or.inr ⟨HF.out, rfl⟩, ?_⟩
        exact below_setRow' (below_drewN HBL.out _) (Nat.le_refl _) _
    · have hk32 : k = 32 := by omega
      subst hk32
      have HF := Lib.hid (show hexText q = true by rw [hexText_of q fun j h => hj j (by have := HQ.out; omega), HQ.out]; rfl)
      have HRB := Lib.hid (row_block hr)
      have HDB := Lib.hid (show wr.heap[w.heap.size + 1]? = some (.cells (digF (parsedF q)) 25 (0, 0)) from row_block (hd.congr fun j h => by unfold half; rw [if_pos (by omega)]))
      have HO := Lib.hid (hoDig (parsedF q))
      have HZ := Lib.hid (hzDig (parsedF q))
      have HI := Lib.hid (hiDigF (parsedF q))
      have HBL := Lib.hid hb
      clear hj hr hd hb hlt hk
      go_wp2_with (first
        | (with_reducible refine wpList_load_row rfl 25 _ rfl _ rfl 25 _ (0, 0) _ HDB.out Tryd.underlying25 rfl HI.out ?_)
        | (with_reducible refine wpList_store_row rfl 25 _ _ rfl _ _ rfl rfl 25 _ HRB.out HI.out HZ.out HO.out ?_))
      refine bodyPost_ret (results_dig_no rfl rfl (setRow_heap _ _ _ _ _ _ HRB.out)) rfl ⟨Or.inl ⟨HF.out, rfl⟩, ?_⟩
      exact below_setRow' HBL.out (Nat.le_refl _) _
end Go.Proofs.YtdadcpkkpopbcaaDoor
