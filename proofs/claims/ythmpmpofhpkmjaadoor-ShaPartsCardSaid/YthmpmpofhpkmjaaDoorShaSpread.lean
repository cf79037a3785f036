/-
  The program's sums (package sha): the words of a block, and those that come of them. Condition: 64 bytes stand where it looks.
-/
import Derived.Test.YthmpmpofhpkmjaaDoorShaTurn
import Derived.Test.YthmpmpofhpkmjaaDoorShaRow
import Derived.StillTailTactics
import Derived.BigRegion
namespace Go.Proofs.YthmpmpofhpkmjaaDoor
open Go.ChangeShapes Go.WideShapes Go.ChangeAt Go.RowKit Sh

/-- What holds while the words are made: nothing that was there has turned; the new words' row holds the first n words. -/
structure Spr (w wr : World) (bt : Nat → UInt8) (n : Nat) : Prop where
  below : Below w.heap.size w wr
  size : wr.heap.size = w.heap.size + 2
  row : wr.rowIs (w.heap.size + 1) 68 64 (fun j => .int .u32 (if j < n then tn (wAt (word bt) j) else 0))
  res : wr.rowIs w.heap.size 68 64 (fun _ => .int .u32 0)

theorem Spr.drew {w wr : World} {bt : Nat → UInt8} {n : Nat} (h : Spr w wr bt n) : Spr w wr.drew bt n := ⟨below_drewN h.below 1, h.size, h.row, h.res⟩
theorem Spr.drewN {w wr : World} {bt : Nat → UInt8} {n : Nat} (h : Spr w wr bt n) (m : Nat) : Spr w (wr.drewN m) bt n := ⟨below_drewN h.below m, h.size, h.row, h.res⟩
theorem Spr.put {w wr : World} {bt : Nat → UInt8} {n : Nat} (h : Spr w wr bt n) {v : Int} (hv : v = tn (wAt (word bt) n)) : Spr w (wr.setCell ⟨w.heap.size + 1, n, none⟩ (.int .u32 v)) bt (n + 1) := by
  refine ⟨h.below.setCell (by show w.heap.size ≤ w.heap.size + 1; omega) _, by simp [h.size], (h.row.set n _).congr fun j _ => ?_, h.res.setOther (by show w.heap.size ≠ w.heap.size + 1; omega) _⟩
  by_cases e : j = n
  · subst e; rw [if_pos rfl, hv, if_pos (by omega)]
  · rw [if_neg e]
    by_cases hlt : j < n
    · rw [if_pos hlt, if_pos (by omega)]
    · rw [if_neg hlt, if_neg (by omega)]
theorem word_val (a b c d : UInt8) : bits .or .u32 (bits .or .u32 (bits .or .u32 (IntKind.u32.wrap (IntKind.u32.wrap (a.toNat : Int) * 16777216)) (IntKind.u32.wrap (IntKind.u32.wrap (b.toNat : Int) * 65536)))
    (IntKind.u32.wrap (IntKind.u32.wrap (c.toNat : Int) * 256))) (IntKind.u32.wrap (d.toNat : Int)) = tn (be a b c d) := by
  have h24 := shl_u32 (b32 a) 24
  have h16 := shl_u32 (b32 b) 16
  have h8 := shl_u32 (b32 c) 8
  rw [show (2 : Int) ^ 24 = 16777216 from rfl] at h24
  rw [show (2 : Int) ^ 16 = 65536 from rfl] at h16
  rw [show (2 : Int) ^ 8 = 256 from rfl] at h8
  rw [b32_wrap, b32_wrap, b32_wrap, b32_wrap, h24, h16, h8, or_u32, or_u32, or_u32]
  rfl

theorem Spr.get {w wr : World} {bt : Nat → UInt8} {n : Nat} (h : Spr w wr bt n) (j : Nat) (hj : j < n) (h6 : j < 64) : wr.cell? ⟨w.heap.size + 1, j, none⟩ = some (.int .u32 (tn (wAt (word bt) j))) := by
  have := h.row.cell h6
  rwa [if_pos hj] at this
theorem sg0_val (x : BitVec 32) : bits .xor .u32 (bits .xor .u32 (tn (rotr 7 x)) (tn (rotr 18 x))) (tn x / 8) = tn (sg0 x) := by
  rw [show (8 : Int) = 2 ^ 3 from rfl, shr_u32, xor_u32, xor_u32]; rfl
theorem sg1_val (x : BitVec 32) : bits .xor .u32 (bits .xor .u32 (tn (rotr 17 x)) (tn (rotr 19 x))) (tn x / 1024) = tn (sg1 x) := by
  rw [show (1024 : Int) = 2 ^ 10 from rfl, shr_u32, xor_u32, xor_u32]; rfl

set_option maxHeartbeats 800000 in
theorem spread_any (b : Nat) (bt : Nat → UInt8) (w : World) (hc : ∀ j, j < 64 → w.cell? ⟨b, 8 + j, none⟩ = some (.int .u8 ((bt j).toNat : Int))) :
    Calls Tryd.prog 32 #[.pointer (some ⟨b, 8, none⟩)] w fun e w' =>
      e = .returned (.agg (vals 64 fun i => .int .u32 (tn (wAt (word bt) i)))) ∧ Below w.heap.size w w' := by
  have hb : b < w.heap.size := block_lt_of_cell (hc 0 (by omega))
  have HC := Lib.hid hc
  clear hc
  go_enter Tryd.func32, Tryd.ntmps32
  go_wp2
  go_loopw [8] (fun i wr => ∃ k : Nat, k ≤ 16 ∧ i = .int .i64 k ∧ Spr w wr bt k) (fun i _ => 16 - (intOf i).toNat)
  case atStart =>
    refine ⟨0, by omega, rfl, ((Below.refl _ _).alloc (Nat.le_refl _) _).alloc (by simp) _, by simp, ?_, ?_⟩
    · exact row_alloc _ (by simp) (by kernel_rfl)
    · exact (row_alloc _ rfl (by kernel_rfl)).alloc _
  case round =>
    obtain ⟨k, hk, rfl, hs⟩ := hrel
    by_cases hlt : k < 16
    · have c0 := (hs.below.cell (p := ⟨b, 8 + (4 * k), none⟩) hb).trans (HC.out (4 * k) (by omega))
      have c1 := (hs.below.cell (p := ⟨b, 8 + (4 * k + 1), none⟩) hb).trans (HC.out (4 * k + 1) (by omega))
      have c2 := (hs.below.cell (p := ⟨b, 8 + (4 * k + 2), none⟩) hb).trans (HC.out (4 * k + 2) (by omega))
      have c3 := (hs.below.cell (p := ⟨b, 8 + (4 * k + 3), none⟩) hb).trans (HC.out (4 * k + 3) (by omega))
      have HV := Lib.hid (word_val (bt (4 * k)) (bt (4 * k + 1)) (bt (4 * k + 2)) (bt (4 * k + 3)))
      simp only [wrap_u32'] at HV
      have e0 : IntKind.i64.wrap (4 * (k : Int)) = 4 * (k : Int) := IntWalk.i64_in _ (by omega)
      have e1 : IntKind.i64.wrap (4 * (k : Int) + 1) = 4 * (k : Int) + 1 := IntWalk.i64_in _ (by omega)
      have e2 : IntKind.i64.wrap (4 * (k : Int) + 2) = 4 * (k : Int) + 2 := IntWalk.i64_in _ (by omega)
      have e3 : IntKind.i64.wrap (4 * (k : Int) + 3) = 4 * (k : Int) + 3 := IntWalk.i64_in _ (by omega)
      have n0 : (4 * (k : Int)).toNat = 4 * k := by omega
      have n1 : (4 * (k : Int) + 1).toNat = 4 * k + 1 := by omega
      have n2 : (4 * (k : Int) + 2).toNat = 4 * k + 2 := by omega
      have n3 : (4 * (k : Int) + 3).toNat = 4 * k + 3 := by omega
      have l0 : 0 ≤ 4 * (k : Int) := by omega
      have l1 : 0 ≤ 4 * (k : Int) + 1 := by omega
      have l2 : 0 ≤ 4 * (k : Int) + 2 := by omega
      have l3 : 0 ≤ 4 * (k : Int) + 3 := by omega
      have m0 : 4 * (k : Int) < 64 := by omega
      have m1 : 4 * (k : Int) + 1 < 64 := by omega
      have m2 : 4 * (k : Int) + 2 < 64 := by omega
      have m3 : 4 * (k : Int) + 3 < 64 := by omega
      have lk : 0 ≤ (k : Int) := by omega
      have mk : (k : Int) < 64 := by omega
      go_wp2
      go_still_tail 39, (by kernel_rfl)
      change wpList _ _ _ _ _ wr.drew
      have hs' := hs.drew
      clear hs c0 c1 c2 c3 e0 e1 e2 e3 n0 n1 n2 n3 l0 l1 l2 l3 m0 m1 m2 m3
      generalize wr.drew = w2 at hs' ⊢
      have r0 := hs'.row.cell (i := k) (by omega)
      have f0 := hs'.row.frozen k
      go_wp2
      go_roundw
      case rel => exact ⟨k + 1, by omega, by go_num, hs'.put (by rw [HV.out, wAt_first _ _ (by omega)]; rfl)⟩
      case measure => simp [intOf]; omega
    · have HK := Lib.hid (show k = 16 by omega)
      go_wp2
      go_loopw [5] (fun i wr => ∃ k : Nat, 16 ≤ k ∧ k ≤ 64 ∧ i = .int .i64 k ∧ Spr w wr bt k) (fun i _ => 64 - (intOf i).toNat)
      case atStart => exact ⟨16, by omega, by omega, rfl, HK.out ▸ hs⟩
      case round =>
        clear hs hlt hk HK
        obtain ⟨k, h16, hk, rfl, hs⟩ := hrel
        by_cases hlt : k < 64
        · have v0 := sg0_val (wAt (word bt) (k - 15))
          have v1 := sg1_val (wAt (word bt) (k - 2))
          have HN := Lib.hid (wAt_next (word bt) k h16)
          have e0 : IntKind.i64.wrap ((k : Int) - 15) = (k : Int) - 15 := IntWalk.i64_in _ (by omega)
          have e1 : IntKind.i64.wrap ((k : Int) - 2) = (k : Int) - 2 := IntWalk.i64_in _ (by omega)
          have n0 : ((k : Int) - 15).toNat = k - 15 := by omega
          have n1 : ((k : Int) - 2).toNat = k - 2 := by omega
          have l0 : 0 ≤ (k : Int) - 15 := by omega
          have l1 : 0 ≤ (k : Int) - 2 := by omega
          have m0 : (k : Int) - 15 < 64 := by omega
          have m1 : (k : Int) - 2 < 64 := by omega
          have r15 := hs.get (k - 15) (by omega) (by omega)
          go_wp2
          go_quiet ((go_at_call 33; exact quiet_here (turned_any _ _ _ (by omega) (by omega))))
          have hs1 := hs.drewN nq
          clear r15 hs
          generalize wr.drewN nq = wa at hs1 ⊢
          have r2 := hs1.get (k - 2) (by omega) (by omega)
          go_wp2
          go_quiet ((go_at_call 33; exact quiet_here (turned_any _ _ _ (by omega) (by omega))))
          have hs2 := hs1.drewN nq
          clear r2 hs1 v0 v1 e0 e1 n0 n1 l0 l1 m0 m1
          generalize wa.drewN nq = wb at hs2 ⊢
          have r16 := hs2.get (k - 16) (by omega) (by omega)
          have r7 := hs2.get (k - 7) (by omega) (by omega)
          have e0 : IntKind.i64.wrap ((k : Int) - 16) = (k : Int) - 16 := IntWalk.i64_in _ (by omega)
          have e1 : IntKind.i64.wrap ((k : Int) - 7) = (k : Int) - 7 := IntWalk.i64_in _ (by omega)
          have n0 : ((k : Int) - 16).toNat = k - 16 := by omega
          have n1 : ((k : Int) - 7).toNat = k - 7 := by omega
          have l0 : 0 ≤ (k : Int) - 16 := by omega
          have l1 : 0 ≤ (k : Int) - 7 := by omega
          have m0 : (k : Int) - 16 < 64 := by omega
          have m1 : (k : Int) - 7 < 64 := by omega
          have lk : 0 ≤ (k : Int) := by omega
          have mk : (k : Int) < 64 := by omega
          have ka := add_u32
          have x0 : 16 ≤ (k : Int) := by omega
          have x1 : 7 ≤ (k : Int) := by omega
          go_wp2
          go_still_tail 15, (by kernel_rfl)
          change wpList _ _ _ _ _ wb.drew
          have hs3 := hs2.drew
          clear hs2 r16 r7 e0 e1 n0 n1 l0 l1 m0 m1
          generalize wb.drew = wc at hs3 ⊢
          have r0 := hs3.row.cell (i := k) (by omega)
          have f0 := hs3.row.frozen k
          go_wp2
          go_roundw
          case rel => exact ⟨k + 1, by omega, by omega, by go_num, hs3.put (by rw [HN.out])⟩
          case measure => simp [intOf]; omega
        · obtain rfl : k = 64 := by omega
          have hrow : wr.rowIs (w.heap.size + 1) 68 64 (fun i => .int .u32 (tn (wAt (word bt) i))) := hs.row.congr fun j hj => by rw [if_pos hj]
          have h1 := row_block hrow
          have h2 := row_block hs.res
          have hi : ∀ f, (Tryd.prog.info? 68).map (·.size) = some (vals 64 f).size := fun f => info_vals f (by kernel_rfl)
          have ho : (vals 64 fun i => Value.int .u32 (tn (wAt (word bt) i))).all (·.oneCell') = true := vals_one fun _ => rfl
          have hz : (vals 64 fun _ => Value.int .u32 0).size = (vals 64 fun i => Value.int .u32 (tn (wAt (word bt) i))).size := by rw [vals_size, vals_size]
          have hbl := below_setRow' hs.below (Nat.le_refl _) (vals 64 fun i => Value.int .u32 (tn (wAt (word bt) i)))
          have h3 := row_block (row_setRow (g := fun i => Value.int .u32 (tn (wAt (word bt) i))) hs.res)
          clear hs hrow
          have H1 := Lib.hid h1
          have H2 := Lib.hid h2
          have H3 := Lib.hid h3
          have HI := Lib.hid hi
          have HZ := Lib.hid hz
          have HO := Lib.hid ho
          clear h1 h2 h3 hi hz ho
          go_wp2_with (first
            | (with_reducible refine wpList_load_row rfl 68 _ rfl _ rfl 68 _ _ _ H1.out Tryd.underlying68 rfl (HI.out _) ?_)
            | (with_reducible refine wpList_store_row rfl 68 _ _ rfl _ _ rfl rfl 68 _ H2.out (HI.out _) HZ.out HO.out ?_))
          refine bodyPost_ret (results_cell_row rfl _ _ _ 68 _ _ _ rfl H3.out Tryd.underlying68 rfl (HI.out _)) rfl ?_
          exact ⟨rfl, hbl⟩
end Go.Proofs.YthmpmpofhpkmjaaDoor
