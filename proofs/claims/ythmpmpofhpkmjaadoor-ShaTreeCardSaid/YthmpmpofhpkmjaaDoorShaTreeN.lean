/-
  The program's sums (package sha): the tree of a row of sums. Conditions: both tables lie as the program's text lays them; the sums lie where it looks; at least one, at most a thousand.
-/
import Derived.Test.YthmpmpofhpkmjaaDoorShaPairs
namespace Go.Proofs.YthmpmpofhpkmjaaDoor
open Go.ChangeShapes Go.WideShapes Go.ChangeAt Go.RowKit Sh

set_option maxRecDepth 100000 in
set_option maxHeartbeats 1600000 in
theorem tree_any (w : World) (L : List (Nat → UInt8)) (pb po n cap : Nat) (hn : n = L.length) (hn0 : 0 < n) (hnb : n ≤ 1000) (hnc : n ≤ cap) (hT : Tabs w) (hA : DigsAt w pb po L) :
    Calls Tryd.prog 14 #[.slice (some ⟨pb, po, none⟩) n cap] w fun e w' => e = .returned (.agg (digF (treeD L))) ∧ Below w.heap.size w w' := by
  have hpb : pb < w.heap.size := block_lt_of_cell (hA 0 ((dcells L)[0]'(by rw [dcells_length]; omega)) (List.getElem?_eq_getElem _))
  have HA := Lib.hid hA
  have HT := Lib.hid hT
  have HL := Lib.hid hn
  clear hA hT hn
  have y0 : ¬ (n : Int) = 0 := by omega
  have y1 : decide ((n : Int) = 0) = false := decide_eq_false y0
  have y2 : ((n : Int) == 0) = false := beq_eq_false_iff_ne.2 y0
  go_enter Tryd.func14, Tryd.ntmps14
  go_wp2_with (fail)
  refine gen_world (fun wr => Below w.heap.size w wr ∧ w.heap.size < wr.heap.size ∧ wr.rowIs w.heap.size 25 32 (fun _ => .int .u8 0)) ?_ ?_
  · exact ⟨(Below.refl _ _).alloc (Nat.le_refl _) _, by simp, row_alloc _ rfl (by kernel_rfl)⟩
  rintro w1 ⟨hb1, hs1, hz1⟩
  have HB1 := Lib.hid hb1
  have HZ1 := Lib.hid hz1
  clear hb1 hz1
  go_loopw [3] (fun row wr => ∃ (R : List (Nat → UInt8)) (b o c : Nat), row = .slice (some ⟨b, o, none⟩) R.length c ∧ R.length ≤ c ∧ 0 < R.length ∧ R.length ≤ n ∧ treeD L = treeD R ∧ DigsAt wr b o R ∧ b < wr.heap.size ∧ w.heap.size < wr.heap.size ∧ wr.rowIs w.heap.size 25 32 (fun _ => .int .u8 0) ∧ Below w.heap.size w wr) (fun row _ => match row with | .slice _ l _ => l | _ => 0)
  case atStart =>
    exact ⟨L, pb, po, cap, by rw [HL.out], by rw [← HL.out]; exact hnc, by rw [← HL.out]; exact hn0, by rw [HL.out]; exact Nat.le_refl _, rfl, HA.out.keep HB1.out hpb, by omega, hs1, HZ1.out, HB1.out⟩
  case round =>
    clear HB1 HZ1 hs1
    obtain ⟨R, b, o, c, rfl, hRc, hR0, hRn, ht, hat, hbl, hs, hz, hb⟩ := hrel
    have HTR := Lib.hid ht
    have HAT := Lib.hid hat
    have HB := Lib.hid hb
    have HZ := Lib.hid hz
    clear ht hat hb hz
    by_cases hR1 : 1 < R.length
    · have hst := treeD_step R hR1
      have HST := Lib.hid (HTR.out.trans hst)
      have HPL := Lib.hid (pairsD_length R)
      obtain ⟨k, hk⟩ : ∃ k, k = R.length := ⟨_, rfl⟩
      have HK := Lib.hid hk
      rw [← hk] at hR1 hRc hRn hR0 ⊢
      have x0 : (1 : Int) < (k : Int) := by omega
      have x1 : decide ((1 : Int) < (k : Int)) = true := decide_eq_true x0
      clear hk hst HTR
      go_wp2_with (fail)
      refine (pairs_any _ R b o k c HK.out hR0 (by omega) hRc (HT.out.below HB.out) HAT.out).mono ?_
      rintro e w5 ⟨g, c5, rfl, hc5, hg, hgl, hA5, hb5⟩
      have HA5 := Lib.hid hA5
      have HB5 := Lib.hid (HB.out.trans (hb5.mono (by omega)))
      have HZ5 := Lib.hid (HZ.out.of_block (hb5.block _ hs))
      have hs5 : w.heap.size < w5.heap.size := Nat.lt_of_lt_of_le hs hb5.size
      clear hA5 hb5
      have hl := HPL.out
      rw [← HK.out] at hl
      go_wp2
      exact ⟨⟨pairsD R, g, 0, c5, by rw [hl], hc5, by omega, by omega, HST.out, HA5.out, hgl, hs5, HZ5.out, HB5.out⟩, by change (k + 1) / 2 < k; omega⟩
    · match R, hR0, hR1 with
      | [f], _, _ =>
        have HTF := Lib.hid (HTR.out.trans (treeD_one f))
        have HH := Lib.hid (show wr.rangeAt b o (digF f).toList from HAT.out.head)
        have HLF := Lib.hid (show (Tryd.prog.info? 25).map (·.size) = some (digF f).toList.length by rw [Array.length_toList]; exact hiDigF f)
        have H1 := Lib.hid (row_block HZ.out)
        have HZo := Lib.hid (show (vals 32 fun _ => Value.int .u8 0).size = (digF f).size from hzDig f)
        rw [show [f].length = 1 from rfl] at hRc hRn ⊢
        clear HTR HAT HZ
        go_wp2_with (first
          | (with_reducible refine wpList_load_mid rfl 25 _ rfl b o rfl (digF f).toList (.array 32 5) HH.out Tryd.underlying25 rfl HLF.out ?_)
          | (with_reducible refine wpList_store_row rfl 25 _ _ rfl _ (digF f) rfl rfl 25 _ H1.out (hiDigF f) HZo.out (hoDig f) ?_))
        refine bodyPost_ret (results_cell_row rfl _ _ _ 25 _ _ _ rfl (setRow_heap _ _ _ _ _ _ H1.out) Tryd.underlying25 rfl (hiDigF f)) rfl ?_
        exact ⟨by rw [HTF.out], below_setRow' HB.out (Nat.le_refl _) _⟩
      | [], h0, _ => exact absurd h0 (by simp)
      | _ :: _ :: _, _, h1 => exact absurd (by simp) h1
end Go.Proofs.YthmpmpofhpkmjaaDoor
