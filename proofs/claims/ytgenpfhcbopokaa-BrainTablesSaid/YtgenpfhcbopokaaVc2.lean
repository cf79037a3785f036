/-
  Package vecs: Bytes. Conditions: the table's numbers are there, at most 4096.
-/
import Derived.Test.YtgenpfhcbopokaaVcText
import Derived.Deep.OwnRows
namespace Go.Proofs.Ytgenpfhcbopokaa
open Go.ChangeShapes Go.WideShapes Go.ChangeAt Go.RowKit Nm Vc

set_option maxRecDepth 100000 in
set_option maxHeartbeats 1600000 in
theorem vecs_bytes (w : World) (x y : Int) (A : Option Addr) (n c : Nat) (D : List Int) (hD : D.length = n) (hn : n ≤ 4096) (hA : KIn .i8 w A D) :
    Calls Try.prog 7 #[tbV x y A n c] w fun e w' => e = .returned (.string (textD D)) ∧ Below w.heap.size w w' := by
  have HB1 := Lib.hid ((Below.refl w.heap.size w).alloc (Nat.le_refl _) (tbO x y A n c))
  have HA := Lib.hid hA
  have b2 := tb2 (heap_alloc_new w (tbO x y A n c))
  have hs1 : (w.alloc (tbO x y A n c)).heap.size = w.heap.size + 1 := by simp
  obtain ⟨i0, hi, hz0, hz1, hz2⟩ := info_parts info_u8
  have HI := Lib.hid hi
  have HZ0 := Lib.hid hz0
  have HZ1 := Lib.hid hz1
  have HZ2 := Lib.hid hz2
  have HL := Lib.hid hD
  clear hA hi hz0 hz1 hz2 hD
  unfold tbV tbA
  go_enter Try.func7, Try.ntmps7
  go_wp2_with (at_make; refine wpList_make_row _ rfl _ _ 43 rfl 5 i0 (.int .u8 0) Try.underlying43 HI.out HZ0.out HZ1.out rfl .i64 .i64 n rfl rfl (by rw [HZ2.out]; omega) (by omega) ?_)
  have HR0 := Lib.hid (show ((w.alloc (tbO x y A n c)).alloc (.cells (madeCells #[.int .u8 0] n) 5)).rowIs (w.heap.size + 1) 5 n (prt .u8 (D.map (· % 256)) 0) from by
    have := World.rowIs_made (w.alloc (tbO x y A n c)) (.int .u8 0) n 5
    rw [hs1] at this
    exact this.congr fun i _ => by rw [prt_none])
  have HB0 := Lib.hid (HB1.out.alloc (by omega) (.cells (madeCells #[.int .u8 0] n) 5))
  go_loopw [13] (fun i wr => ∃ k : Nat, i = .int .i64 (k : Int) ∧ k ≤ n ∧ wr.rowIs (w.heap.size + 1) 5 n (prt .u8 (D.map (· % 256)) k) ∧ Below w.heap.size w wr) (fun i _ => match i with | .int _ k => n - k.toNat | _ => 0)
  case atStart => exact ⟨0, rfl, Nat.zero_le _, HR0.out, HB0.out⟩
  case round =>
    clear HR0 HB0 HB1 b2
    obtain ⟨k, rfl, hk, hr, hb⟩ := hrel
    have HR := Lib.hid hr
    have HB := Lib.hid hb
    clear hr hb
    have x2 : 0 ≤ (k : Int) := by omega
    by_cases hlt : k < n
    · have x0 : (k : Int) < (n : Int) := by omega
      have x1 : decide ((k : Int) < (n : Int)) = true := decide_eq_true x0
      have x3 := IntWalk.wrap64_in ((k : Int) + 1) (by omega)
      obtain ⟨pb, po, rfl, hcell⟩ := (HA.out.below HB.out (Nat.le_refl _)).at (show k < D.length by rw [HL.out]; exact hlt)
      have f1 := HR.out.frozen k
      have c1 := HR.out.cell hlt
      have hz : (D.map (· % 256)).getD k 0 = IntKind.u8.wrap (D.getD k 0) := by
        rw [wrap_u8, List.getD_eq_getElem?_getD, List.getElem?_map, List.getD_eq_getElem?_getD, List.getElem?_eq_getElem (by rw [HL.out]; exact hlt)]
        rfl
      have HP := Lib.hid (prt_set HR.out hz)
      have HBS := Lib.hid (HB.out.setCell (p := ⟨w.heap.size + 1, k, none⟩) (Nat.le_succ _) (.int .u8 (IntKind.u8.wrap (D.getD k 0))))
      generalize D.getD k 0 = z at hcell hz HP HBS
      go_wp2_with (fail)
      exact ⟨⟨k + 1, rfl, by omega, HP.out, HBS.out⟩, by show n - ((k : Int) + 1).toNat < n - (k : Int).toNat; omega⟩
    · have hke : k = n := by omega
      subst hke
      have x0 : ¬ (k : Int) < (k : Int) := by omega
      have x1 : decide ((k : Int) < (k : Int)) = false := decide_eq_false x0
      have hcv := run_textD (cap := k) HR.out HL.out.symm
      clear hlt x0
      go_wp2_with (fail)
      refine bodyPost_ret (results_tmp rfl _ _ _) rfl ?_
      exact ⟨rfl, HB.out⟩
end Go.Proofs.Ytgenpfhcbopokaa
