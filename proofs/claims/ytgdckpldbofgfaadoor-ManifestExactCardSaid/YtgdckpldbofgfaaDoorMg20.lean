/-
  The document's manifest: digest (32 bytes as a sum). Condition: there are just 32.
-/
import Derived.Test.YtgdckpldbofgfaaDoorMg11
import Derived.Test.YtgdckpldbofgfaaDoorMg7
import Derived.Test.YtgdckpldbofgfaaDoorMg3
set_option maxRecDepth 100000
namespace Go.Proofs.YtgdckpldbofgfaaDoor
open Go.ChangeShapes Go.WideShapes Go.ChangeAt Go.RowKit Sh Pn Mf

namespace Mf
/-- What holds while a sum's bytes are laid: the first n are there. -/
structure Dg (t : TypeId) (w wr : World) (q : ByteArray) (n : Nat) : Prop where
  below : Below w.heap.size w wr
  res : wr.rowIs w.heap.size t 32 (fun _ => .int .u8 0)
  out : wr.rowIs (w.heap.size + 1) t 32 (fun j => .int .u8 (if j < n then ((byAt q j).toNat : Int) else 0))
theorem Dg.put {t : TypeId} {w wr : World} {q : ByteArray} {n : Nat} (h : Dg t w wr q n) {x : Int} (hx : x = ((byAt q n).toNat : Int)) : Dg t w (wr.setCell ⟨w.heap.size + 1, n, none⟩ (.int .u8 x)) q (n + 1) := by
  refine ⟨h.below.setCell (by show w.heap.size ≤ w.heap.size + 1; omega) _, h.res.setOther (by show w.heap.size ≠ w.heap.size + 1; omega) _, (h.out.set n _).congr fun j _ => ?_⟩
  by_cases e : j = n
  · subst e; rw [if_pos rfl, hx, if_pos (by omega)]
  · rw [if_neg e]
    by_cases hlt : j < n
    · rw [if_pos hlt, if_pos (by omega)]
    · rw [if_neg hlt, if_neg (by omega)]
end Mf
theorem zeroDig : Tryd.prog.built 23 [] = some (vals 32 fun _ => .int .u8 0) := by kernel_rfl
theorem hiR : ∀ f, (Tryd.prog.info? 23).map (·.size) = some (vals 32 f).size := fun f => info_vals f (by kernel_rfl)
theorem hiRD (f : Nat → UInt8) : (Tryd.prog.info? 23).map (·.size) = some (digF f).size := hiR _
set_option maxRecDepth 100000 in
set_option maxHeartbeats 3200000 in
theorem ref20_digest (w : World) (q : ByteArray) (hq : q.size = 32) : Calls Tryd.prog 46 #[.string q] w fun e w' => e = .returned (.agg (digF (byAt q))) ∧ Below w.heap.size w w' := by
  have HQ := Lib.hid hq
  have hz32 : (vals 32 fun _ => Value.int .u8 0).all (·.oneCell') = true := vals_one fun _ => rfl
  have HZ32 := Lib.hid hz32
  have hx : ∀ k : Nat, k < 32 → ∀ W, (Instr.index 9 (.string q) (.int .i64 (k : Int))).run Tryd.prog W = .ok (.int .u8 ((byAt q k).toNat : Int)) W := fun k hk W => index_by q k (by rw [hq]; exact hk) (k : Int) rfl W
  have HX := Lib.hid hx
  have hqi : (q.size : Int) = 32 := by rw [hq]; rfl
  clear hz32 hx hq
  go_enter Tryd.func46, Tryd.ntmps46
  go_upto_region 1 with (fail)
  refine gen_world (fun W => Below w.heap.size w W ∧ W.rowIs w.heap.size 23 32 (fun _ => .int .u8 0) ∧ W.heap.size = w.heap.size + 1) ⟨(Below.refl _ _).alloc (Nat.le_refl _) _, row_alloc _ rfl (by kernel_rfl), by simp⟩ ?_
  rintro w1 ⟨b1, r1, s1⟩
  have HD := Lib.hid (show ∀ c, Dg 23 w ((w1.alloc (.cells c 23)).setRow w1.heap.size (vals 32 fun _ => .int .u8 0)) q 0 from fun c => by
    refine ⟨below_setRow' (b1.alloc b1.size _) b1.size _, row_setRow_other (r1.alloc _) (by omega), ?_⟩
    rw [← s1]
    exact (row_of_block (setRow_heap _ _ c _ _ _ (heap_alloc_new w1 _))).congr fun j _ => by rw [if_neg (Nat.not_lt_zero j)])
  have HNW := Lib.hid (show ∀ o, (w1.alloc o).heap[w1.heap.size]? = some o from fun o => heap_alloc_new w1 o)
  have HS1 := Lib.hid s1
  clear b1 r1 s1
  go_upto_region 2 with (first
    | (refine wpList_build_to rfl 23 #[] rfl [] rfl _ zeroDig ?_)
    | (with_reducible refine wpList_store_row rfl 23 _ _ rfl _ (vals 32 fun _ => .int .u8 0) rfl rfl 23 _ (HNW.out _) (hiR _) (by rw [vals_size]; kernel_rfl) HZ32.out ?_))
  refine gen_world (fun W => Dg 23 w W q 0) (HD.out _) ?_
  rintro w2 d2
  rw [HS1.out]
  clear HD HNW HS1
  go_wp2_with (fail)
  go_loopw [4] (fun i wx => ∃ n : Nat, n ≤ 32 ∧ i = .int .i64 (n : Int) ∧ Dg 23 w wx q n) (fun i _ => match i with | .int _ q => 33 - q.toNat | _ => 0)
  case atStart => exact ⟨0, by omega, rfl, d2⟩
  case round =>
    clear d2
    obtain ⟨n, hn, rfl, hD⟩ := hrel
    by_cases hlt : n < 32
    · have x0 : (n : Int) < (q.size : Int) := by omega
      have x1 : decide ((n : Int) < (q.size : Int)) = true := decide_eq_true x0
      have x2 : (n : Int) < 32 := by omega
      have x3 : decide ((n : Int) < 32) = true := decide_eq_true x2
      have x4 : 0 ≤ (n : Int) := by omega
      have x5 := IntWalk.wrap64_in ((n : Int) + 1) (by omega)
      have r0 := hD.out.cell hlt
      have f0 := hD.out.frozen n
      have h1 := HX.out n hlt
      go_wp2_with (fail)
      exact ⟨⟨n + 1, by omega, rfl, hD.put rfl⟩, by show 33 - ((n : Int) + 1).toNat < 33 - (n : Int).toNat; omega⟩
    · have x0 : ¬ (n : Int) < (q.size : Int) := by omega
      have x1 : decide ((n : Int) < (q.size : Int)) = false := decide_eq_false x0
      have x2 : decide (n < q.size) = false := decide_eq_false (by omega)
      have hout : World.rowIs _ (w.heap.size + 1) 23 32 (fun j => .int .u8 ((byAt q j).toNat : Int)) := hD.out.congr fun j hj => by rw [if_pos (by omega)]
      have H1 := Lib.hid (show wr.heap[w.heap.size + 1]? = some (.cells (digF (byAt q)) 23 (0, 0)) from row_block hout)
      have H2 := Lib.hid (row_block hD.res)
      have HBL := Lib.hid (below_setRow' hD.below (Nat.le_refl _) (digF (byAt q)))
      have HZo := Lib.hid (hzDig (byAt q))
      have HO2 := Lib.hid (hoDig (byAt q))
      clear hD hout
      go_wp2_with (first
        | (with_reducible refine wpList_load_row rfl 23 _ rfl _ rfl 23 (digF (byAt q)) _ _ H1.out Tryd.underlying23 rfl (hiRD _) ?_)
        | (with_reducible refine wpList_store_row rfl 23 _ _ rfl _ (digF (byAt q)) rfl rfl 23 _ H2.out (hiRD _) HZo.out HO2.out ?_))
      refine bodyPost_ret (results_cell_row rfl _ _ _ 23 (digF (byAt q)) _ _ rfl (setRow_heap _ _ _ _ _ _ H2.out) Tryd.underlying23 rfl (hiRD _)) rfl ?_
      exact ⟨rfl, HBL.out⟩
end Go.Proofs.YtgdckpldbofgfaaDoor
