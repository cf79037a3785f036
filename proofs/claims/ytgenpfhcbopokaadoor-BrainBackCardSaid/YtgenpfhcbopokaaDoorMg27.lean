/-
  BrainBack: a model comes back from its bytes; cut, or longer, there is none. The walk. Condition: both of sha's tables lie as the program's text lays them.
-/
import Derived.Test.YtgenpfhcbopokaaDoorMg23
import Derived.Test.YtgenpfhcbopokaaDoorMg25
import Derived.Test.YtgenpfhcbopokaaDoorMg24
import Derived.Test.YtgenpfhcbopokaaDoorMg26
import Derived.Test.YtgenpfhcbopokaaDoorMg16
import Derived.Deep.RegionHeld3
set_option maxRecDepth 100000
namespace Go.Proofs.YtgenpfhcbopokaaDoor
open Go.ChangeShapes Go.WideShapes Go.ChangeAt Go.RowKit Vc Cf Br Sh

namespace Br
/-- The law's state: the shape that came in, in its box, the model in its block, and the one read in another. -/
structure At2 (w : World) (x : Cfg) (s : ByteArray) (b d : Nat) (W : World) : Prop where
  box : W.heap[w.heap.size]? = some (cfO 23 x)
  blk : W.heap[b]? = some (brO x s)
  par : W.heap[d]? = some (brO x s)
  below : Below w.heap.size w W
theorem At2.step {w W W' : World} {x : Cfg} {s : ByteArray} {b d : Nat} (h : At2 w x s b d W) (hb : Below W.heap.size W W') : At2 w x s b d W' := ⟨Cf.stays h.box hb, Br.stays h.blk hb, Br.stays h.par hb, h.below.trans (hb.mono h.below.size)⟩
theorem head_back {x : Cfg} (h : Cf.Good x) : IntKind.i64.wrap (x.d.tdiv x.h * x.h) = x.d := by
  have h1 := Int.tdiv_mul_add_tmod x.d x.h
  rw [h.rest, Int.add_zero] at h1
  rw [h1]
  have := h.is.d1
  have := h.is.d16
  exact IntWalk.i64_in _ (by omega)
theorem longer (x : Cfg) (s : ByteArray) : bytesB x s ++ ⟨#[120]⟩ = bytesB x (s ++ ⟨#[120]⟩) := ByteArray.append_assoc
theorem shorter (x : Cfg) (s : ByteArray) (h : 1 ≤ s.size) : (bytesB x s).extract 0 ((bytesB x s).size - 1) = bytesB x (s.extract 0 (s.size - 1)) := by
  rw [bytesB_size]
  apply ByteArray.ext
  unfold bytesB
  rw [ByteArray.data_extract, ByteArray.data_append, ByteArray.data_append, ByteArray.data_extract]
  have h2 : (cfgB x).data.size = 24 := cfgB_size x
  apply Array.ext'
  rw [Array.toList_extract, Array.toList_append, Array.toList_append, Array.toList_extract, List.extract_eq_take_drop, List.extract_eq_take_drop, List.drop_zero, List.drop_zero, Nat.sub_zero, Nat.sub_zero, List.take_append]
  rw [List.take_of_length_le (by rw [Array.length_toList, h2]; omega), Array.length_toList, h2, show 24 + s.size - 1 - 24 = s.size - 1 by omega]
theorem longer_not {x : Cfg} {s : ByteArray} (h : Ok x s) : okB (bytesB x s ++ ⟨#[120]⟩) = false := by
  rw [longer]
  refine not_bytes h.good ?_
  have h1 := h.size
  rw [ByteArray.size_append, ← h1, show (⟨#[120]⟩ : ByteArray).size = 1 from rfl]
  omega
theorem shorter_not {x : Cfg} {s : ByteArray} (h : Ok x s) : okB ((bytesB x s).extract 0 ((bytesB x s).size - 1)) = false := by
  have h0 := h.least
  rw [shorter x s h0]
  refine not_bytes h.good ?_
  have h1 := h.size
  rw [ByteArray.size_extract, ← h1]
  omega
end Br
namespace brainBack
section
variable (w : World) (x : Cfg) (s : ByteArray) (p k a : Int)
set_option maxRecDepth 100000 in
set_option maxHeartbeats 3200000 in
theorem walk_no (h : ¬ Ok x s) : Calls Tryd.prog 3 #[cfV x, .string s, .int .i64 p, .int .i64 k, .int .i64 a] w fun e w' => e = .returned (.bool true) ∧ Below w.heap.size w w' := by
  obtain ⟨m, hm, ho⟩ : ∃ m : Int, m ≠ 0 ∧ ∀ W, Calls Tryd.prog 5 #[cfV x, .string s] W fun e w' => e = .returned (.tuple #[.pointer none, .int .i64 m]) ∧ Below W.heap.size W w' := by
    cases hg : goodZ x with
    | false => exact ⟨1, by decide, fun W => brain_of_arg W x s hg⟩
    | true => exact ⟨5, by decide, fun W => brain_of_form W x s hg fun hs => h ⟨good_iff.1 hg, hs⟩⟩
  have HO := Lib.hid ho
  have HAW := Lib.hid awake16
  have HB0 := Lib.hid ((Below.refl w.heap.size w).alloc (Nat.le_refl _) (cfO 23 x))
  have HH0 := Lib.hid (heap_alloc_new w (cfO 23 x))
  have t1 : (m == 0) = false := beq_eq_false_iff_ne.2 hm
  clear h ho hm
  unfold cfV cfA at *
  go_enter Tryd.func3, Tryd.ntmps3
  go_wp2_with (fail)
  refine (HAW.out _).mono ?_
  rintro e w1 ⟨rfl, b1⟩
  have HB1 := Lib.hid (HB0.out.trans (b1.mono HB0.out.size))
  have HH1 := Lib.hid (Cf.stays HH0.out b1)
  obtain ⟨e0, e1, e2, e3, e4, e5⟩ := six HH1.out
  clear b1 HAW HB0 HH0
  go_wp2_with (fail)
  refine (HO.out _).mono ?_
  rintro e w2 ⟨rfl, b2⟩
  have HB2 := Lib.hid (HB1.out.trans (b2.mono HB1.out.size))
  clear b2
  go_wp2_with (fail)
  exact bodyPost_ret (results_tmp rfl _ _ _) rfl ⟨rfl, HB2.out⟩
set_option maxRecDepth 100000 in
set_option maxHeartbeats 12800000 in
theorem walk_ok (h : Ok x s) (hT : Tabs w) : Calls Tryd.prog 3 #[cfV x, .string s, .int .i64 p, .int .i64 k, .int .i64 a] w fun e w' => e = .returned (.bool true) ∧ Below w.heap.size w w' := by
  have HAW := Lib.hid awake16
  have HO := Lib.hid (fun W => brain_of W x s h)
  have HOK := Lib.hid h
  have HB0 := Lib.hid ((Below.refl w.heap.size w).alloc (Nat.le_refl _) (cfO 23 x))
  have HH0 := Lib.hid (heap_alloc_new w (cfO 23 x))
  have hm := h.most
  have HBY := Lib.hid (fun (W : World) (b : Nat) (hb : W.heap[b]? = some (brO x s)) => brain_bytes W b x s hb (by omega))
  have HPA := Lib.hid (fun (W : World) => show Calls Tryd.prog 7 #[.string (bytesB x s)] W fun e w' => ∃ b, e = .returned (.tuple #[.pointer (some ⟨b, 0, none⟩), .int .i64 0]) ∧ W.heap.size ≤ b ∧ w'.heap[b]? = some (brO x s) ∧ Below W.heap.size W w' from by
    have := brain_parse W (bytesB x s) (ok_bytes h)
    rw [shape_bytes h.good, rest_bytes] at this
    exact this)
  have HP1 := Lib.hid (fun W => brain_parse_not W _ (longer_not h))
  have HP2 := Lib.hid (fun W => brain_parse_not W _ (shorter_not h))
  have HSM := Lib.hid (fun (W : World) (b d : Nat) (hA : At2 w x s b d W) => show Calls Tryd.prog 8 #[.pointer (some ⟨d, 0, none⟩), .pointer (some ⟨b, 0, none⟩)] W fun e w' => e = .returned (.bool true) ∧ Below W.heap.size W w' from by
    have := brain_same W d b x x s s hA.par hA.blk (by omega) (by omega)
    rw [decide_eq_true rfl] at this
    exact this)
  have HDD := Lib.hid (fun (W : World) (b d : Nat) (hA : At2 w x s b d W) => brain_digest W d x s hA.par (by omega) (hT.below hA.below).f (hT.below hA.below).k)
  have HDB := Lib.hid (fun (W : World) (b d : Nat) (hA : At2 w x s b d W) => brain_digest W b x s hA.blk (by omega) (hT.below hA.below).f (hT.below hA.below).k)
  have HWT := Lib.hid (fun (W : World) (b d : Nat) (hA : At2 w x s b d W) => brain_weights W d x s hA.par)
  have HRD := Lib.hid (fun (W : World) (b d : Nat) (hA : At2 w x s b d W) => show Calls Tryd.prog 12 #[.pointer (some ⟨d, 0, none⟩), .int .i64 p, .int .i64 k, .int .i64 a] W fun e w' => ∃ A c, e = .returned (.slice A (rowZ x s p k a).length c) ∧ KIn .i64 w' A (rowZ x s p k a) ∧ Below W.heap.size W w' from brain_row W d x s hA.par h p k a)
  have HRB := Lib.hid (fun (W : World) (b d : Nat) (hA : At2 w x s b d W) => show Calls Tryd.prog 12 #[.pointer (some ⟨b, 0, none⟩), .int .i64 p, .int .i64 k, .int .i64 a] W fun e w' => ∃ A c, e = .returned (.slice A (rowZ x s p k a).length c) ∧ KIn .i64 w' A (rowZ x s p k a) ∧ Below W.heap.size W w' from brain_row W b x s hA.blk h p k a)
  have hrl : (rowZ x s p k a).length ≤ 1000 := by
    unfold rowZ
    split
    · rename_i hh
      rw [rowD_length]
      have := (cols_in h.good.is (is_iff.1 hh.1).2.1 (is_iff.1 hh.1).2.2.1).2
      omega
    · exact Nat.zero_le _
  have HIN := Lib.hid (fun (W : World) (A B : Option Addr) (c c' : Nat) (hA : KIn .i64 W A (rowZ x s p k a)) (hB : KIn .i64 W B (rowZ x s p k a)) => show Calls Tryd.prog 11 #[.slice A (rowZ x s p k a).length c, .slice B (rowZ x s p k a).length c'] W fun e w' => e = .returned (.bool true) ∧ Below W.heap.size W w' from
    (ints_same W A (rowZ x s p k a).length c B c' (rowZ x s p k a) rfl (by omega) hA hB).mono fun e w' ⟨he, q, hq⟩ => ⟨he, by rw [hq]; exact below_drewN (Below.refl _ _) q⟩)
  have HHD := Lib.hid (fun W => conf_headDim W x)
  rw [if_pos (good_iff.2 h.good)] at HHD
  have HHB := Lib.hid (head_back h.good)
  have HTS := Lib.hid (bytesB_size x s)
  have HSS := Lib.hid (And.intro hm h.least)
  have HDQ := Lib.hid (fun W => show (binOp .neq 33 (.agg (digF (sumF (bytesB x s).data.toList))) (.agg (digF (sumF (bytesB x s).data.toList)))).run Tryd.prog W = .ok (.bool false) W from by
    have := run_neq_dig (sumF (bytesB x s).data.toList) (sumF (bytesB x s).data.toList) W
    rw [same_refl] at this
    exact this)
  clear h hm hrl hT
  generalize digF (sumF (bytesB x s).data.toList) = D at *
  generalize bytesB x s = T at *
  generalize rowZ x s p k a = L at *
  have HCQ := Lib.hid (fun W => run_neq_cf x W)
  unfold cfV cfA at *
  go_enter Tryd.func3, Tryd.ntmps3
  go_wp2_with (fail)
  refine (HAW.out _).mono ?_
  rintro e w1 ⟨rfl, b1⟩
  have HB1 := Lib.hid (HB0.out.trans (b1.mono HB0.out.size))
  have HH1 := Lib.hid (Cf.stays HH0.out b1)
  obtain ⟨e0, e1, e2, e3, e4, e5⟩ := six HH1.out
  clear b1 HAW HB0 HH0
  go_wp2_with (fail)
  refine (HO.out _).mono ?_
  rintro e w2 ⟨b, rfl, hb, hh, b2⟩
  have HB2 := Lib.hid (HB1.out.trans (b2.mono HB1.out.size))
  have HH2 := Lib.hid (Cf.stays HH1.out b2)
  have HR2 := Lib.hid hh
  clear e0 e1 e2 e3 e4 e5 hb hh b2 HB1 HH1
  go_wp2_with (fail)
  refine (HBY.out _ _ HR2.out).mono ?_
  rintro e w3 ⟨rfl, b3⟩
  have HB3 := Lib.hid (HB2.out.trans (b3.mono HB2.out.size))
  have HH3 := Lib.hid (Cf.stays HH2.out b3)
  have HR3 := Lib.hid (Br.stays HR2.out b3)
  clear b3 HB2 HH2 HR2
  go_wp2_with (fail)
  refine (HPA.out _).mono ?_
  rintro e w4 ⟨d, rfl, hd, hh, b4⟩
  have h4 : At2 w x s b d w4 := ⟨Cf.stays HH3.out b4, Br.stays HR3.out b4, hh, HB3.out.trans (b4.mono HB3.out.size)⟩
  have HA4 := Lib.hid h4
  have A0 := Lib.hid (show At2 w x s b d w4.drew from h4.step (below_drewN (Below.refl _ _) 1))
  have HK := Lib.hid (fun (W : World) (hA : At2 w x s b d W) => show W.cell? ⟨w.heap.size, 0, none⟩ = some (.int .i64 x.v) ∧ W.cell? ⟨w.heap.size, 1, none⟩ = some (.int .i64 x.d) ∧ W.cell? ⟨w.heap.size, 2, none⟩ = some (.int .i64 x.h) ∧ W.cell? ⟨w.heap.size, 3, none⟩ = some (.int .i64 x.b) ∧ W.cell? ⟨w.heap.size, 4, none⟩ = some (.int .i64 x.n) ∧ W.cell? ⟨w.heap.size, 5, none⟩ = some (.int .i64 x.c) ∧
      W.cell? ⟨d, 0, none⟩ = some (.int .i64 x.v) ∧ W.cell? ⟨d, 1, none⟩ = some (.int .i64 x.d) ∧ W.cell? ⟨d, 2, none⟩ = some (.int .i64 x.h) ∧ W.cell? ⟨d, 3, none⟩ = some (.int .i64 x.b) ∧ W.cell? ⟨d, 4, none⟩ = some (.int .i64 x.n) ∧ W.cell? ⟨d, 5, none⟩ = some (.int .i64 x.c) from by
    obtain ⟨a0, a1, a2, a3, a4, a5⟩ := six hA.box
    obtain ⟨d0, d1, d2, d3, d4, d5, _⟩ := seven hA.par
    exact ⟨a0, a1, a2, a3, a4, a5, d0, d1, d2, d3, d4, d5⟩)
  have k0 := HK.out _ A0.out
  have hdq := HDQ.out
  have hcq := HCQ.out
  clear hd hh b4 h4 HB3 HH3 HR3
  go_wp2_with (fail)
  go_region_held3 (fun W : World => W.cell? ⟨w.heap.size, 0, none⟩ = some (.int .i64 x.v) ∧ W.cell? ⟨w.heap.size, 1, none⟩ = some (.int .i64 x.d) ∧ W.cell? ⟨w.heap.size, 2, none⟩ = some (.int .i64 x.h) ∧ W.cell? ⟨w.heap.size, 3, none⟩ = some (.int .i64 x.b) ∧ W.cell? ⟨w.heap.size, 4, none⟩ = some (.int .i64 x.n) ∧ W.cell? ⟨w.heap.size, 5, none⟩ = some (.int .i64 x.c) ∧
      W.cell? ⟨d, 0, none⟩ = some (.int .i64 x.v) ∧ W.cell? ⟨d, 1, none⟩ = some (.int .i64 x.d) ∧ W.cell? ⟨d, 2, none⟩ = some (.int .i64 x.h) ∧ W.cell? ⟨d, 3, none⟩ = some (.int .i64 x.b) ∧ W.cell? ⟨d, 4, none⟩ = some (.int .i64 x.n) ∧ W.cell? ⟨d, 5, none⟩ = some (.int .i64 x.c)) (first | exact k0 | assumption) (first
    | (go_at_call 8; (with_reducible refine (HSM.out _ _ _ A0.out).mono ?_); rintro e w5 ⟨rfl, b5⟩; have A5 := Lib.hid (A0.out.step b5); have k5 := HK.out _ A5.out; clear b5)
    | (go_at_call 9; (with_reducible refine (HDD.out _ _ _ A5.out).mono ?_); rintro e w6 ⟨rfl, b6⟩; have A6 := Lib.hid (A5.out.step b6); have k6 := HK.out _ A6.out; clear b6)
    | (go_at_call 9; (with_reducible refine (HDB.out _ _ _ A6.out).mono ?_); rintro e w7 ⟨rfl, b7⟩; have A7 := Lib.hid (A6.out.step b7); have k7 := HK.out _ A7.out; clear b7)
    | (go_at_call 10; (with_reducible refine (HWT.out _ _ _ A7.out).mono ?_); rintro e w8 ⟨rfl, rfl⟩)
    | (go_at_call 12; (with_reducible refine (HRD.out _ _ _ A7.out).mono ?_); rintro e w9 ⟨R, c, rfl, hR, b9⟩; have A9 := Lib.hid (A7.out.step b9); have R9 := Lib.hid hR; have k9 := HK.out _ A9.out; clear b9 hR)
    | (go_at_call 12; (with_reducible refine (HRB.out _ _ _ A9.out).mono ?_); rintro e w10 ⟨R', c', rfl, hR, b10⟩; have A10 := Lib.hid (A9.out.step b10); have R10 := Lib.hid hR; have R9' := Lib.hid (R9.out.below b10 (Nat.le_refl _)); have k10 := HK.out _ A10.out; clear b10 hR)
    | (go_at_call 11; (with_reducible refine (HIN.out _ _ _ _ _ R9'.out R10.out).mono ?_); rintro e w11 ⟨rfl, b11⟩; have A11 := Lib.hid (A10.out.step b11); have k11 := HK.out _ A11.out; clear b11))
  clear HSM HDD HDB HWT HRD HRB HIN HDQ HCQ hdq hcq HA4 A0 k0 A5 A6 A7 A9 A10 k5 k6 k7 k9 k10 k11 R9 R10 R9'
  have z1 : ¬ 9223372036854775807 < T.size + (⟨#[120]⟩ : ByteArray).size := by
    have := HTS.out
    have := HSS.out
    rw [show (⟨#[120]⟩ : ByteArray).size = 1 from rfl]
    omega
  go_wp2_with (fail)
  refine (HP1.out _).mono ?_
  rintro e w12 ⟨rfl, b12⟩
  have A12 := Lib.hid (A11.out.step b12)
  obtain ⟨m, hm, hs1⟩ : ∃ m : Nat, T.size - 1 = m ∧ wrap64 ((T.size : Int) - 1) = (m : Int) := ⟨T.size - 1, rfl, (IntWalk.wrap64_in _ (by have := HTS.out; have := HSS.out; omega)).trans (by have := HTS.out; omega)⟩
  rw [hm] at HP2
  have hcut := str_to T m _ rfl (by omega)
  clear b12 z1
  go_wp2_with (fail)
  refine (HP2.out _).mono ?_
  rintro e w13 ⟨rfl, b13⟩
  have h13 := A12.out.step b13
  have A13 := Lib.hid h13
  have B0 := Lib.hid (show At2 w x s b d w13.drew from h13.step (below_drewN (Below.refl _ _) 1))
  have k0 := HK.out _ B0.out
  have hhb := HHB.out
  clear b13 h13 hcut hs1
  go_wp2_with (fail)
  go_region_held3 (fun W : World => W.cell? ⟨w.heap.size, 0, none⟩ = some (.int .i64 x.v) ∧ W.cell? ⟨w.heap.size, 1, none⟩ = some (.int .i64 x.d) ∧ W.cell? ⟨w.heap.size, 2, none⟩ = some (.int .i64 x.h) ∧ W.cell? ⟨w.heap.size, 3, none⟩ = some (.int .i64 x.b) ∧ W.cell? ⟨w.heap.size, 4, none⟩ = some (.int .i64 x.n) ∧ W.cell? ⟨w.heap.size, 5, none⟩ = some (.int .i64 x.c) ∧
      W.cell? ⟨d, 0, none⟩ = some (.int .i64 x.v) ∧ W.cell? ⟨d, 1, none⟩ = some (.int .i64 x.d) ∧ W.cell? ⟨d, 2, none⟩ = some (.int .i64 x.h) ∧ W.cell? ⟨d, 3, none⟩ = some (.int .i64 x.b) ∧ W.cell? ⟨d, 4, none⟩ = some (.int .i64 x.n) ∧ W.cell? ⟨d, 5, none⟩ = some (.int .i64 x.c)) (first | exact k0 | assumption) (first
    | (go_at_call 13; (with_reducible refine (HHD.out _).mono ?_); rintro e w14 ⟨rfl, b14⟩; have A14 := Lib.hid (B0.out.step b14); have k14 := HK.out _ A14.out; clear b14))
  go_wp2_with (fail)
  exact bodyPost_ret (results_tmp rfl _ _ _) rfl ⟨rfl, A14.out.below⟩
theorem walk (hT : Tabs w) : Calls Tryd.prog 3 #[cfV x, .string s, .int .i64 p, .int .i64 k, .int .i64 a] w fun e w' => e = .returned (.bool true) ∧ Below w.heap.size w w' := by
  by_cases h : Ok x s
  · exact walk_ok w x s p k a h hT
  · exact walk_no w x s p k a h
end
end brainBack
end Go.Proofs.YtgenpfhcbopokaaDoor
