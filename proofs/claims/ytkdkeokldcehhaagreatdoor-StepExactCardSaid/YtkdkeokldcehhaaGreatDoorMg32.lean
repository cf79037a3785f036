/-
  Package brain: what Of, Bytes and Same answer. Conditions: a model stands in its block; where Of answers one, its shape can be and the weights are as many.
-/
import Derived.Test.YtkdkeokldcehhaaGreatDoorMg7
import Derived.Test.YtkdkeokldcehhaaGreatDoorMg4
import Derived.Test.YtkdkeokldcehhaaGreatDoorMg31
set_option maxRecDepth 100000
namespace Go.Proofs.YtkdkeokldcehhaaGreatDoor
open Go.ChangeShapes Go.WideShapes Go.ChangeAt Go.RowKit Cf Br

section
variable (w : World) (x : Cfg) (s : ByteArray)
set_option maxRecDepth 100000 in
set_option maxHeartbeats 1600000 in
theorem brain_of_arg (h : goodZ x = false) : Calls Tryz.prog 7 #[cfV x, .string s] w fun e w' => e = .returned (.tuple #[.pointer none, .int .i64 1]) ∧ Below w.heap.size w w' := by
  have HG := Lib.hid (fun W => conf_good W x)
  rw [h] at HG
  have HB0 := Lib.hid ((Below.refl w.heap.size w).alloc (Nat.le_refl _) (cfO 23 x))
  have k0 := six (heap_alloc_new w (cfO 23 x))
  obtain ⟨e0, e1, e2, e3, e4, e5⟩ := k0
  clear h
  unfold cfV cfA at *
  go_enter Tryz.func7, Tryz.ntmps7
  go_wp2_with (fail)
  refine (HG.out _).mono ?_
  rintro e w1 ⟨rfl, b1⟩
  have HB1 := Lib.hid (HB0.out.trans (b1.mono HB0.out.size))
  clear b1
  go_wp2_with (fail)
  exact bodyPost_ret (results_tmp2 rfl _ _ _) rfl ⟨rfl, HB1.out⟩
set_option maxRecDepth 100000 in
set_option maxHeartbeats 1600000 in
theorem brain_of_form (h : goodZ x = true) (hs : (s.size : Int) ≠ totZ x) : Calls Tryz.prog 7 #[cfV x, .string s] w fun e w' => e = .returned (.tuple #[.pointer none, .int .i64 5]) ∧ Below w.heap.size w w' := by
  have HG := Lib.hid (fun W => conf_good W x)
  have HS := Lib.hid (fun W => conf_size W x)
  rw [h] at HG
  rw [if_pos h] at HS
  have HB0 := Lib.hid ((Below.refl w.heap.size w).alloc (Nat.le_refl _) (cfO 23 x))
  have HH0 := Lib.hid (heap_alloc_new w (cfO 23 x))
  generalize totZ x = T at hs HS
  have t1 : ((s.size : Int) != T) = true := bne_iff_ne.2 hs
  have t2 : ((s.size : Int) == T) = false := beq_eq_false_iff_ne.2 hs
  clear h hs
  unfold cfV cfA at *
  obtain ⟨e0, e1, e2, e3, e4, e5⟩ := six HH0.out
  go_enter Tryz.func7, Tryz.ntmps7
  go_wp2_with (fail)
  refine (HG.out _).mono ?_
  rintro e w1 ⟨rfl, b1⟩
  have b2 := (Below.refl w1.heap.size w1).alloc (Nat.le_refl _) (cfO 61 x)
  have HH1 := Lib.hid (Cf.stays HH0.out b1)
  have HB2 := Lib.hid (HB0.out.trans ((b1.trans (b2.mono b1.size)).mono HB0.out.size))
  have HS2 := Lib.hid (heap_alloc_new w1 (cfO 61 x))
  clear e0 e1 e2 e3 e4 e5 b1 b2 HG HB0 HH0
  obtain ⟨e0, e1, e2, e3, e4, e5⟩ := six HH1.out
  go_wp2_with (fail)
  refine (HS.out _).mono ?_
  rintro e w3 ⟨rfl, b3⟩
  have HB3 := Lib.hid (HB2.out.trans (b3.mono HB2.out.size))
  clear b3
  go_wp2_with (fail)
  exact bodyPost_ret (results_tmp2 rfl _ _ _) rfl ⟨rfl, HB3.out⟩
set_option maxRecDepth 100000 in
set_option maxHeartbeats 1600000 in
theorem brain_of (h : Ok x s) : Calls Tryz.prog 7 #[cfV x, .string s] w fun e w' => ∃ b, e = .returned (.tuple #[.pointer (some ⟨b, 0, none⟩), .int .i64 0]) ∧ w.heap.size ≤ b ∧ w'.heap[b]? = some (brO x s) ∧ Below w.heap.size w w' := by
  have HG := Lib.hid (fun W => conf_good W x)
  have HS := Lib.hid (fun W => conf_size W x)
  rw [good_iff.2 h.good] at HG
  rw [if_pos (good_iff.2 h.good), ← h.size] at HS
  have HB0 := Lib.hid ((Below.refl w.heap.size w).alloc (Nat.le_refl _) (cfO 23 x))
  have HH0 := Lib.hid (heap_alloc_new w (cfO 23 x))
  have t1 : ((s.size : Int) != (s.size : Int)) = false := bne_self_eq_false _
  have t2 : ((s.size : Int) == (s.size : Int)) = true := beq_self_eq_true _
  clear h
  unfold cfV cfA at *
  obtain ⟨e0, e1, e2, e3, e4, e5⟩ := six HH0.out
  go_enter Tryz.func7, Tryz.ntmps7
  go_wp2_with (fail)
  refine (HG.out _).mono ?_
  rintro e w1 ⟨rfl, b1⟩
  have b2 := (Below.refl w1.heap.size w1).alloc (Nat.le_refl _) (cfO 61 x)
  have HH1 := Lib.hid (Cf.stays HH0.out b1)
  have HB2 := Lib.hid (HB0.out.trans ((b1.trans (b2.mono b1.size)).mono HB0.out.size))
  have HS2 := Lib.hid (heap_alloc_new w1 (cfO 61 x))
  clear e0 e1 e2 e3 e4 e5 b1 b2 HG HB0 HH0
  obtain ⟨e0, e1, e2, e3, e4, e5⟩ := six HH1.out
  go_wp2_with (fail)
  refine (HS.out _).mono ?_
  rintro e w3 ⟨rfl, b3⟩
  have HB3 := Lib.hid (HB2.out.trans (b3.mono HB2.out.size))
  have HS3 := Lib.hid (Cf.stays HS2.out b3)
  clear e0 e1 e2 e3 e4 e5 b3 HB2 HS2 HH1
  obtain ⟨e0, e1, e2, e3, e4, e5⟩ := six HS3.out
  go_wp2_with (fail)
  refine bodyPost_ret (results_tmp2 rfl _ _ _) rfl ?_
  exact ⟨_, rfl, HB3.out.size, heap_alloc_new _ (brO x s), HB3.out.alloc HB3.out.size _⟩
end
section
variable (w : World) (b : Nat) (x : Cfg) (s : ByteArray) (h : w.heap[b]? = some (brO x s))
include h
end
end Go.Proofs.YtkdkeokldcehhaaGreatDoor
