/-
  Package patch: read. Conditions: an eye stands in a block of its own; fewer than 2^48 bytes are left.
-/
import Derived.Test.YtiehpaffbaafcaaPt4
import Derived.Test.YtiehpaffbaafcaaPenEye
namespace Go.Proofs.Ytiehpaffbaafcaa
open Go.ChangeShapes Go.WideShapes Go.ChangeAt Go.RowKit Pn Pt
namespace Pt
theorem box_fz {W : World} {b : Nat} {t : TypeId} {o : Deed} (h : W.heap[b]? = some (boxD t o)) (i : Nat) : W.frozen? ⟨b, i, none⟩ = false := frozen_of_row W b i _ _ h
theorem box_setF {W : World} {b : Nat} {t : TypeId} {o : Deed} (h : W.heap[b]? = some (boxD t o)) (f : Int) : (W.setCell ⟨b, 1, none⟩ (.int .i64 f)).heap[b]? = some (boxD t ⟨o.k, f, o.s, o.d⟩) := heap_setCell_same _ b 1 _ _ _ h
theorem box_setS {W : World} {b : Nat} {t : TypeId} {o : Deed} (h : W.heap[b]? = some (boxD t o)) (s : Int) : (W.setCell ⟨b, 2, none⟩ (.int .i64 s)).heap[b]? = some (boxD t ⟨o.k, o.f, s, o.d⟩) := heap_setCell_same _ b 2 _ _ _ h
theorem box_setT {W : World} {b : Nat} {t : TypeId} {o : Deed} (h : W.heap[b]? = some (boxD t o)) (d : ByteArray) : (W.setCell ⟨b, 3, none⟩ (.string d)).heap[b]? = some (boxD t ⟨o.k, o.f, o.s, d⟩) := heap_setCell_same _ b 3 _ _ _ h
def set4 (W : World) (b : Nat) (o : Deed) : World := (((W.setCell ⟨b, 0, none⟩ (.int .i64 o.k)).setCell ⟨b, 1, none⟩ (.int .i64 o.f)).setCell ⟨b, 2, none⟩ (.int .i64 o.s)).setCell ⟨b, 3, none⟩ (.string o.d)
theorem box_set4 {W : World} {b : Nat} {t : TypeId} {y : Deed} (h : W.heap[b]? = some (boxD t y)) (o : Deed) : (set4 W b o).heap[b]? = some (boxD t o) :=
  heap_setCell_same _ b 3 _ _ _ (heap_setCell_same _ b 2 _ _ _ (heap_setCell_same _ b 1 _ _ _ (heap_setCell_same W b 0 _ _ _ h)))
theorem set4_other (W : World) (b : Nat) (o : Deed) (i : Nat) (hi : i ≠ b) : (set4 W b o).heap[i]? = W.heap[i]? := by
  unfold set4
  rw [heap_setCell_other _ ⟨b, 3, none⟩ i _ hi, heap_setCell_other _ ⟨b, 2, none⟩ i _ hi, heap_setCell_other _ ⟨b, 1, none⟩ i _ hi, heap_setCell_other _ ⟨b, 0, none⟩ i _ hi]
theorem only_set {w W : World} {b Q : Nat} (h : Only w W b) (hQ : w.heap.size ≤ Q) (k : Nat) (v : Value) : Only w (W.setCell ⟨Q, k, none⟩ v) b := h.setCell (.inr hQ) v
theorem only_set4 {w W : World} {b Q : Nat} (h : Only w W b) (hQ : w.heap.size ≤ Q) (o : Deed) : Only w (set4 W Q o) b := only_set (only_set (only_set (only_set h hQ 0 _) hQ 1 _) hQ 2 _) hQ 3 _
/-- What is read of a kind's number, and what is left behind it. -/
def rdK (K : Int) (r1 : ByteArray) (b1 : Bool) : Deed × ByteArray × Bool :=
  if K = 1 then (⟨K, (nmOut r1 mxB : Int), (nmOut (nmRest r1 mxB) mxB : Int), ⟨#[]⟩⟩, nmRest (nmRest r1 mxB) mxB, nmBad (nmRest r1 mxB) (nmBad r1 b1 mxB) mxB)
  else if K = 2 then (⟨K, 0, 0, txOut r1 8192⟩, txRest r1 8192, txBad r1 b1 8192)
  else if K = 3 then (⟨K, (nmOut r1 mxB : Int), 0, txOut (nmRest r1 mxB) 8192⟩, txRest (nmRest r1 mxB) 8192, txBad (nmRest r1 mxB) (nmBad r1 b1 mxB) 8192)
  else (⟨K, 0, 0, ⟨#[]⟩⟩, r1, b1)
theorem rdD_eq (r : ByteArray) (bad : Bool) : rdD r bad = rdK ((byAt (tkOut r 1) 0).toNat : Int) (tkRest r 1) (tkBad r bad 1) := rfl
/-- While a deed is read: the eye, the deed, the place of the answer. -/
structure Rd (w : World) (b R Q : Nat) (W : World) (o : Deed) (r : ByteArray) (bad : Bool) : Prop where
  eye : EyeAt W b r bad
  box : W.heap[Q]? = some (boxD 42 o)
  res : W.heap[R]? = some (boxD 42 dz)
  only : Only w W b
namespace Rd
variable {w W W' : World} {b R Q : Nat} {o : Deed} {r r' : ByteArray} {bad bad' : Bool} {v : Value} {e : Ending}
theorem says (h : Rd w b R Q W o r bad) (hQ : Q ≠ b) (hR : R ≠ b) (h1 : EyeAt W' b r' bad') (h2 : Only W W' b) : Rd w b R Q W' o r' bad' :=
  ⟨h1, only_box h.box h2 hQ, only_box h.res h2 hR, h.only.trans h2⟩
theorem setF (h : Rd w b R Q W o r bad) (hQ : w.heap.size ≤ Q) (hb : b < w.heap.size) (hR : R ≠ Q) (f : Int) : Rd w b R Q (W.setCell ⟨Q, 1, none⟩ (.int .i64 f)) ⟨o.k, f, o.s, o.d⟩ r bad :=
  ⟨h.eye.of_block (heap_setCell_other _ ⟨Q, 1, none⟩ b _ (by show b ≠ Q; omega)), box_setF h.box f, (heap_setCell_other _ ⟨Q, 1, none⟩ R _ hR).trans h.res, only_set h.only hQ 1 _⟩
theorem setS (h : Rd w b R Q W o r bad) (hQ : w.heap.size ≤ Q) (hb : b < w.heap.size) (hR : R ≠ Q) (s : Int) : Rd w b R Q (W.setCell ⟨Q, 2, none⟩ (.int .i64 s)) ⟨o.k, o.f, s, o.d⟩ r bad :=
  ⟨h.eye.of_block (heap_setCell_other _ ⟨Q, 2, none⟩ b _ (by show b ≠ Q; omega)), box_setS h.box s, (heap_setCell_other _ ⟨Q, 2, none⟩ R _ hR).trans h.res, only_set h.only hQ 2 _⟩
theorem setT (h : Rd w b R Q W o r bad) (hQ : w.heap.size ≤ Q) (hb : b < w.heap.size) (hR : R ≠ Q) (d : ByteArray) : Rd w b R Q (W.setCell ⟨Q, 3, none⟩ (.string d)) ⟨o.k, o.f, o.s, d⟩ r bad :=
  ⟨h.eye.of_block (heap_setCell_other _ ⟨Q, 3, none⟩ b _ (by show b ≠ Q; omega)), box_setT h.box d, (heap_setCell_other _ ⟨Q, 3, none⟩ R _ hR).trans h.res, only_set h.only hQ 3 _⟩
end Rd
end Pt
theorem opI (k f s : Int) (d : ByteArray) : (Try.prog.info? 42).map (·.size) = some (#[.int .i64 k, .int .i64 f, .int .i64 s, .string d] : Array Value).size := by
  show _ = some 4
  kernel_rfl
/-- What read answers. -/
def RdSays (w : World) (b : Nat) (x : Deed × ByteArray × Bool) (e : Ending) (w' : World) : Prop := e = .returned (dv x.1) ∧ EyeAt w' b x.2.1 x.2.2 ∧ Only w w' b
section
variable {w W : World} {b R Q : Nat} {k f s : Int} {d r : ByteArray} {bad : Bool} (h : Rd w b R Q W ⟨k, f, s, d⟩ r bad)
include h
theorem rd_res : ((((W.setCell ⟨R, 0, none⟩ (.int .i64 k)).setCell ⟨R, 1, none⟩ (.int .i64 f)).setCell ⟨R, 2, none⟩ (.int .i64 s)).setCell ⟨R, 3, none⟩ (.string d)).heap[R]? = some (.cells #[.int .i64 k, .int .i64 f, .int .i64 s, .string d] 42 (0, 0)) := box_set4 h.res ⟨k, f, s, d⟩
theorem rd_end (hR : w.heap.size ≤ R) (hb : b < w.heap.size) : EyeAt ((((W.setCell ⟨R, 0, none⟩ (.int .i64 k)).setCell ⟨R, 1, none⟩ (.int .i64 f)).setCell ⟨R, 2, none⟩ (.int .i64 s)).setCell ⟨R, 3, none⟩ (.string d)) b r bad ∧ Only w ((((W.setCell ⟨R, 0, none⟩ (.int .i64 k)).setCell ⟨R, 1, none⟩ (.int .i64 f)).setCell ⟨R, 2, none⟩ (.int .i64 s)).setCell ⟨R, 3, none⟩ (.string d)) b :=
  ⟨h.eye.of_block (set4_other W R ⟨k, f, s, d⟩ _ (by omega)), only_set4 h.only hR ⟨k, f, s, d⟩⟩
end
set_option maxRecDepth 100000 in
set_option maxHeartbeats 6400000 in
theorem pt_read (w : World) (b : Nat) (r : ByteArray) (bad : Bool) (h : EyeAt w b r bad) (hr : r.size ≤ 140737488355328) :
    Calls Try.prog 23 #[.pointer (some ⟨b, 0, none⟩)] w (RdSays w b (rdD r bad)) := by
  have HLT := Lib.hid h.lt
  have HRR := Lib.hid hr
  have H0 := Lib.hid (show EyeAt (w.alloc (boxD 42 dz)) b r bad from h.of_block (heap_alloc_old _ _ h.lt))
  have HR0 := Lib.hid (show (w.alloc (boxD 42 dz)).heap[w.heap.size]? = some (boxD 42 dz) from heap_alloc_new w _)
  have HO0 := Lib.hid (show Only w (w.alloc (boxD 42 dz)) b from Only.of_below ((Below.refl _ _).alloc (Nat.le_refl _) _) b)
  have HD := Lib.hid (rdD_eq r bad)
  have hw := IntWalk.wrap64_in (((byAt (tkOut r 1) 0).toNat : Int)) (by have := (byAt (tkOut r 1) 0).toNat_lt; omega)
  have HBY := Lib.hid (eye_byte (w.alloc (boxD 42 dz)) b r bad H0.out)
  have HS1 := Lib.hid (show (tkRest r 1).size ≤ 140737488355328 from Nat.le_trans (tk_rest_size r 1) hr)
  unfold boxD dz at HBY
  simp only at HBY
  generalize ((byAt (tkOut r 1) 0).toNat : Int) = K at hw HD HBY
  generalize tkRest r 1 = r1 at HD HBY HS1
  generalize tkBad r bad 1 = b1 at HD HBY
  generalize hx : rdD r bad = X at HD
  clear h hr hx
  go_enter Try.func23, Try.ntmps23
  go_wp2_with (fail)
  refine HBY.out.mono ?_
  rintro e w1 ⟨rfl, e1, o1⟩
  have HRD := Lib.hid (show Rd w b w.heap.size w1.heap.size (w1.alloc (boxD 42 ⟨K, 0, 0, ⟨#[]⟩⟩)) ⟨K, 0, 0, ⟨#[]⟩⟩ r1 b1 from
    ⟨e1.of_block (heap_alloc_old _ _ e1.lt), heap_alloc_new w1 _, (heap_alloc_old _ _ (by have := o1.size; simp at this; omega)).trans (only_box HR0.out o1 (by have := HLT.out; omega)), (HO0.out.trans o1).alloc _⟩)
  have HQ := Lib.hid (show w.heap.size + 1 ≤ w1.heap.size from by have := o1.size; simp at this; omega)
  clear e1 o1 HBY HO0 HR0 H0
  have HSY := Lib.hid (fun (W : World) (o : Deed) (r : ByteArray) (bad : Bool) (h : Rd w b w.heap.size w1.heap.size W o r bad) (W' : World) (r' : ByteArray) (bad' : Bool) (h1 : EyeAt W' b r' bad') (h2 : Only W W' b) => show Rd w b w.heap.size w1.heap.size W' o r' bad' from
    h.says (by have := HQ.out; have := HLT.out; omega) (by have := HLT.out; omega) h1 h2)
  have HSF := Lib.hid (fun (W : World) (o : Deed) (r : ByteArray) (bad : Bool) (h : Rd w b w.heap.size w1.heap.size W o r bad) f => h.setF (by have := HQ.out; omega) HLT.out (by have := HQ.out; omega) f)
  have HSS := Lib.hid (fun (W : World) (o : Deed) (r : ByteArray) (bad : Bool) (h : Rd w b w.heap.size w1.heap.size W o r bad) f => h.setS (by have := HQ.out; omega) HLT.out (by have := HQ.out; omega) f)
  have HST := Lib.hid (fun (W : World) (o : Deed) (r : ByteArray) (bad : Bool) (h : Rd w b w.heap.size w1.heap.size W o r bad) f => h.setT (by have := HQ.out; omega) HLT.out (by have := HQ.out; omega) f)
  unfold boxD at HRD
  simp only at HRD
  unfold rdK at HD
  by_cases hk1 : K = 1
  · subst hk1
    have HX := Lib.hid (HD.out.trans (if_pos rfl))
    clear HD
    go_wp2_with (fail)
    refine (eye_num _ b r1 b1 HRD.out.eye mxB).mono ?_
    rintro e w2 ⟨rfl, e2, o2⟩
    have H2 := Lib.hid (HSY.out _ _ _ _ HRD.out _ _ _ e2 o2)
    have f2 := box_fz H2.out.box
    obtain ⟨a0, a1, a2, a3⟩ := box_at H2.out.box
    have H3 := Lib.hid (HSF.out _ _ _ _ H2.out (nmOut r1 mxB : Int))
    clear e2 o2
    go_wp2_with (fail)
    refine (eye_num _ b _ _ H3.out.eye mxB).mono ?_
    rintro e w3 ⟨rfl, e3, o3⟩
    have H4 := Lib.hid (HSY.out _ _ _ _ H3.out _ _ _ e3 o3)
    have f4 := box_fz H4.out.box
    obtain ⟨b0, b1', b2, b3⟩ := box_at H4.out.box
    have H5 := Lib.hid (HSS.out _ _ _ _ H4.out (nmOut (nmRest r1 mxB) mxB : Int))
    clear e3 o3 f2 a0 a1 a2 a3
    simp only at H5
    go_upto_region 11 with (fail)
    generalize (w3.setCell ⟨w1.heap.size, 2, none⟩ (.int .i64 (nmOut (nmRest r1 mxB) mxB : Int))) = W5 at H5 ⊢
    obtain ⟨c0, c1, c2, c3⟩ := box_at H5.out.box
    have fr := box_fz H5.out.res
    obtain ⟨q0, q1, q2, q3⟩ := box_at H5.out.res
    clear f4 b0 b1' b2 b3
    go_wp2_with (fail)
    generalize ((nmOut r1 mxB : Nat) : Int) = F1 at HX H5 ⊢
    generalize ((nmOut (nmRest r1 mxB) mxB : Nat) : Int) = F2 at HX H5 ⊢
    generalize nmRest (nmRest r1 mxB) mxB = R2 at HX H5
    generalize nmBad (nmRest r1 mxB) (nmBad r1 b1 mxB) mxB = B2 at HX H5
    refine bodyPost_ret (results_cell_row rfl _ _ _ 42 _ _ _ rfl (rd_res H5.out) Try.underlying42 rfl (opI _ _ _ _)) rfl ?_
    rw [HX.out]
    exact ⟨rfl, rd_end H5.out (Nat.le_refl _) HLT.out⟩
  have k1 : (K == 1) = false := beq_eq_false_iff_ne.2 hk1
  have HD2 := Lib.hid (HD.out.trans (if_neg hk1))
  clear HD
  by_cases hk2 : K = 2
  · subst hk2
    have HX := Lib.hid (HD2.out.trans (if_pos rfl))
    clear HD2
    go_wp2_with (fail)
    refine (eye_text _ b r1 b1 HRD.out.eye (by have := HS1.out; omega) 8192).mono ?_
    rintro e w2 ⟨rfl, e2, o2⟩
    have H2 := Lib.hid (HSY.out _ _ _ _ HRD.out _ _ _ e2 o2)
    have f2 := box_fz H2.out.box
    obtain ⟨a0, a1, a2, a3⟩ := box_at H2.out.box
    have H5 := Lib.hid (HST.out _ _ _ _ H2.out (txOut r1 8192))
    clear e2 o2
    simp only at H5
    go_upto_region 11 with (fail)
    generalize (w2.setCell ⟨w1.heap.size, 3, none⟩ (.string (txOut r1 8192))) = W5 at H5 ⊢
    obtain ⟨c0, c1, c2, c3⟩ := box_at H5.out.box
    have fr := box_fz H5.out.res
    obtain ⟨q0, q1, q2, q3⟩ := box_at H5.out.res
    clear f2 a0 a1 a2 a3
    go_wp2_with (fail)
    generalize txOut r1 8192 = D1 at HX H5 ⊢
    generalize txRest r1 8192 = R2 at HX H5
    generalize txBad r1 b1 8192 = B2 at HX H5
    refine bodyPost_ret (results_cell_row rfl _ _ _ 42 _ _ _ rfl (rd_res H5.out) Try.underlying42 rfl (opI _ _ _ _)) rfl ?_
    rw [HX.out]
    exact ⟨rfl, rd_end H5.out (Nat.le_refl _) HLT.out⟩
  have k2 : (K == 2) = false := beq_eq_false_iff_ne.2 hk2
  have HD3 := Lib.hid (HD2.out.trans (if_neg hk2))
  clear HD2
  by_cases hk3 : K = 3
  · subst hk3
    have HX := Lib.hid (HD3.out.trans (if_pos rfl))
    clear HD3
    go_wp2_with (fail)
    refine (eye_num _ b r1 b1 HRD.out.eye mxB).mono ?_
    rintro e w2 ⟨rfl, e2, o2⟩
    have H2 := Lib.hid (HSY.out _ _ _ _ HRD.out _ _ _ e2 o2)
    have f2 := box_fz H2.out.box
    obtain ⟨a0, a1, a2, a3⟩ := box_at H2.out.box
    have H3 := Lib.hid (HSF.out _ _ _ _ H2.out (nmOut r1 mxB : Int))
    clear e2 o2
    go_wp2_with (fail)
    refine (eye_text _ b _ _ H3.out.eye (by have := HS1.out; have := nm_rest_size r1 mxB; omega) 8192).mono ?_
    rintro e w3 ⟨rfl, e3, o3⟩
    have H4 := Lib.hid (HSY.out _ _ _ _ H3.out _ _ _ e3 o3)
    have f4 := box_fz H4.out.box
    obtain ⟨b0, b1', b2, b3⟩ := box_at H4.out.box
    have H5 := Lib.hid (HST.out _ _ _ _ H4.out (txOut (nmRest r1 mxB) 8192))
    clear e3 o3 f2 a0 a1 a2 a3
    simp only at H5
    go_upto_region 11 with (fail)
    generalize (w3.setCell ⟨w1.heap.size, 3, none⟩ (.string (txOut (nmRest r1 mxB) 8192))) = W5 at H5 ⊢
    obtain ⟨c0, c1, c2, c3⟩ := box_at H5.out.box
    have fr := box_fz H5.out.res
    obtain ⟨q0, q1, q2, q3⟩ := box_at H5.out.res
    clear f4 b0 b1' b2 b3
    go_wp2_with (fail)
    generalize ((nmOut r1 mxB : Nat) : Int) = F1 at HX H5 ⊢
    generalize txOut (nmRest r1 mxB) 8192 = D1 at HX H5 ⊢
    generalize txRest (nmRest r1 mxB) 8192 = R2 at HX H5
    generalize txBad (nmRest r1 mxB) (nmBad r1 b1 mxB) 8192 = B2 at HX H5
    refine bodyPost_ret (results_cell_row rfl _ _ _ 42 _ _ _ rfl (rd_res H5.out) Try.underlying42 rfl (opI _ _ _ _)) rfl ?_
    rw [HX.out]
    exact ⟨rfl, rd_end H5.out (Nat.le_refl _) HLT.out⟩
  have k3 : (K == 3) = false := beq_eq_false_iff_ne.2 hk3
  have HX := Lib.hid (HD3.out.trans (if_neg hk3))
  clear HD3
  obtain ⟨c0, c1, c2, c3⟩ := box_at HRD.out.box
  have fq := box_fz HRD.out.box
  have fr := box_fz HRD.out.res
  obtain ⟨q0, q1, q2, q3⟩ := box_at HRD.out.res
  go_wp2_with (fail)
  refine bodyPost_ret (results_cell_row rfl _ _ _ 42 _ _ _ rfl (rd_res HRD.out) Try.underlying42 rfl (opI _ _ _ _)) rfl ?_
  rw [HX.out]
  exact ⟨rfl, rd_end HRD.out (Nat.le_refl _) HLT.out⟩
end Go.Proofs.Ytiehpaffbaafcaa
