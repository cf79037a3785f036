/-
  The document's manifest: Length, Part. Conditions: none.
  The document's manifest: Check. Condition: the sums stand behind the slice.
  The document's manifest: Make. Condition: a patch has fewer than 2^48 bytes.
-/
import Derived.Test.YtgdckpldbofgfaaDoorMg23
import Derived.Test.YtgdckpldbofgfaaDoorMg7
import Derived.Test.YtgdckpldbofgfaaDoorMg19
set_option maxRecDepth 100000
namespace Go.Proofs.YtgdckpldbofgfaaDoor
open Go.ChangeShapes Go.WideShapes Go.ChangeAt Go.RowKit Sh Pn Mf

set_option maxRecDepth 100000 in
set_option maxHeartbeats 3200000 in
theorem ref20_length (w : World) (m : Man) (A : Option Addr) (k : Nat) (a : Int) : Calls Tryd.prog 13 #[.agg (manA m A k), .int .i64 a] w fun e w' => e = .returned (.int .i64 (lengthM m a : Int)) ∧ Below w.heap.size w w' := by
  have HN := Lib.hid (fun W => ref20_count W m A k)
  have HB := Lib.hid ((Below.refl w.heap.size w).alloc (Nat.le_refl _) (.cells (manA m A k) 30))
  have HA := Lib.hid (at_new w 30 m A k)
  have HI := Lib.hid (manI2 m A k)
  by_cases h1 : a < 0
  · have t1 : decide (a < 0) = true := decide_eq_true h1
    have HL := Lib.hid (show lengthM m a = 0 from if_neg fun h => by omega)
    go_enter Tryd.func13, Tryd.ntmps13
    go_wp2_with (fail)
    refine bodyPost_ret (results_tmp rfl _ _ _) rfl ?_
    rw [HL.out]
    exact ⟨rfl, HB.out⟩
  have t1 : decide (a < 0) = false := decide_eq_false h1
  by_cases h2 : (countM m : Int) ≤ a
  · have t2 : decide ((countM m : Int) ≤ a) = true := decide_eq_true h2
    have HL := Lib.hid (show lengthM m a = 0 from if_neg fun h => by omega)
    generalize countM m = C at *
    clear h2
    go_enter Tryd.func13, Tryd.ntmps13
    go_wp2_with (refine wpList_load_row_g (by rfl) 30 _ rfl _ rfl 30 _ (0, 0) _ HA.out.cells Tryd.underlying30 rfl HI.out ?_)
    refine (HN.out _).mono ?_
    rintro e w1 ⟨rfl, b1⟩
    have HB1 := Lib.hid (HB.out.trans (b1.mono HB.out.size))
    clear b1
    go_wp2_with (fail)
    refine bodyPost_ret (results_tmp rfl _ _ _) rfl ?_
    rw [HL.out]
    exact ⟨rfl, HB1.out⟩
  · have t2 : decide ((countM m : Int) ≤ a) = false := decide_eq_false h2
    have h3 : 0 < lengthM m a := by
      unfold lengthM
      rw [if_pos ⟨by omega, by omega⟩]
      obtain ⟨hg, hl, hcm⟩ := countM_good (m := m) (by omega)
      have hgi := headB_iff.1 hg
      exact lenN_pos (by omega) (by omega)
    obtain ⟨i, s, c, P⟩ := place_of h3
    have ha := P.ha
    subst ha
    have t3 : decide (countM m ≤ i) = false := decide_eq_false (by omega)
    have HL := Lib.hid P.len
    have hs := P.hs
    have hc := P.hc
    have hb := And.intro P.s1 (And.intro P.c1 P.hl)
    have hln : min (c : Int) ((s : Int) - ((i * c : Nat) : Int)) = (lenN s c i : Int) := by
      have := P.hl
      unfold lenN
      omega
    have x0 : (i : Int) * (c : Int) = ((i * c : Nat) : Int) := by simp
    generalize i * c = f at *
    generalize lenN s c i = n at *
    have x1 : wrap64 ((i : Int) * (c : Int)) = (f : Int) := by rw [x0]; exact IntWalk.wrap64_in _ (by clear x0 hln; omega)
    have x2 := IntWalk.wrap64_in ((s : Int) - (f : Int)) (by clear x0 x1 hln; omega)
    generalize countM m = C at *
    clear x0 h2 h3 hb P
    have HX := Lib.hid (And.intro hln (And.intro x1 x2))
    clear hln x1 x2
    go_enter Tryd.func13, Tryd.ntmps13
    go_wp2_with (refine wpList_load_row_g (by rfl) 30 _ rfl _ rfl 30 _ (0, 0) _ HA.out.cells Tryd.underlying30 rfl HI.out ?_)
    refine (HN.out _).mono ?_
    rintro e w1 ⟨rfl, b1⟩
    have e2 := (HA.out.keep b1).size
    have e3 := (HA.out.keep b1).chunk
    rw [hs] at e2
    rw [hc] at e3
    have HB1 := Lib.hid (HB.out.trans (b1.mono HB.out.size))
    clear b1
    obtain ⟨hln, x1, x2⟩ := HX.out
    go_wp2_with (fail)
    refine bodyPost_ret (results_tmp rfl _ _ _) rfl ?_
    rw [HL.out]
    refine ⟨?_, HB1.out⟩
    first
      | rfl
      | (show Ending.returned (.int .i64 (min (c : Int) (wrap64 ((s : Int) - wrap64 ((i : Int) * (c : Int)))))) = _; rw [x1, x2, hln])
      | (show Ending.returned (.int .i64 (min (c : Int) (wrap64 ((s : Int) - (f : Int))))) = _; rw [x2, hln])
      | (show Ending.returned (.int .i64 (min (c : Int) ((s : Int) - (f : Int)))) = _; rw [hln])
set_option maxRecDepth 100000 in
set_option maxHeartbeats 3200000 in
theorem ref20_part (w : World) (m : Man) (A : Option Addr) (k : Nat) (a : Int) (p : ByteArray) :
    Calls Tryd.prog 15 #[.agg (manA m A k), .int .i64 a, .string p] w fun e w' => e = .returned (.string (partM m a p)) ∧ Below w.heap.size w w' := by
  have HN := Lib.hid (fun W => ref20_length W m A k a)
  have HB := Lib.hid ((Below.refl w.heap.size w).alloc (Nat.le_refl _) (.cells (manA m A k) 30))
  have HA := Lib.hid (at_new w 30 m A k)
  have HI := Lib.hid (manI2 m A k)
  by_cases h1 : 0 < lengthM m a
  case neg =>
    have HP := Lib.hid (partM_not (p := p) fun h => h1 h.1)
    have t1 : ((lengthM m a : Int) == 0) = true := by rw [show lengthM m a = 0 by omega]; rfl
    have t2 : (lengthM m a == 0) = true := by rw [show lengthM m a = 0 by omega]; rfl
    generalize lengthM m a = L at *
    clear h1
    go_enter Tryd.func15, Tryd.ntmps15
    go_wp2_with (with_reducible refine wpList_load_row rfl 30 _ rfl _ rfl 30 _ (0, 0) _ HA.out.cells Tryd.underlying30 rfl HI.out ?_)
    refine (HN.out _).mono ?_
    rintro e w1 ⟨rfl, b1⟩
    have HB1 := Lib.hid (HB.out.trans (b1.mono HB.out.size))
    clear b1
    go_wp2_with (fail)
    refine bodyPost_ret (results_tmp rfl _ _ _) rfl ?_
    rw [HP.out]
    exact ⟨rfl, HB1.out⟩
  have t1 : ((lengthM m a : Int) == 0) = false := beq_eq_false_iff_ne.2 (by omega)
  have t2 : (lengthM m a == 0) = false := beq_eq_false_iff_ne.2 (by omega)
  by_cases h2 : (p.size : Int) = m.s
  case neg =>
    have HP := Lib.hid (partM_not (m := m) (a := a) fun h => h2 h.2)
    have t3 : ((p.size : Int) != m.s) = true := bne_iff_ne.2 h2
    have t4 : ((p.size : Int) == m.s) = false := beq_eq_false_iff_ne.2 h2
    generalize lengthM m a = L at *
    clear h1 h2
    go_enter Tryd.func15, Tryd.ntmps15
    go_wp2_with (with_reducible refine wpList_load_row rfl 30 _ rfl _ rfl 30 _ (0, 0) _ HA.out.cells Tryd.underlying30 rfl HI.out ?_)
    refine (HN.out _).mono ?_
    rintro e w1 ⟨rfl, b1⟩
    have e2 := (HA.out.keep b1).size
    have HB1 := Lib.hid (HB.out.trans (b1.mono HB.out.size))
    clear b1
    go_wp2_with (fail)
    refine bodyPost_ret (results_tmp rfl _ _ _) rfl ?_
    rw [HP.out]
    exact ⟨rfl, HB1.out⟩
  obtain ⟨i, s, c, P⟩ := place_of h1
  have HP := Lib.hid (partM_yes P h2)
  have hps : p.size = s := by have := P.hs; omega
  have t3 : ((p.size : Int) != m.s) = false := by rw [h2]; simp
  have t4 : ((p.size : Int) == m.s) = true := by rw [h2]; simp
  have HL := Lib.hid P.len
  have hb := And.intro P.s1 (And.intro P.hl (And.intro P.l2 P.l1))
  have x0 : (i : Int) * (c : Int) = ((i * c : Nat) : Int) := by simp
  have t5 := fun (W : World) => str_cut p (i * c) (i * c + lenN s c i) ((i * c : Nat) : Int) ((i * c : Nat) + (lenN s c i : Nat) : Int) rfl (by omega) (by omega) (by have := P.l2; omega) W
  have ha := P.ha
  subst ha
  have hc := P.hc
  rw [HL.out] at HN t1 t2
  generalize i * c = f at *
  generalize lenN s c i = n at *
  have x1 : wrap64 ((i : Int) * (c : Int)) = (f : Int) := by rw [x0]; exact IntWalk.wrap64_in _ (by clear x0; omega)
  have x2 := IntWalk.wrap64_in ((f : Int) + (n : Int)) (by clear x0 x1; omega)
  generalize p.extract f (f + n) = q at *
  have HX := Lib.hid (And.intro x1 (And.intro x2 t5))
  clear P h1 h2 hps x0 x1 x2 t5 hb
  go_enter Tryd.func15, Tryd.ntmps15
  go_wp2_with (with_reducible refine wpList_load_row rfl 30 _ rfl _ rfl 30 _ (0, 0) _ HA.out.cells Tryd.underlying30 rfl HI.out ?_)
  refine (HN.out _).mono ?_
  rintro e w1 ⟨rfl, b1⟩
  have e2 := (HA.out.keep b1).size
  have e3 := (HA.out.keep b1).chunk
  rw [hc] at e3
  have HB1 := Lib.hid (HB.out.trans (b1.mono HB.out.size))
  clear b1
  obtain ⟨x1, x2, t5⟩ := HX.out
  go_wp2_with (fail)
  refine bodyPost_ret (results_tmp rfl _ _ _) rfl ?_
  rw [HP.out]
  exact ⟨rfl, HB1.out⟩
end Go.Proofs.YtgdckpldbofgfaaDoor
namespace Go.Proofs.YtgdckpldbofgfaaDoor
open Go.ChangeShapes Go.WideShapes Go.ChangeAt Go.RowKit Sh Pn Mf

set_option maxRecDepth 100000 in
set_option maxHeartbeats 3200000 in
theorem ref20_check (w : World) (m : Man) (A : Option Addr) (k : Nat) (a : Int) (d : ByteArray) (hS : SIn w A k m.sums) :
    Calls Tryd.prog 17 #[.agg (manA m A k), .int .i64 a, .string d] w fun e w' => e = .returned (.int .i64 (checkM m a d)) ∧ Below w.heap.size w w' := by
  have HN := Lib.hid (fun W => ref20_length W m A k a)
  have HB := Lib.hid ((Below.refl w.heap.size w).alloc (Nat.le_refl _) (.cells (manA m A k) 30))
  have HA := Lib.hid (at_new w 30 m A k)
  have HI := Lib.hid (manI2 m A k)
  have HSI := Lib.hid hS
  clear hS
  by_cases h1 : 0 < lengthM m a
  case neg =>
    have HP := Lib.hid (show checkM m a d = 3 from if_pos (by omega))
    have t1 : ((lengthM m a : Int) == 0) = true := by rw [show lengthM m a = 0 by omega]; rfl
    have t2 : (lengthM m a == 0) = true := by rw [show lengthM m a = 0 by omega]; rfl
    generalize lengthM m a = L at *
    clear h1
    go_enter Tryd.func17, Tryd.ntmps17
    go_wp2_with (with_reducible refine wpList_load_row rfl 30 _ rfl _ rfl 30 _ (0, 0) _ HA.out.cells Tryd.underlying30 rfl HI.out ?_)
    refine (HN.out _).mono ?_
    rintro e w1 ⟨rfl, b1⟩
    have HB1 := Lib.hid (HB.out.trans (b1.mono HB.out.size))
    clear b1
    go_wp2_with (fail)
    refine bodyPost_ret (results_tmp rfl _ _ _) rfl ?_
    rw [HP.out]
    exact ⟨rfl, HB1.out⟩
  have t1 : ((lengthM m a : Int) == 0) = false := beq_eq_false_iff_ne.2 (by omega)
  have t2 : (lengthM m a == 0) = false := beq_eq_false_iff_ne.2 (by omega)
  by_cases h2 : d.size = lengthM m a
  case neg =>
    have HP := Lib.hid (show checkM m a d = 5 from (if_neg (by omega)).trans (if_pos h2))
    have t3 : ((d.size : Int) != (lengthM m a : Int)) = true := bne_iff_ne.2 (by omega)
    have t4 : ((d.size : Int) == (lengthM m a : Int)) = false := beq_eq_false_iff_ne.2 (by omega)
    generalize lengthM m a = L at *
    clear h1 h2
    go_enter Tryd.func17, Tryd.ntmps17
    go_wp2_with (with_reducible refine wpList_load_row rfl 30 _ rfl _ rfl 30 _ (0, 0) _ HA.out.cells Tryd.underlying30 rfl HI.out ?_)
    refine (HN.out _).mono ?_
    rintro e w1 ⟨rfl, b1⟩
    have HB1 := Lib.hid (HB.out.trans (b1.mono HB.out.size))
    clear b1
    go_wp2_with (fail)
    refine bodyPost_ret (results_tmp rfl _ _ _) rfl ?_
    rw [HP.out]
    exact ⟨rfl, HB1.out⟩
  obtain ⟨i, s, c, P⟩ := place_of h1
  have hi := P.hi
  have ha := P.ha
  subst ha
  have HP := Lib.hid (show checkM m (i : Int) d = if (!same (sumF d.data.toList) (m.sums.getD i fun _ => 0)) = true then 6 else 0 by
    refine ((if_neg (by omega)).trans (if_neg (fun h => h h2))).trans ?_
    show (if same (sumF d.data.toList) (m.sums.getD i fun _ => 0) = true then (0 : Int) else 6) = _
    cases same (sumF d.data.toList) (m.sums.getD i fun _ => 0) <;> rfl)
  have t3 : ((d.size : Int) != (lengthM m (i : Int) : Int)) = false := by rw [h2]; simp
  have t4 : ((d.size : Int) == (lengthM m (i : Int) : Int)) = true := by rw [h2]; simp
  have hl1 := P.l1
  have HFO := Lib.hid (fun (W : World) => show Calls Tryd.prog 33 #[.string d] W fun e w' => e = .returned (.agg (digF (sumF d.data.toList))) ∧ Below W.heap.size W w' from refOf_any d W (by have := P.len; omega))
  clear hl1
  have hn := P.hn
  have x0 : (i : Int) < (m.sums.length : Int) := by omega
  have x1 : 0 ≤ (i : Int) := by omega
  obtain ⟨pb, po, rfl, hpb, hf⟩ := HSI.out.at hi
  have HPB := Lib.hid hpb
  have HF := Lib.hid hf
  generalize sumF d.data.toList = D at *
  generalize (m.sums.getD i fun _ => 0) = f at *
  have HIF := Lib.hid (show (Tryd.prog.info? 23).map (·.size) = some (digF f).toList.length from digRL f)
  have E : ∀ W, (binOp .neq 23 (.agg (digF D)) (.agg (digF f))).run Tryd.prog W = .ok (.bool (!same D f)) W := fun W => run_neq_digR D f W
  generalize (!same D f) = nb at *
  generalize lengthM m (i : Int) = L at *
  clear P h1 h2 hpb hf hn hi HSI
  go_enter Tryd.func17, Tryd.ntmps17
  go_wp2_with (with_reducible refine wpList_load_row rfl 30 _ rfl _ rfl 30 _ (0, 0) _ HA.out.cells Tryd.underlying30 rfl HI.out ?_)
  refine (HN.out _).mono ?_
  rintro e w1 ⟨rfl, b1⟩
  have HA1 := Lib.hid (HA.out.keep b1)
  have HB1 := Lib.hid (HB.out.trans (b1.mono HB.out.size))
  clear b1
  go_wp2_with (fail)
  have HK := Lib.hid (show ∀ W, Below w1.heap.size w1 W → W.cell? ⟨w.heap.size, 4, none⟩ = some (.slice (some ⟨pb, po, none⟩) m.sums.length k) ∧ W.rangeAt pb (po + i * 32) (digF f).toList ∧ Below w.heap.size w W from fun W hW => by
    have hb := HB1.out.trans (hW.mono HB1.out.size)
    exact ⟨(HA1.out.keep hW).sums, fun j u hj => (hb.cell (p := ⟨pb, po + i * 32 + j, none⟩) HPB.out).trans (HF.out j u hj), hb⟩)
  have b0 : Below w1.heap.size w1 w1.drew := below_drewN (Below.refl _ _) 1
  have k0 := HK.out _ b0
  have qi := HIF.out
  have qu := Tryd.underlying23
  go_region_held3 (fun W : World => W.cell? ⟨w.heap.size, 4, none⟩ = some (.slice (some ⟨pb, po, none⟩) m.sums.length k) ∧ W.rangeAt pb (po + i * 32) (digF f).toList ∧ Below w.heap.size w W) (first | exact k0 | assumption)
    (first | (go_at_call 33; (with_reducible refine (HFO.out _).mono ?_); rintro e w3 ⟨rfl, b3⟩; have k3 := HK.out _ (b0.trans (b3.mono b0.size))))
  all_goals
    have HB4 := Lib.hid (HB1.out.trans ((b0.trans (b3.mono b0.size)).mono HB1.out.size))
    clear k0 k3 b0 b3
    cases nb
    all_goals
      go_wp2_with (fail)
      refine bodyPost_ret (results_tmp rfl _ _ _) rfl ?_
      rw [HP.out]
      exact ⟨rfl, HB4.out⟩
end Go.Proofs.YtgdckpldbofgfaaDoor
namespace Go.Proofs.YtgdckpldbofgfaaDoor
open Go.ChangeShapes Go.WideShapes Go.ChangeAt Go.RowKit Sh Pn Mf

namespace Mf
theorem head_need (m : Man) : headB m.b m.v m.s m.c = decide (needM m ≠ 0) := by
  cases h : headB m.b m.v m.s m.c with
  | true =>
    have hgi := headB_iff.1 h
    have h1 := cntN_pos (s := m.s.toNat) (c := m.c.toNat) (by omega) (by omega)
    rw [decide_eq_true]
    unfold needM needN
    rw [if_pos h]
    omega
  | false =>
    rw [decide_eq_false]
    unfold needM needN
    rw [if_neg (by rw [h]; exact Bool.false_ne_true)]
    simp
def isM (b v c : Int) (p : ByteArray) (f : Nat → UInt8) : Bool := decide (needM (headP b v c p f) ≠ 0)
end Mf
set_option maxRecDepth 100000 in
set_option maxHeartbeats 6400000 in
theorem ref20_make (w : World) (b v c : Int) (p : ByteArray) (f : Nat → UInt8) (hp : p.size ≤ 281474976710656) :
    Calls Tryd.prog 24 #[.int .i64 b, .int .i64 v, .int .i64 c, .string p, .agg (digF f)] w fun e w' => ∃ A k, e = .returned (.tuple #[.agg (manA (makM b v c p f).1 A k), .bool (isM b v c p f)]) ∧ SIn w' A k (makM b v c p f).1.sums ∧ Below w.heap.size w w' := by
  have HI := Lib.hid (fun m A k => manI2 m A k)
  have HO := Lib.hid (fun m A k => manA_one m A k)
  have HNE := Lib.hid (fun W => show Calls Tryd.prog 29 #[.agg (manA (headP b v c p f) none 0)] W fun e w' => e = .returned (.bool (isM b v c p f)) ∧ Below W.heap.size W w' from by
    have := ref20_head W (headP b v c p f) none 0
    rw [head_need] at this
    exact this)
  have HIS := Lib.hid (show isM b v c p f = decide (needM (headP b v c p f) ≠ 0) from rfl)
  have HN64 := Lib.hid (need_most (headP b v c p f))
  have HNH := Lib.hid (need_head (m := headP b v c p f))
  have HPM := Lib.hid (show makM b v c p f = if needM (headP b v c p f) = 0 then (zeroM, 1) else ({ headP b v c p f with sums := sumsP p c.toNat (needM (headP b v c p f)) }, 0) from rfl)
  have HHS := Lib.hid (show (headP b v c p f).sums = [] from rfl)
  have HS := Lib.hid (show (headP b v c p f).s = (p.size : Int) ∧ (headP b v c p f).c = c from ⟨rfl, rfl⟩)
  have HBU := Lib.hid (headManR b v p.size c f)
  rw [show (⟨b, v, p.size, c, [], f⟩ : Man) = headP b v c p f from rfl] at HBU
  have HP := Lib.hid hp
  generalize makM b v c p f = pm at *
  generalize isM b v c p f = isb at *
  generalize headP b v c p f = h at *
  generalize needM h = n at *
  have hn64 := HN64.out
  clear hp
  go_enter Tryd.func24, Tryd.ntmps24
  go_upto_region 1 with (fail)
  refine gen_world (fun W => W.heap[w.heap.size]? = some (.cells (digF f) 23 (0, 0)) ∧ At W (w.heap.size + 1) 30 zeroM none 0 ∧ Below w.heap.size w W) ?_ ?_
  · refine ⟨(heap_alloc_old _ _ (by simp)).trans (heap_alloc_new w _), ⟨?_⟩, ((Below.refl _ _).alloc (Nat.le_refl _) _).alloc (by simp) _⟩
    have := heap_alloc_new (w.alloc (.cells (digF f) 23)) (.cells (manA zeroM none 0) 30)
    simp only [World.size_alloc] at this
    exact this
  rintro w1 ⟨x1, a1, b1⟩
  have X1 := Lib.hid x1
  have A1 := Lib.hid a1
  have B1 := Lib.hid b1
  have HNW := Lib.hid (show ∀ o, (w1.alloc o).heap[w1.heap.size]? = some o from fun o => heap_alloc_new w1 o)
  have HXW := Lib.hid (show ∀ c, ((w1.alloc (.cells c 30)).setRow w1.heap.size (manA h none 0)).heap[w1.heap.size]? = some (.cells (manA h none 0) 30 (0, 0)) from fun c => setRow_heap _ _ _ _ _ _ (heap_alloc_new w1 _))
  have HMK := Lib.hid (show ∀ cc, Makes 30 23 w w1.heap.size (w1.heap.size + 1) p c.toNat h 0 none 0 ((w1.alloc (.cells cc 30)).setRow w1.heap.size (manA h none 0)) from fun cc => by
    have hb : Below w1.heap.size w1 ((w1.alloc (.cells cc 30)).setRow w1.heap.size (manA h none 0)) := below_setRow' ((Below.refl _ _).alloc (Nat.le_refl _) _) (Nat.le_refl _) _
    have hs : ((w1.alloc (.cells cc 30)).setRow w1.heap.size (manA h none 0)).heap.size = w1.heap.size + 1 := by simp [World.setRow]
    refine ⟨A1.out.keep hb, ?_, B1.out.trans (hb.mono B1.out.size), A1.out.lt⟩
    have hh : { h with sums := sumsP p c.toNat 0 } = h := by
      cases h
      simp only at HHS
      rw [show sumsP p c.toNat 0 = [] from rfl]
      congr 1
      exact HHS.out.symm
    rw [hh]
    exact grow_new ⟨HXW.out cc⟩ HHS.out _ hs.symm)
  clear x1 a1 b1
  go_wp2_with (first
    | (with_reducible refine wpList_load_row rfl 23 _ rfl _ rfl 23 (digF f) (0, 0) _ X1.out Tryd.underlying23 rfl (hiRD f) ?_)
    | (refine wpList_build_to rfl 30 #[(0, .tmp 14), (1, .tmp 15), (2, .tmp 17), (3, .tmp 18), (5, .tmp 19)] rfl [(0, .int .i64 b), (1, .int .i64 v), (2, .int .i64 p.size), (3, .int .i64 c), (5, .agg (digF f))] rfl _ HBU.out ?_)
    | (with_reducible refine wpList_store_row rfl 30 _ _ rfl _ (manA h none 0) rfl rfl 30 _ (HNW.out _) (HI.out h none 0) (by rw [manA_size]; kernel_rfl) (HO.out h none 0) ?_)
    | (with_reducible refine wpList_load_row rfl 30 _ rfl _ rfl 30 (manA h none 0) (0, 0) _ (HXW.out _) Tryd.underlying30 rfl (HI.out h none 0) ?_))
  refine mf_calls (fun W => Makes 30 23 w w1.heap.size (w1.heap.size + 1) p c.toNat h 0 none 0 W) (HMK.out _) ?_
  rintro w2 m2
  have M2 := Lib.hid m2
  clear m2 HNW HXW HMK X1 A1 B1
  generalize w1.heap.size = mb at *
  refine (HNE.out w2).mono ?_
  rintro e w3 ⟨rfl, b3⟩
  have M3 := Lib.hid (M2.out.step b3)
  clear b3 M2
  have HZB := Lib.hid (fun (W : World) (hb : Below w.heap.size w W) => below_setRow' hb (show w.heap.size ≤ w.heap.size + 1 by omega) (manA zeroM none 0))
  have HSZ := Lib.hid (fun W => show SIn W none 0 zeroM.sums from ⟨Nat.le_refl _, fun h0 => absurd h0 (Nat.lt_irrefl 0)⟩)
  by_cases hn0 : n = 0
  case pos =>
    have hib : isb = false := by rw [HIS.out, hn0]; rfl
    subst hib
    have HPM' := Lib.hid (show pm = (zeroM, 1) from HPM.out.trans (if_pos hn0))
    have HZ0 := Lib.hid M3.out.out.cells
    clear hn0
    go_wp2_with (first
      | (refine wpList_build_to rfl 30 #[] rfl [] rfl _ zeroMan2 ?_)
      | (with_reducible refine wpList_store_row rfl 30 _ _ rfl _ (manA zeroM none 0) rfl rfl 30 _ HZ0.out (HI.out zeroM none 0) rfl (HO.out zeroM none 0) ?_))
    refine bodyPost_ret (mf_res_tmp rfl _ _ _ 30 (manA zeroM none 0) (0, 0) _ rfl (setRow_heap _ _ _ _ _ _ HZ0.out) Tryd.underlying30 rfl (HI.out zeroM none 0)) rfl ?_
    rw [HPM'.out]
    exact ⟨none, 0, rfl, HSZ.out _, HZB.out _ M3.out.below⟩
  have hib : isb = true := by rw [HIS.out, decide_eq_true hn0]
  subst hib
  have HPM' := Lib.hid (show pm = ({ h with sums := sumsP p c.toNat n }, 0) from HPM.out.trans (if_neg hn0))
  obtain ⟨hg, hcn⟩ := HNH.out hn0
  have hgi := headB_iff.1 hg
  have hs := HS.out
  rw [hs.1, hs.2] at hgi hcn
  obtain ⟨cc, hc⟩ : ∃ cc : Nat, c = (cc : Int) := ⟨c.toNat, by omega⟩
  subst hc
  simp only [Int.toNat_natCast] at *
  have HGI := Lib.hid (show p.size ≤ 4096 ∧ 1 ≤ cc ∧ cc ≤ 256 ∧ n = cntN p.size cc from ⟨by omega, by omega, by omega, hcn⟩)
  clear hg hcn hgi hs HNH HNE hn0
  go_wp2_with (fail)
  go_loopw [13] (fun i wr => ∃ (q : Nat) (A : Option Addr) (k : Nat), i = .int .i64 ((q * cc : Nat) : Int) ∧ q ≤ n ∧ Makes 30 23 w mb (mb + 1) p cc h q A k wr) (fun i _ => match i with | .int _ q => 100000 - q.toNat | _ => 0)
  case atStart => exact ⟨0, none, 0, by rw [Nat.zero_mul]; rfl, Nat.zero_le _, M3.out⟩
  case round =>
    clear M3
    obtain ⟨q, A, k, rfl, hq, hr⟩ := hrel
    have HR := Lib.hid hr
    clear hr
    have HMC := Lib.hid HR.out.grow.at_.cells
    obtain ⟨g1, g2, g3, g4⟩ := HGI.out
    have hat := cntN_at (s := p.size) (c := cc) (i := q) g2
    have hqc : q * cc ≤ 64 * 256 := Nat.mul_le_mul (by omega) g3
    by_cases hlt : q < n
    · have hic := hat.1 (by omega)
      have hl2 := lenN_within (s := p.size) (c := cc) (i := q) g2 (by omega)
      have HPE := Lib.hid (piece_extract p cc q)
      have hcut := fun (W : World) => str_cut p (q * cc) (q * cc + lenN p.size cc q) ((q * cc : Nat) : Int) ((q * cc + lenN p.size cc q : Nat) : Int) rfl rfl (by omega) hl2 W
      have hmin := end_min (s := p.size) (c := cc) (i := q) rfl hic
      have hxs : (p.extract (q * cc) (q * cc + lenN p.size cc q)).size < 100000 := by
        rw [ByteArray.size_extract]
        omega
      have hnx : (q + 1) * cc = q * cc + cc := by rw [Nat.add_mul, Nat.one_mul]
      generalize q * cc + lenN p.size cc q = Z at *
      generalize hF : q * cc = F at *
      generalize p.extract F Z = X at *
      have x0 : (F : Int) < (p.size : Int) := by omega
      have x1 : decide ((F : Int) < (p.size : Int)) = true := decide_eq_true x0
      have x2 : decide (F < p.size) = true := decide_eq_true hic
      have x5 : IntKind.i64.wrap ((F : Int) + (cc : Int)) = (F : Int) + (cc : Int) := IntWalk.i64_in _ (by clear hmin; omega)
      have x3 := IntWalk.wrap64_in ((F : Int) + (cc : Int)) (by clear hmin x5; omega)
      have R0 := Lib.hid (HR.out.step (below_drewN (Below.refl wr.heap.size wr) 1))
      have HSL := Lib.hid (fun (W : World) (hh : Makes 30 23 w mb (mb + 1) p cc h q A k W) => show W.cell? ⟨mb, 4, none⟩ = some (.slice A q k) from by
        have := hh.grow.at_.sums
        simp only [sumsP_length] at this
        exact this)
      have k0 := HSL.out _ R0.out
      have HOF := Lib.hid (fun (W : World) => show Calls Tryd.prog 33 #[.string X] W fun e w' => e = .returned (.agg (digF (sumF (pieceL p.data.toList cc q)))) ∧ Below W.heap.size W w' from by
        have := refOf_any X W hxs
        rw [show digV X.data.toList = digF (sumF (pieceL p.data.toList cc q)) by rw [HPE.out]; rfl] at this
        exact this)
      have HAD := Lib.hid (fun (W : World) (hh : Makes 30 23 w mb (mb + 1) p cc h q A k W) (wz : World) (g cap : Nat) hg hb => hh.added (wz := wz) (g := g) (cap := cap) hg hb)
      generalize sumF (pieceL p.data.toList cc q) = D at *
      have HQQ := Lib.hid (show q + 1 ≤ n ∧ (q + 1) * cc = F + cc ∧ 1 ≤ cc ∧ F ≤ 64 * 256 from ⟨hlt, hnx, g2, hqc⟩)
      clear g1 g2 g3 g4 hat hqc hl2 hxs hnx hF hic
      go_wp2_with (fail)
      -- HANDV 0
      refine wp_region_noPanic ?_
      refine wp_region_heldV (S := (fun W : World => W.cell? ⟨mb, 4, none⟩ = some (.slice A q k))) 15 (by kernel_rfl) (by kernel_rfl) (by kernel_rfl) (by kernel_rfl) (by decide) k0 (fun hHeld => ?_)
      refine wpAnyV_take (i := 0) (v := .pointer (some ⟨mb, 4, none⟩)) 32 rfl rfl (by decide) (by kernel_rfl) (by kernel_rfl) (fun _ _ _ h => h) (Or.inl ⟨by rfl, ?_⟩) hHeld ?_
      · intro W hW
        try dsimp only at hW
        go_simp
      simp only [Act.put, List.setIfInBounds_toArray, List.set_cons_succ, List.set_cons_zero]
      refine wpAnyV_take (i := 1) (v := .slice A q k) 33 rfl rfl (by decide) (by kernel_rfl) (by kernel_rfl) (fun _ _ _ h => h) (Or.inl ⟨by rfl, ?_⟩) hHeld ?_
      · intro W hW
        try dsimp only at hW
        go_simp
      simp only [Act.put, List.setIfInBounds_toArray, List.set_cons_succ, List.set_cons_zero]
      refine wpAnyV_take (i := 2) (v := .string p) 34 rfl rfl (by decide) (by kernel_rfl) (by kernel_rfl) (fun _ _ _ h => h) (Or.inl ⟨by rfl, ?_⟩) hHeld ?_
      · intro W hW
        try dsimp only at hW
        go_simp
      simp only [Act.put, List.setIfInBounds_toArray, List.set_cons_succ, List.set_cons_zero]
      refine wpAnyV_take (i := 3) (v := .int .i64 (F : Int)) 35 rfl rfl (by decide) (by kernel_rfl) (by kernel_rfl) (fun _ _ _ h => h) (Or.inl ⟨by rfl, ?_⟩) hHeld ?_
      · intro W hW
        try dsimp only at hW
        go_simp
      simp only [Act.put, List.setIfInBounds_toArray, List.set_cons_succ, List.set_cons_zero]
      refine wpAnyV_take (i := 4) (v := .int .i64 (F : Int)) 36 rfl rfl (by decide) (by kernel_rfl) (by kernel_rfl) (fun _ _ _ h => h) (Or.inl ⟨by rfl, ?_⟩) hHeld ?_
      · intro W hW
        try dsimp only at hW
        go_simp
      simp only [Act.put, List.setIfInBounds_toArray, List.set_cons_succ, List.set_cons_zero]
      refine wpAnyV_take (i := 5) (v := .int .i64 (cc : Int)) 37 rfl rfl (by decide) (by kernel_rfl) (by kernel_rfl) (fun _ _ _ h => h) (Or.inl ⟨by rfl, ?_⟩) hHeld ?_
      · intro W hW
        try dsimp only at hW
        go_simp
      simp only [Act.put, List.setIfInBounds_toArray, List.set_cons_succ, List.set_cons_zero]
      refine wpAnyV_take (i := 6) (v := .int .i64 ((F : Int) + (cc : Int))) 38 rfl rfl (by decide) (by kernel_rfl) (by kernel_rfl) (fun _ _ _ h => h) (Or.inl ⟨by rfl, ?_⟩) hHeld ?_
      · intro W hW
        try dsimp only at hW
        go_simp
      simp only [Act.put, List.setIfInBounds_toArray, List.set_cons_succ, List.set_cons_zero]
      refine wpAnyV_take (i := 7) (v := .string p) 39 rfl rfl (by decide) (by kernel_rfl) (by kernel_rfl) (fun _ _ _ h => h) (Or.inl ⟨by rfl, ?_⟩) hHeld ?_
      · intro W hW
        try dsimp only at hW
        go_simp
      simp only [Act.put, List.setIfInBounds_toArray, List.set_cons_succ, List.set_cons_zero]
      refine wpAnyV_take (i := 8) (v := .int .i64 (p.size : Int)) 40 rfl rfl (by decide) (by kernel_rfl) (by kernel_rfl) (fun _ _ _ h => h) (Or.inl ⟨by rfl, ?_⟩) hHeld ?_
      · intro W hW
        try dsimp only at hW
        go_simp
      simp only [Act.put, List.setIfInBounds_toArray, List.set_cons_succ, List.set_cons_zero]
      refine wpAnyV_take (i := 9) (v := .int .i64 (Z : Int)) 41 rfl rfl (by decide) (by kernel_rfl) (by kernel_rfl) (fun _ _ _ h => h) (Or.inl ⟨by rfl, ?_⟩) hHeld ?_
      · intro W hW
        try dsimp only at hW
        go_simp
      simp only [Act.put, List.setIfInBounds_toArray, List.set_cons_succ, List.set_cons_zero]
      refine wpAnyV_take (i := 10) (v := .string X) 42 rfl rfl (by decide) (by kernel_rfl) (by kernel_rfl) (fun _ _ _ h => h) (Or.inl ⟨by rfl, ?_⟩) hHeld ?_
      · intro W hW
        try dsimp only at hW
        go_simp
      simp only [Act.put, List.setIfInBounds_toArray, List.set_cons_succ, List.set_cons_zero]
      refine wpAnyV_one (i := 11) (by kernel_rfl) rfl (by decide) (fun K hK => ?_)
      go_simp
      refine (HOF.out _).mono ?_
      rintro e w5 ⟨rfl, b5⟩
      have R5 := Lib.hid (R0.out.step b5)
      clear b5
      refine hK.out _ _ (HSL.out _ R5.out) (fun hHeld2 => ?_)
      clear hK K hHeld
      have hHeld := hHeld2
      clear hHeld2
      try simp only [Act.put, List.setIfInBounds_toArray, List.set_cons_succ, List.set_cons_zero]
      refine wpAnyV_one (i := 12) (by kernel_rfl) rfl (by decide) (fun K hK => ?_)
      refine step_buildTo (by rfl) 28 23 1 #[(0, .tmp 43)] (by rfl) Tryd.underlying28 (digF D) (by rw [Array.toList_map]; exact rfOneS _) ?_
      refine hK.out _ _ (HSL.out _ (R5.out.step ((Below.refl w5.heap.size w5).alloc (Nat.le_refl _) (.cells (digF D) 23)))) (fun hHeld2 => ?_)
      clear hK K hHeld
      have hHeld := hHeld2
      clear hHeld2
      try simp only [Act.put, List.setIfInBounds_toArray]
      refine wpAnyV_one (i := 13) (by kernel_rfl) rfl (by decide) (fun K hK => ?_)
      refine step_add (by rfl) (.tmp 33) (.tmp 44) 28 (by rfl) 23 Tryd.underlying28 infoR R5.out.grow D (by simp only [sumsP_length]; rfl) (by rfl) (by simp only [sumsP_length]; omega) ?_
      intro g cap wz hg hat hb7
      simp only [sumsP_length] at hg hat ⊢
      have R7 := Lib.hid (HAD.out _ R5.out _ _ _ hg hb7)
      have c7 := hat.sums
      simp only [sumsP_length] at c7
      have f7 := hat.fz 4
      clear hg hat hb7
      refine hK.out _ _ c7 (fun hHeld2 => ?_)
      clear hK K hHeld
      have hHeld := hHeld2
      clear hHeld2
      try simp only [Act.put]
      refine wpAnyV_take (i := 14) (v := .pointer (some ⟨mb, 4, none⟩)) 46 rfl rfl (by decide) (by kernel_rfl) (by kernel_rfl) (fun _ _ _ h => h) (Or.inl ⟨by rfl, ?_⟩) hHeld ?_
      · intro W hW
        try dsimp only at hW
        go_simp
      simp only [Act.put]
      refine wpAnyV_last (by kernel_rfl) rfl (by kernel_rfl) (fun K hK => ?_)
      go_simp
      refine hK.out _ _ ?_
      refine NoPanic.normal ?_
      -- VDNAH 0
      clear hHeld f7 c7 k0 hcut hmin
      go_wp2_with (fail)
      exact ⟨⟨q + 1, _, _, by rw [HQQ.out.2.1]; first | rfl | (rw [x3]; simp), HQQ.out.1, R7.out⟩, by
        have h9 := HQQ.out
        try rw [x3]
        clear x3 x5 x0
        show 100000 - ((F : Int) + (cc : Int)).toNat < 100000 - (F : Int).toNat
        omega⟩
    · obtain rfl : q = n := by omega
      have hic : ¬ q * cc < p.size := fun hx => by
        have := hat.2 hx
        omega
      generalize q * cc = F at *
      have x0 : ¬ (F : Int) < (p.size : Int) := by omega
      have x1 : decide ((F : Int) < (p.size : Int)) = false := decide_eq_false x0
      have x2 : decide (F < p.size) = false := decide_eq_false hic
      have HZ1 := Lib.hid HR.out.out.cells
      have HSN := Lib.hid (HR.out.sinOut (manA { h with sums := sumsP p cc q } A k))
      clear g1 g2 g3 g4 hat hqc hic
      go_wp2_with (first
        | (with_reducible refine wpList_load_row rfl 30 _ rfl _ rfl 30 (manA { h with sums := sumsP p cc q } A k) (0, 0) _ HMC.out Tryd.underlying30 rfl (HI.out _ A k) ?_)
        | (with_reducible refine wpList_store_row rfl 30 _ _ rfl _ (manA { h with sums := sumsP p cc q } A k) rfl rfl 30 _ HZ1.out (HI.out _ A k) (by rw [manA_size, manA_size]) (HO.out _ A k) ?_))
      refine bodyPost_ret (mf_res_tmp rfl _ _ _ 30 (manA { h with sums := sumsP p cc q } A k) (0, 0) _ rfl (setRow_heap _ _ _ _ _ _ HZ1.out) Tryd.underlying30 rfl (HI.out _ A k)) rfl ?_
      rw [HPM'.out]
      exact ⟨A, k, rfl, HSN.out, below_setRow' HR.out.below (by omega) _⟩
end Go.Proofs.YtgdckpldbofgfaaDoor
