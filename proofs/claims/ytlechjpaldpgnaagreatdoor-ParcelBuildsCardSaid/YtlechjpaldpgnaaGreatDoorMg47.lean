/-
  The reference of layer 21: Build. Condition: the base has 2^30 bytes at most.
  The walk of ParcelBuilds. Condition: both tables of sha lie as the program's text lays them.
-/
import Derived.Test.YtlechjpaldpgnaaGreatDoorMg34
import Derived.Test.YtlechjpaldpgnaaGreatDoorMg31
import Derived.Test.YtlechjpaldpgnaaGreatDoorMg45
import Derived.Test.YtlechjpaldpgnaaGreatDoorMg46
import Derived.Test.YtlechjpaldpgnaaGreatDoorMg33
set_option maxRecDepth 100000
namespace Go.Proofs.YtlechjpaldpgnaaGreatDoor
open Go.ChangeShapes Go.WideShapes Go.ChangeAt Go.RowKit Sh Pn Mf Bt Pc Pt Br Cf

namespace Pc
/-- The bytes that the document's Build answers. -/
def builtB (f : Nat → UInt8) (b p : ByteArray) : ByteArray := if builtE f b p = 0 then (comes b p).1 else ⟨#[]⟩
end Pc
set_option maxRecDepth 100000 in
set_option maxHeartbeats 3200000 in
theorem ref21_build (w : World) (m : Man) (A : Option Addr) (k : Nat) (b p : ByteArray) (hb : b.size ≤ 1073741824) :
    Calls Tryz.prog 23 #[.agg (manA m A k), .string b, .string p] w fun e w' => e = .returned (.tuple #[.string (builtB m.res b p), .int .i64 (builtE m.res b p)]) ∧ Below w.heap.size w w' := by
  have HB0 := Lib.hid ((Below.refl w.heap.size w).alloc (Nat.le_refl _) (.cells (manA m A k) 33))
  have HA0 := Lib.hid (at_new w 33 m A k)
  have HP := Lib.hid (fun W => ref19_parse W p)
  have HM := Lib.hid (show nmOut p 256 ≤ 256 from nm_most p 256)
  have HE1 := Lib.hid (built_err (f := m.res) (b := b) (p := p))
  have HE2 := Lib.hid (built_form (f := m.res) (b := b) (p := p))
  have HE3 := Lib.hid (built_sum (f := m.res) (b := b) (p := p))
  have HCZ := Lib.hid (comes_size b p)
  have HVB := Lib.hid (show builtB m.res b p = if builtE m.res b p = 0 then (comes b p).1 else ⟨#[]⟩ from rfl)
  have HBS := Lib.hid hb
  generalize builtB m.res b p = VB at *
  generalize builtE m.res b p = E at *
  clear hb
  cases hL : parD p with
  | none =>
    have HC := Lib.hid (comes_none (b := b) hL)
    rw [hL] at HP
    have HF := Lib.hid (show E = 5 by have := HE1.out (by rw [HC.out]; decide); rw [this, HC.out])
    clear hL
    go_enter Tryz.func23, Tryz.ntmps23
    go_wp2_with (fail)
    refine (HP.out _).mono ?_
    rintro e w1 ⟨b1, A1, n1, c1, rfl⟩
    have B1 := Lib.hid (HB0.out.trans (b1.mono HB0.out.size))
    clear b1
    go_wp2_with (fail)
    refine bodyPost_ret (results_tmp2 rfl _ _ _) rfl ?_
    rw [HVB.out, HF.out]
    exact ⟨rfl, B1.out⟩
  | some L =>
    have HC := Lib.hid (comes_some (b := b) hL)
    have HN := Lib.hid (show L.length ≤ 1000000 by have := parD_length hL; have := HM.out; omega)
    rw [hL] at HP
    clear hL
    go_enter Tryz.func23, Tryz.ntmps23
    go_wp2_with (fail)
    refine (HP.out _).mono ?_
    rintro e w1 ⟨b1, A1, c1, rfl, hd⟩
    have B1 := Lib.hid (HB0.out.trans (b1.mono HB0.out.size))
    have A1' := Lib.hid (HA0.out.keep b1)
    have HD := Lib.hid hd
    clear b1 hd HA0 HB0 HP
    go_wp2_with (fail)
    refine (ref19_apply w1 b HBS.out A1 L.length c1 L rfl HN.out HD.out).mono ?_
    rintro e w2 ⟨rfl, b2⟩
    have B2 := Lib.hid (B1.out.trans (b2.mono B1.out.size))
    have A2 := Lib.hid (A1'.out.keep b2)
    have hx : (comes b p).1 = ⟨(appD b [] L).1.toArray⟩ := by rw [HC.out]
    have hc2 : (comes b p).2 = (appD b [] L).2 := by rw [HC.out]
    rw [← hx, ← hc2]
    clear b2 A1' B1 HD hx hc2 HC
    generalize (comes b p).2 = c at *
    generalize (comes b p).1 = X at *
    by_cases hc : c = 0
    case neg =>
      have t1 : (c != 0) = true := bne_iff_ne.2 hc
      have HF := Lib.hid (HE1.out hc)
      have HV := Lib.hid (show VB = ⟨#[]⟩ from HVB.out.trans (if_neg (by rw [HF.out]; exact hc)))
      clear hc
      go_wp2_with (fail)
      refine bodyPost_ret (results_tmp2 rfl _ _ _) rfl ?_
      rw [HV.out, HF.out]
      exact ⟨rfl, B2.out⟩
    subst hc
    go_wp2_with (fail)
    refine (ref16_parse w2 X).mono ?_
    rintro e w3 ⟨y, u, rfl, b3⟩
    have B3 := Lib.hid (B2.out.trans (b3.mono B2.out.size))
    have A3 := Lib.hid (A2.out.keep b3)
    clear b3 A2 B2
    go_upto_region 8 with (first
      | (with_reducible refine wpList_store_row rfl 67 _ _ rfl _ (brA y u) rfl rfl 67 _ (heap_alloc_new w3 _) (rmInfo y u) (by kernel_rfl) (rmOne y u) ?_))
    refine gen_world (fun W => At W w.heap.size 33 m A k ∧ Below w.heap.size w W) ?_ ?_
    · have hb : ∀ o c, Below w3.heap.size w3 ((w3.alloc o).setRow w3.heap.size c) := fun o c => below_setRow' ((Below.refl _ _).alloc (Nat.le_refl _) _) (Nat.le_refl _) _
      exact ⟨A3.out.keep (hb _ _), B3.out.trans ((hb _ _).mono B3.out.size)⟩
    rintro w4 ⟨a4, b4⟩
    have A4 := Lib.hid a4
    have B4 := Lib.hid b4
    clear a4 b4 A3 B3
    cases ho : okB X with
    | false =>
      have HF := Lib.hid (HE2.out (by trivial) ho)
      have HV := Lib.hid (show VB = ⟨#[]⟩ from HVB.out.trans (if_neg (by rw [HF.out]; decide)))
      go_wp2_with (fail)
      refine bodyPost_ret (results_tmp2 rfl _ _ _) rfl ?_
      rw [HV.out, HF.out]
      exact ⟨rfl, B4.out⟩
    | true =>
      have HE := Lib.hid (HE3.out (by trivial) ho)
      have HFO := Lib.hid (fun (W : World) => show Calls Tryz.prog 53 #[.string X] W fun e w' => e = .returned (.agg (digF (sumF X.data.toList))) ∧ Below W.heap.size W w' from refOf_any X W (by have := HCZ.out; omega))
      have HIF := Lib.hid (show (Tryz.prog.info? 23).map (·.size) = some (digF m.res).toList.length from digRL m.res)
      generalize sumF X.data.toList = D at *
      have EQ : ∀ W, (binOp .neq 23 (.agg (digF D)) (.agg (digF m.res))).run Tryz.prog W = .ok (.bool (!same D m.res)) W := fun W => run_neq_digR D m.res W
      have HNB := Lib.hid (show E = if (!same D m.res) = true then 6 else 0 by
        rw [HE.out]
        cases same D m.res <;> rfl)
      generalize (!same D m.res) = nb at *
      have HK := Lib.hid (show ∀ W, Below w4.heap.size w4 W → W.rangeAt w.heap.size 5 (digF m.res).toList from fun W hW => (A4.out.keep hW).res)
      clear ho HE1 HE2 HE3 HE
      go_wp2_with (fail)
      have b0 : Below w4.heap.size w4 w4.drew := below_drewN (Below.refl _ _) 1
      have k0 := HK.out _ b0
      have qi := HIF.out
      have qu := Tryz.underlying23
      go_region_held3 (fun W : World => W.rangeAt w.heap.size 5 (digF m.res).toList) (first | exact k0 | assumption)
        (first | (go_at_call 53; (with_reducible refine (HFO.out _).mono ?_); rintro e w5 ⟨rfl, b5⟩; have k5 := HK.out _ (b0.trans (b5.mono b0.size))))
      all_goals
        have B5 := Lib.hid (b0.trans (b5.mono b0.size))
        clear k0 k5 b0 b5
        cases nb
        · have HV := Lib.hid (show VB = X from HVB.out.trans (if_pos HNB.out))
          go_wp2_with (fail)
          refine bodyPost_ret (results_tmp2 rfl _ _ _) rfl ?_
          rw [HV.out, HNB.out]
          exact ⟨rfl, B4.out.trans (B5.out.mono B4.out.size)⟩
        · have HV := Lib.hid (show VB = ⟨#[]⟩ from HVB.out.trans (if_neg (by rw [HNB.out]; decide)))
          go_wp2_with (fail)
          refine bodyPost_ret (results_tmp2 rfl _ _ _) rfl ?_
          rw [HV.out, HNB.out]
          exact ⟨rfl, B4.out.trans (B5.out.mono B4.out.size)⟩
end Go.Proofs.YtlechjpaldpgnaaGreatDoor
namespace Go.Proofs.YtlechjpaldpgnaaGreatDoor.parcelBuilds
open Go.ChangeShapes Go.WideShapes Go.ChangeAt Go.RowKit Sh Pn Mf Bt Pc Br Cf

/-- A manifest of nothing but a result. -/
def m0 (f : Nat → UInt8) : Man := ⟨0, 0, 0, 0, [], f⟩
theorem resMan (f : Nat → UInt8) : Tryz.prog.built 26 [(5, .agg (digF f))] = some (manA (m0 f) none 0) := by kernel_rfl
/-- What stands on the way: the shape that came in, the base, the manifest. -/
structure Bs (w : World) (bb mb : Nat) (tm : TypeId) (x : Cfg) (s : ByteArray) (m : Man) (W : World) : Prop where
  cf : W.heap[w.heap.size]? = some (cfO 60 x)
  br : W.heap[bb]? = some (brO x s)
  man : At W mb tm m none 0
  below : Below w.heap.size w W
theorem Bs.step {w W W' : World} {bb mb : Nat} {tm : TypeId} {x : Cfg} {s : ByteArray} {m : Man} (h : Bs w bb mb tm x s m W) (hb : Below W.heap.size W W') : Bs w bb mb tm x s m W' :=
  ⟨Cf.stays h.cf hb, Br.stays h.br hb, h.man.keep hb, h.below.trans (hb.mono h.below.size)⟩
theorem says_val {w w' : World} {f : Nat → UInt8} {b p : ByteArray} {e : Ending} (h : BuildSays w f b p e w') : ∃ v, e = .returned (.tuple #[v, .int .i64 (builtE f b p)]) ∧ Below w.heap.size w w' ∧
    ((builtE f b p = 0 ∧ okB (comes b p).1 = true ∧ ∃ g, v = .pointer (some ⟨g, 0, none⟩) ∧ w'.heap[g]? = some (brO (shapeT (comes b p).1) (restT (comes b p).1))) ∨ (builtE f b p ≠ 0 ∧ v = .pointer none)) := by
  obtain ⟨hb, ⟨h1, h2, g, h3, _, h5⟩ | ⟨h1, h2⟩⟩ := h
  · exact ⟨_, by rw [h1]; exact h3, hb, .inl ⟨h1, h2, g, rfl, h5⟩⟩
  · exact ⟨_, h2, hb, .inr ⟨h1, rfl⟩⟩
set_option maxRecDepth 100000 in
set_option maxHeartbeats 12800000 in
theorem walk (x : Cfg) (s p : ByteArray) (f : Nat → UInt8) (w : World) (hT : Tabs w) :
    Calls Tryz.prog 4 #[.agg (cfA x), .string s, .string p, .agg (digF f)] w fun e w' => e = .returned (.bool true) ∧ Below w.heap.size w w' := by
  have HT := Lib.hid hT
  have HI := Lib.hid (fun m A k => manI m A k)
  have HIL := Lib.hid (pcIL (m0 f) none 0)
  have HO := Lib.hid (fun m A k => manA_one m A k)
  have HIC := Lib.hid (cfI2 x)
  clear hT
  go_enter Tryz.func4, Tryz.ntmps4
  go_upto_region 1 with (fail)
  refine gen_world (fun W => W.heap[w.heap.size]? = some (cfO 60 x) ∧ W.heap[w.heap.size + 1]? = some (.cells (digF f) 24 (0, 0)) ∧ Below w.heap.size w W) ?_ ?_
  · refine ⟨(heap_alloc_old _ _ (by simp)).trans (heap_alloc_new w _), ?_, ((Below.refl _ _).alloc (Nat.le_refl _) _).alloc (by simp) _⟩
    have := heap_alloc_new (w.alloc (cfO 60 x)) (.cells (digF f) 24)
    simp only [World.size_alloc] at this
    exact this
  rintro w1 ⟨c1, d1, b1⟩
  have C1 := Lib.hid c1
  have D1 := Lib.hid d1
  have B1 := Lib.hid b1
  clear c1 d1 b1
  go_wp2_with (fail)
  refine (awake21 _ (HT.out.below B1.out)).mono ?_
  rintro e w2 ⟨rfl, b2⟩
  have C2 := Lib.hid (Cf.stays C1.out b2)
  have D2 := Lib.hid ((b2.block _ (Array.getElem?_eq_some_iff.1 D1.out).1).trans D1.out)
  have B2 := Lib.hid (B1.out.trans (b2.mono B1.out.size))
  clear b2 C1 D1 B1
  by_cases h1 : 2048 < s.size
  · have t1 : decide (2048 < (s.size : Int)) = true := decide_eq_true (by omega)
    have t2 : decide (2048 < s.size) = true := decide_eq_true h1
    clear h1
    go_wp2_with (fail)
    exact bodyPost_ret (results_tmp rfl _ _ _) rfl ⟨rfl, B2.out⟩
  have t1 : decide (2048 < (s.size : Int)) = false := decide_eq_false (by omega)
  have t2 : decide (2048 < s.size) = false := decide_eq_false h1
  by_cases h2 : 2048 < p.size
  · have t3 : decide (2048 < (p.size : Int)) = true := decide_eq_true (by omega)
    have t4 : decide (2048 < p.size) = true := decide_eq_true h2
    clear h1 h2
    go_wp2_with (fail)
    exact bodyPost_ret (results_tmp rfl _ _ _) rfl ⟨rfl, B2.out⟩
  have t3 : decide (2048 < (p.size : Int)) = false := decide_eq_false (by omega)
  have t4 : decide (2048 < p.size) = false := decide_eq_false h2
  have HS := Lib.hid (show s.size ≤ 2048 by omega)
  have HP := Lib.hid (show p.size ≤ 2048 by omega)
  have HC2 := Lib.hid (show w2.heap[w.heap.size]? = some (.cells (cfA x) 60 (0, 0)) from C2.out)
  clear h1 h2
  by_cases hok : goodZ x = true ∧ (s.size : Int) = totZ x
  case neg =>
    have HF := Lib.hid (show ∀ W, Calls Tryz.prog 21 #[.agg (cfA x), .string s] W fun e w' => ∃ z : Int, e = .returned (.tuple #[.pointer none, .int .i64 z]) ∧ (z != 0) = true ∧ Below W.heap.size W w' from fun W => by
      cases hg : goodZ x with
      | false => exact (brain_of_arg W x s hg).mono fun e w' ⟨he, hb⟩ => ⟨1, he, rfl, hb⟩
      | true => exact (brain_of_form W x s hg (fun h => hok ⟨hg, h⟩)).mono fun e w' ⟨he, hb⟩ => ⟨5, he, rfl, hb⟩)
    clear hok
    go_wp2_with (with_reducible refine wpList_load_row rfl 60 _ rfl _ rfl 60 (cfA x) (0, 0) _ HC2.out Tryz.underlying60 rfl HIC.out ?_)
    refine (HF.out _).mono ?_
    rintro e w3 ⟨z, rfl, tz, b3⟩
    have B3 := Lib.hid (B2.out.trans (b3.mono B2.out.size))
    clear b3
    go_wp2_with (fail)
    exact bodyPost_ret (results_tmp rfl _ _ _) rfl ⟨rfl, B3.out⟩
  have HOK := Lib.hid (show Ok x s from ⟨good_iff.1 hok.1, hok.2⟩)
  clear hok
  go_wp2_with (with_reducible refine wpList_load_row rfl 60 _ rfl _ rfl 60 (cfA x) (0, 0) _ HC2.out Tryz.underlying60 rfl HIC.out ?_)
  refine (brain_of w2 x s HOK.out).mono ?_
  rintro e w3 ⟨bb, rfl, hbb, h3, b3⟩
  have C3 := Lib.hid (Cf.stays C2.out b3)
  have D3 := Lib.hid ((b3.block _ (Array.getElem?_eq_some_iff.1 D2.out).1).trans D2.out)
  have H3 := Lib.hid h3
  have B3 := Lib.hid (B2.out.trans (b3.mono B2.out.size))
  clear b3 hbb h3 C2 D2 B2 HC2
  have HNN := Lib.hid (show ∀ o, (w3.alloc o).heap[w3.heap.size]? = some o from fun o => heap_alloc_new w3 o)
  have HXA := Lib.hid (fun c => at_store (w := w3) (t := 26) (m0 f) none 0 c)
  have HXC := Lib.hid (fun c => (HXA.out c).1.cells)
  go_wp2_with (first
    | (with_reducible refine wpList_load_row rfl 24 _ rfl _ rfl 24 (digF f) (0, 0) _ D3.out Tryz.underlying24 rfl (hiDigF f) ?_)
    | (refine wpList_build_to rfl 26 #[(5, .tmp 38)] rfl [(5, .agg (digF f))] rfl _ (resMan f) ?_)
    | (with_reducible refine wpList_store_row rfl 26 _ _ rfl _ (manA (m0 f) none 0) rfl rfl 26 _ (HNN.out _) (HI.out _ _ _) (by rw [manA_size]; kernel_rfl) (HO.out _ _ _) ?_)
    | (with_reducible refine wpList_load_row rfl 26 _ rfl _ rfl 26 (manA (m0 f) none 0) (0, 0) _ (HXC.out _) Tryz.underlying26 rfl (HI.out _ _ _) ?_))
  refine mf_calls (fun W => Bs w bb w3.heap.size 26 x s (m0 f) W) ⟨Cf.stays C3.out (HXA.out _).2, Br.stays H3.out (HXA.out _).2, (HXA.out _).1, B3.out.trans ((HXA.out _).2.mono B3.out.size)⟩ ?_
  rintro w4 x4
  have X4 := Lib.hid x4
  clear x4 HNN HXA HXC C3 D3 H3 B3
  generalize w3.heap.size = mb at *
  refine (pc_build w4 (m0 f) none 0 bb x s p X4.out.br (by have := HS.out; omega) (by have := HP.out; omega) (HT.out.below X4.out.below)).mono ?_
  intro e w5 hsay
  obtain ⟨v, rfl, b5, hv⟩ := says_val hsay
  have HV := Lib.hid hv
  have X5 := Lib.hid (X4.out.step b5)
  clear hv b5 hsay X4
  rw [show (m0 f).res = f from rfl] at HV ⊢
  have HBL := Lib.hid (show (bytesB x s).size ≤ 1073741824 by rw [bytesB_size]; have := HS.out; omega)
  have HRB := Lib.hid (fun W B c => ref21_build W (m0 f) B c (bytesB x s) p HBL.out)
  have HFM := Lib.hid (fun W => law21_form W (m0 f) none 0 ⟨Nat.le_refl _, fun h0 => absurd h0 (Nat.lt_irrefl 0)⟩ (Nat.zero_le _))
  have HBY := Lib.hid (fun W => ref16_bytes W x s HOK.out.good.is (by have := HS.out; omega))
  have HVB := Lib.hid (show builtB f (bytesB x s) p = if builtE f (bytesB x s) p = 0 then (comes (bytesB x s) p).1 else ⟨#[]⟩ from rfl)
  have HCZ := Lib.hid (comes_size (bytesB x s) p)
  rw [show (m0 f).res = f from rfl] at HRB
  generalize builtB f (bytesB x s) p = VB at *
  generalize builtE f (bytesB x s) p = E at *
  generalize (comes (bytesB x s) p).1 = XX at *
  generalize bytesB x s = BX at *
  have HKS := Lib.hid (show ∀ W, Below w5.heap.size w5 W → W.rangeAt mb 0 (manA (m0 f) none 0).toList ∧ W.cell? ⟨w.heap.size, 0, none⟩ = some (.int .i64 x.v) ∧ W.cell? ⟨w.heap.size, 1, none⟩ = some (.int .i64 x.d) ∧ W.cell? ⟨w.heap.size, 2, none⟩ = some (.int .i64 x.h) ∧ W.cell? ⟨w.heap.size, 3, none⟩ = some (.int .i64 x.b) ∧ W.cell? ⟨w.heap.size, 4, none⟩ = some (.int .i64 x.n) ∧ W.cell? ⟨w.heap.size, 5, none⟩ = some (.int .i64 x.c) from fun W hW => ⟨(X5.out.step hW).man.row, six (X5.out.step hW).cf⟩)
  go_wp2_with (fail)
  have b00 := below_drewN (Below.refl w5.heap.size w5) 1
  have k0 := HKS.out _ b00
  -- HAND
  refine wp_region_noPanic ?_
  refine wp_region_held_drew (S := (fun W : World => W.rangeAt mb 0 (manA (m0 f) none 0).toList ∧ W.cell? ⟨w.heap.size, 0, none⟩ = some (.int .i64 x.v) ∧ W.cell? ⟨w.heap.size, 1, none⟩ = some (.int .i64 x.d) ∧ W.cell? ⟨w.heap.size, 2, none⟩ = some (.int .i64 x.h) ∧ W.cell? ⟨w.heap.size, 3, none⟩ = some (.int .i64 x.b) ∧ W.cell? ⟨w.heap.size, 4, none⟩ = some (.int .i64 x.n) ∧ W.cell? ⟨w.heap.size, 5, none⟩ = some (.int .i64 x.c))) (by kernel_rfl) k0 (fun hHeld => ?_)
  refine wpAnyH_takeAt (i := 0) (v := .agg (manA (m0 f) none 0).toList.toArray) 48 rfl rfl (by kernel_rfl) (by kernel_rfl) (by kernel_rfl) (fun _ _ _ h => h) (yieldsIf_load_mid (by rfl) 26 _ rfl mb (0) rfl (manA (m0 f) none 0).toList _ (fun W hW => hW.1) Tryz.underlying26 rfl HIL.out) hHeld ?_
  simp only [Act.put, List.setIfInBounds_toArray, List.set_cons_succ, List.set_cons_zero]
  refine wpAnyH_takeAt (i := 2) (v := .agg #[.int .i64 x.v, .int .i64 x.d, .int .i64 x.h, .int .i64 x.b, .int .i64 x.n, .int .i64 x.c]) 50 rfl rfl (by kernel_rfl) (by kernel_rfl) (by kernel_rfl) (fun _ _ _ h => h) (Or.inl ⟨by rfl, ?_⟩) hHeld ?_
  · intro W hW
    try dsimp only at hW
    go_simp
  simp only [Act.put, List.setIfInBounds_toArray, List.set_cons_succ, List.set_cons_zero]
  refine wpAnyH_takeAt (i := 3) (v := .string s) 51 rfl rfl (by kernel_rfl) (by kernel_rfl) (by kernel_rfl) (fun _ _ _ h => h) (Or.inl ⟨by rfl, ?_⟩) hHeld ?_
  · intro W hW
    try dsimp only at hW
    go_simp
  simp only [Act.put, List.setIfInBounds_toArray, List.set_cons_succ, List.set_cons_zero]
  refine wpAnyH_takeAt (i := 4) (v := .agg #[.int .i64 x.v, .int .i64 x.d, .int .i64 x.h, .int .i64 x.b, .int .i64 x.n, .int .i64 x.c, .string s]) 52 rfl rfl (by kernel_rfl) (by kernel_rfl) (by kernel_rfl) (fun _ _ _ h => h) (Or.inl ⟨by rfl, ?_⟩) hHeld ?_
  · intro W hW
    try dsimp only at hW
    go_simp
  simp only [Act.put, List.setIfInBounds_toArray, List.set_cons_succ, List.set_cons_zero]
  refine wpAnyH_takeAt (i := 6) (v := .string p) 54 rfl rfl (by kernel_rfl) (by kernel_rfl) (by kernel_rfl) (fun _ _ _ h => h) (Or.inl ⟨by rfl, ?_⟩) hHeld ?_
  · intro W hW
    try dsimp only at hW
    go_simp
  simp only [Act.put, List.setIfInBounds_toArray, List.set_cons_succ, List.set_cons_zero]
  refine wpAnyH_ready (rs := [1]) (by kernel_rfl) (by simp) ?_
  refine AllReadyH.cons rfl (fun K hK => ?_) AllReadyH.nil
  go_simp
  refine (HFM.out _).mono ?_
  rintro e v1 ⟨B, c, rfl, _, bb1⟩
  have hk1 := b00.trans (bb1.mono b00.size)
  clear bb1
  refine hK.out _ _ (HKS.out _ hk1) (fun hHeld2 => ?_)
  clear hK K hHeld
  have hHeld := hHeld2
  clear hHeld2
  try simp only [Act.put, List.setIfInBounds_toArray, List.set_cons_succ, List.set_cons_zero]
  refine wpAnyH_ready (rs := [5]) (by kernel_rfl) (by simp) ?_
  refine AllReadyH.cons rfl (fun K hK => ?_) AllReadyH.nil
  go_simp
  refine (HBY.out _).mono ?_
  rintro e v2 ⟨rfl, bb2⟩
  have hk2 := hk1.trans (bb2.mono hk1.size)
  clear bb2
  refine hK.out _ _ (HKS.out _ hk2) (fun hHeld2 => ?_)
  clear hK K hHeld
  have hHeld := hHeld2
  clear hHeld2
  try simp only [Act.put, List.setIfInBounds_toArray, List.set_cons_succ, List.set_cons_zero]
  refine wpAnyH_ready (rs := [7]) (by kernel_rfl) (by simp) ?_
  refine AllReadyH.cons rfl (fun K hK => ?_) AllReadyH.nil
  go_simp
  refine (HRB.out _ _ _).mono ?_
  rintro e v3 ⟨rfl, bb3⟩
  have hk3 := hk2.trans (bb3.mono hk2.size)
  clear bb3
  refine hK.out _ _ (HKS.out _ hk3) (fun hHeld2 => ?_)
  clear hK K hHeld
  have hHeld := hHeld2
  clear hHeld2
  try simp only [Act.put, List.setIfInBounds_toArray, List.set_cons_succ, List.set_cons_zero]
  refine wpAnyH_takeAt (i := 8) (v := .tuple #[.string VB, .int .i64 E]) 47 rfl rfl (by kernel_rfl) (by kernel_rfl) (by kernel_rfl) (fun _ _ _ h => h) (Or.inl ⟨by rfl, ?_⟩) hHeld ?_
  · intro W hW
    try dsimp only at hW
    go_simp
  simp only [Act.put, List.setIfInBounds_toArray, List.set_cons_succ, List.set_cons_zero]
  refine wpAnyH_takeAt (i := 9) (v := .string VB) 56 rfl rfl (by kernel_rfl) (by kernel_rfl) (by kernel_rfl) (fun _ _ _ h => h) (Or.inl ⟨by rfl, ?_⟩) hHeld ?_
  · intro W hW
    try dsimp only at hW
    go_simp
  simp only [Act.put, List.setIfInBounds_toArray, List.set_cons_succ, List.set_cons_zero]
  refine wpAnyH_takeAt (i := 10) (v := .int .i64 E) 57 rfl rfl (by kernel_rfl) (by kernel_rfl) (by kernel_rfl) (fun _ _ _ h => h) (Or.inl ⟨by rfl, ?_⟩) hHeld ?_
  · intro W hW
    try dsimp only at hW
    go_simp
  simp only [Act.put, List.setIfInBounds_toArray, List.set_cons_succ, List.set_cons_zero]
  refine wpAnyH_takeAt (i := 11) (v := .string VB) 14 rfl rfl (by kernel_rfl) (by kernel_rfl) (by kernel_rfl) (fun _ _ _ h => h) (Or.inl ⟨by rfl, ?_⟩) hHeld ?_
  · intro W hW
    try dsimp only at hW
    go_simp
  simp only [Act.put, List.setIfInBounds_toArray, List.set_cons_succ, List.set_cons_zero]
  refine wpAnyH_takeAt (i := 12) (v := .int .i64 E) 15 rfl rfl (by kernel_rfl) (by kernel_rfl) (by kernel_rfl) (fun _ _ _ h => h) (Or.inl ⟨by rfl, ?_⟩) hHeld ?_
  · intro W hW
    try dsimp only at hW
    go_simp
  simp only [Act.put, List.setIfInBounds_toArray, List.set_cons_succ, List.set_cons_zero]
  refine wpAnyH_done (by kernel_rfl) ?_ _
  refine NoPanic.normal ?_
  -- DNAH
  have X6 := Lib.hid (X5.out.step hk3)
  have HM6 := Lib.hid X6.out.man.cells
  have HK3 := Lib.hid hk3
  clear hk1 hk2 hk3 b00 k0 HKS HFM HBY HRB X5 hHeld
  go_wp2_with (with_reducible refine wpList_load_row rfl 26 _ rfl _ rfl 26 (manA (m0 f) none 0) (0, 0) _ HM6.out Tryz.underlying26 rfl (HI.out _ _ _) ?_)
  refine (pc_build_nil _ (m0 f) none 0 p).mono ?_
  rintro e w7 ⟨rfl, b7⟩
  have X7 := Lib.hid (X6.out.step b7)
  have HK7 := Lib.hid (HK3.out.trans (b7.mono HK3.out.size))
  clear b7 X6 HM6 HK3
  rcases HV.out with ⟨hE, ho, g, hv, hg⟩ | ⟨hE, hv⟩
  · subst hE
    subst hv
    have HBT := Lib.hid (show Calls Tryz.prog 25 #[.pointer (some ⟨g, 0, none⟩)] w7 fun e w' => e = .returned (.string XX) ∧ Below w7.heap.size w7 w' from by
      have := brain_bytes w7 g (shapeT XX) (restT XX) (Br.stays hg HK7.out) (by have := rest_size XX; have := HCZ.out; omega)
      rw [model_bytes ho] at this
      exact this)
    have HVX := Lib.hid (show VB = XX from HVB.out)
    rw [HVX.out]
    clear hg ho HV HVB
    go_wp2_with (fail)
    refine HBT.out.mono ?_
    rintro e w8 ⟨rfl, b8⟩
    have B8 := Lib.hid (X7.out.below.trans (b8.mono X7.out.below.size))
    clear b8
    go_wp2_with (fail)
    exact bodyPost_ret (results_tmp rfl _ _ _) rfl ⟨rfl, B8.out⟩
  · subst hv
    have HVX := Lib.hid (show VB = ⟨#[]⟩ from HVB.out.trans (if_neg hE))
    have tE : (E == 0) = false := beq_eq_false_iff_ne.2 hE
    have HBT := Lib.hid (fun W => show Calls Tryz.prog 25 #[.pointer none] W fun e w' => e = .returned (.string ⟨#[]⟩) ∧ W = w' from brain_bytes_nil W)
    rw [HVX.out]
    clear hE HV HVB
    go_wp2_with (fail)
    refine (HBT.out _).mono ?_
    rintro e w8 ⟨rfl, rfl⟩
    go_wp2_with (fail)
    exact bodyPost_ret (results_tmp rfl _ _ _) rfl ⟨rfl, X7.out.below⟩
end Go.Proofs.YtlechjpaldpgnaaGreatDoor.parcelBuilds
