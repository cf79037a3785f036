/-
  The library's slices.Clone at entries: a row of one's own with the same cells. Condition: at most a thousand entries, which are there.
  Package step: what Run answers. Conditions: a model stands in its block, its weights are as many as its shape asks; the entries and the tokens are there; the tables lie where they are looked up.
  Package step: what Step answers. Conditions: those of Run.
  The law's own comparison of two rows of numbers: whether they are the same. Conditions: the rows' numbers are there.
  Package step: what Same answers, and the library's slices.Equal and EqualFunc on which it stands. Conditions: the rows and entries are there.
-/
import Derived.Test.YtijmjlognekcjaaDoorMg11
import Derived.Test.YtijmjlognekcjaaDoorMg15
import Derived.Test.YtijmjlognekcjaaDoorMg17
import Derived.Test.YtijmjlognekcjaaDoorMg19
import Derived.Test.YtijmjlognekcjaaDoorMg6
import Derived.Deep.AppendLies
import Derived.Lib.LazyBuf
import Derived.Shelf.Abstract
import Derived.BigQuiet
set_option maxRecDepth 100000
namespace Go.Proofs.YtijmjlognekcjaaDoor
open Go.ChangeShapes Go.WideShapes Go.ChangeAt Go.RowKit Nm Cf Vc Br Sp

theorem info_entry' : (Tryd.prog.info? 36).map (fun i => (i.zero, i.size, i.bytes)) = some (some (.agg #[.slice none 0 0, .slice none 0 0]), 2, 48) := by kernel_rfl
set_option maxRecDepth 100000 in
set_option maxHeartbeats 800000 in
theorem clone_ents (w : World) (A : Option Addr) (c : Nat) (Q : List (Er × Ent)) (n : Nat) (hn : Q.length = n) (hm : n ≤ 1000) (h : EsAt w A Q) :
    Calls Tryd.prog 16 #[.slice A n c] w fun e w' => ∃ v, e = .returned v ∧ w'.ownsRow w.heap.size 36 2 v n (eCs Q) ∧ Below w.heap.size w w' := by
  obtain ⟨i0, hi, hz0, hz1, hz2⟩ := info_parts info_entry'
  have HI := Lib.hid hi
  have HZ0 := Lib.hid hz0
  have HZ1 := Lib.hid hz1
  have HZ2 := Lib.hid hz2
  have HLN := Lib.hid (show (eCs Q).length = n * 2 by rw [eCs_length, hn])
  have HM := Lib.hid hm
  have HO1 := Lib.hid (eCs_one Q)
  clear hi hz0 hz1 hz2 hm
  cases A with
  | none =>
    have h0 : n = 0 := Nat.eq_zero_of_not_pos fun h1 => by
      obtain ⟨_, _, e, _⟩ := h (by omega)
      cases e
    have heq : ∀ W : World, (binOp .eql 31 (.slice none n c) (.slice none 0 0)).run Tryd.prog W = .ok (.bool true) W := fun W => run_eql_slice_nil W _ _ none n c Tryd.underlying31
    have HQ := Lib.hid (show n = 0 ∧ eCs Q = [] from ⟨h0, List.length_eq_zero_iff.1 (by rw [HLN.out, h0])⟩)
    clear h h0 hn
    go_enter Tryd.func16, Tryd.ntmps16
    go_wp2_with (fail)
    refine bodyPost_ret (results_tmp rfl _ _ _) rfl ?_
    refine ⟨_, rfl, ?_, Below.refl _ _⟩
    rw [HQ.out.1, HQ.out.2]
    exact World.ownsRow_nil _ _ _ _
  | some a =>
    have hsrc : ∀ j u, (eCs Q)[j]? = some u → (w.alloc (.cells #[] 36)).cell? (a.add j) = some u := fun j u hj => by
      have h1 := (List.getElem?_eq_some_iff.1 hj).1
      obtain ⟨pb, po, e, hc⟩ := h (by rw [eCs_length] at h1; omega)
      injection e with e
      rw [e, Addr.add_lit, World.cell?_alloc_lt _ _ _ (block_lt_of_cell (hc j u hj))]
      exact hc j u hj
    have heq : ∀ W : World, (binOp .eql 31 (.slice (some a) n c) (.slice none 0 0)).run Tryd.prog W = .ok (.bool false) W := fun W => run_eql_slice_nil W _ _ _ _ c Tryd.underlying31
    have HOWN := Lib.hid (show (w.alloc (.cells #[] 36)).ownsRow w.heap.size 36 2 (.slice (some ⟨w.heap.size, 0, none⟩) 0 0) 0 [] from World.ownsRow_made w #[] 0 (Nat.le_refl _) (Nat.zero_le _) rfl)
    have HSRC := Lib.hid hsrc
    clear hsrc h hn
    go_enter Tryd.func16, Tryd.ntmps16
    go_wp2_with (first
      | (with_reducible refine wpList_buildNone rfl 31 36 rfl i0 Tryd.underlying31 HI.out ?_)
      | (at_builtin; refine wpList_append_own _ rfl (.tmp 5) (.tmp 6) 31 rfl w.heap.size 36 i0 _ 2 48 Tryd.underlying31 HI.out HZ0.out HZ1.out HZ2.out rfl (by omega) (.slice (some ⟨w.heap.size, 0, none⟩) 0 0) 0 [] rfl HOWN.out a n c (eCs Q) rfl HLN.out HSRC.out HO1.out (by have := HM.out; unfold maxLen; omega) (by have := HM.out; omega) (by simp) ?_; intro v9 w9 hown9 hg9 hnil))
    rw [Nat.zero_add, List.nil_append] at hown9
    have hb := ((Below.refl w.heap.size w).alloc (Nat.le_refl _) (.cells #[] 36)).grown hg9 (by simp) (fun k hk => by
      have : k = w.heap.size := by simpa [Value.ownBlock] using hk.symm
      omega)
    refine bodyPost_ret (results_tmp rfl _ _ _) rfl ?_
    exact ⟨_, rfl, hown9, hb⟩
end Go.Proofs.YtijmjlognekcjaaDoor
namespace Go.Proofs.YtijmjlognekcjaaDoor
open Go.ChangeShapes Go.WideShapes Go.ChangeAt Go.RowKit Nm Cf Vc Br Nr Sf Ac Sp

namespace Sp
/-- What a run answers that goes well. -/
def RunSays (w : World) (x : Cfg) (s : ByteArray) (P : List Ent) (ts : List Int) (e : Ending) (w' : World) : Prop :=
  ∃ EA ec SA sc R, e = .returned (.tuple #[.slice EA ts.length ec, .slice SA (vN x) sc, .int .i64 0]) ∧ past R = runE x s P ts ∧ EsIn w' EA R ∧ KIn .i64 w' SA (runS x s P ts) ∧ (runS x s P ts).length = vN x ∧ ((∀ q ∈ R, Fr w.heap.size q.1 q.2) ∧ ts.length ≤ ec) ∧ Below w.heap.size w w'
end Sp
section
variable (w : World) (A : Option Addr) (n c : Nat) (Q : List (Er × Ent)) (T : Option Addr) (m d : Nat) (ts : List Int)
set_option maxRecDepth 100000 in
theorem step_run_nil : Calls Tryd.prog 8 #[.pointer none, .slice A n c, .slice T m d] w fun e w' => e = .returned (.tuple #[.slice none 0 0, .slice none 0 0, .int .i64 2]) ∧ Below w.heap.size w w' := by
  go_enter Tryd.func8, Tryd.ntmps8
  go_wp2_with (fail)
  refine (step_check_nil w A n c T m d).mono ?_
  rintro e w1 ⟨rfl, b1⟩
  have HB := Lib.hid b1
  go_wp2_with (fail)
  exact bodyPost_ret (results_tmp3 rfl _ _ _) rfl ⟨rfl, HB.out⟩
variable (b : Nat) (x : Cfg) (s : ByteArray) (h : w.heap[b]? = some (brO x s)) (hk : Ok x s) (hQ : Q.length = n) (hn : n ≤ 1000000) (hA : EsIn w A Q) (hT : ts.length = m) (hm : m ≤ 1000000) (hK : KIn .i64 w T ts)
include h hk hQ hn hA hT hm hK
set_option maxRecDepth 100000 in
theorem step_run_not (he : errR x (past Q) ts ≠ 0) : Calls Tryd.prog 8 #[.pointer (some ⟨b, 0, none⟩), .slice A n c, .slice T m d] w fun e w' => e = .returned (.tuple #[.slice none 0 0, .slice none 0 0, .int .i64 (errR x (past Q) ts)]) ∧ Below w.heap.size w w' := by
  have HC := Lib.hid (step_check w A n c Q T m d ts b x s h hk hQ hn hA hT hm hK)
  generalize errR x (past Q) ts = r at HC he ⊢
  have t0 : (r != 0) = true := bne_iff_ne.2 he
  clear h hk hQ hn hA hT hm hK he
  go_enter Tryd.func8, Tryd.ntmps8
  go_wp2_with (fail)
  refine HC.out.mono ?_
  rintro e w1 ⟨rfl, b1⟩
  have HB := Lib.hid b1
  clear b1
  go_wp2_with (fail)
  exact bodyPost_ret (results_tmp3 rfl _ _ _) rfl ⟨rfl, HB.out⟩
set_option maxRecDepth 100000 in
set_option maxHeartbeats 12800000 in
theorem step_run (he : errR x (past Q) ts = 0) (hp : POn w) (hg : GOn w) : Calls Tryd.prog 8 #[.pointer (some ⟨b, 0, none⟩), .slice A n c, .slice T m d] w (RunSays w x s (past Q) ts) := by
  have HC := Lib.hid (step_check w A n c Q T m d ts b x s h hk hQ hn hA hT hm hK)
  rw [he] at HC
  obtain ⟨hts, hgd, htk, hlen⟩ := errR_ok.1 he
  rw [past_length, hQ, hT] at hlen
  have hgood := hk.good
  obtain ⟨_, _, hbx, _⟩ := dims hgood.is
  have hc32 := hgood.is.c32
  have hm1 : 0 < m := by rw [← hT]; exact List.length_pos_iff.2 hts
  have HL := Lib.hid (show n + m ≤ 32 ∧ 0 < m ∧ (n : Int) + m ≤ x.c by omega)
  have HTK := Lib.hid (fun j (hj : j < m) => show 0 ≤ ts.getD j 0 ∧ ts.getD j 0 < x.v from by
    have := List.all_eq_true.1 htk (ts.getD j 0) (by rw [List.getD_eq_getElem?_getD, List.getElem?_eq_getElem (show j < ts.length by omega)]; exact List.getElem_mem _)
    unfold tokB at this
    simpa using this)
  have HGD := Lib.hid (fun ts' => all_good (s := s) (ts := ts') hgd)
  have HH := Lib.hid h
  have HK := Lib.hid hk
  have HA := Lib.hid hA
  have HKT := Lib.hid hK
  have HQ := Lib.hid hQ
  have HT := Lib.hid hT
  have HPG := Lib.hid (And.intro hp hg)
  have HBX := Lib.hid hbx
  have HCL := Lib.hid (fun W (hW : Below w.heap.size w W) => clone_ents W A c Q n hQ (by have := HL.out.1; omega) (hA.row.below hW))
  clear h hk hQ hn hA hT hm hK he hp hg hts hgd htk hlen hgood hbx hc32 hm1
  go_enter Tryd.func8, Tryd.ntmps8
  go_wp2_with (fail)
  refine HC.out.mono ?_
  rintro e w1 ⟨rfl, b1⟩
  have B1 := Lib.hid b1
  clear b1
  go_wp2_with (fail)
  refine (HCL.out w1 B1.out).mono ?_
  rintro e w2 ⟨v, rfl, hown, b2⟩
  obtain ⟨vA, vc, rfl⟩ : ∃ vA vc, v = .slice vA n vc := by
    rcases hown.2 with ⟨e, h0⟩ | ⟨g, cap, cur, e, _⟩
    · exact ⟨none, 0, by rw [e, h0]⟩
    · exact ⟨_, _, e⟩
  have B2 := Lib.hid b2
  have HOWN := Lib.hid hown
  clear b2 hown HCL HC
  go_wp2_with (fail)
  have hNw : w.heap.size ≤ w1.heap.size := B1.out.size
  have hN2 : w1.heap.size ≤ w2.heap.size := B2.out.size
  have hbl : b < w.heap.size := (Array.getElem?_eq_some_iff.1 HH.out).1
  have HWK := Lib.hid (show Wk w1 w1.heap.size b w2.heap.size x s Q (.slice vA n vc) none 0 [] (w2.alloc (wkO b (.slice vA n vc) none 0 0)) from by
    have hb3 := B2.out.alloc B2.out.size (wkO b (.slice vA n vc) none 0 0)
    refine ⟨Br.stays (Br.stays HH.out B1.out) hb3, by omega, hN2, heap_alloc_new w2 _, ?_, KIn.nil _ _ _, fun q hq => ?_, hb3⟩
    · rw [HQ.out]
      exact own_moved HOWN.out fun k hk => Below.heap_alloc w2 _ k (HOWN.out.lt k hk).2
    · have h1 := ((HA.out.all q hq).new.below (B1.out.trans (hb3.mono hNw)))
      refine h1.mono fun j hj => ⟨by omega, fun e => ?_⟩
      have := (HOWN.out.lt j e).1
      omega)
  have HNW := Lib.hid (And.intro hNw hbl)
  have HPB := Lib.hid (show 0 < w1.heap.size ∧ 1 < w1.heap.size from ⟨Nat.lt_of_lt_of_le HPG.out.1.lt hNw, Nat.lt_of_lt_of_le HPG.out.2.lt hNw⟩)
  have HP1 := Lib.hid (show POn w1 ∧ GOn w1 from ⟨HPG.out.1.below B1.out (Nat.le_refl _), HPG.out.2.below B1.out (Nat.le_refl _)⟩)
  have HKT1 := Lib.hid (HKT.out.below B1.out (Nat.le_refl _))
  generalize hwb : w2.heap.size = wb at HWK ⊢
  have HWK' := Lib.hid HWK.out
  unfold wkO wkA at HWK'
  generalize w2.alloc (.cells #[.pointer (some ⟨b, 0, none⟩), .slice vA n vc, .slice none 0 0] 53 (0, 0)) = w3 at HWK' ⊢
  clear HWK hNw hN2 hbl hwb B2 HOWN HPG HKT HH
  go_loopw [27] (fun i wr => ∃ (j : Nat) (R : List (Er × Ent)) (v : Value) (X : Option Addr) (c : Nat) (z : List Int), i = .int .i64 (j : Int) ∧ j ≤ m ∧ Wk w1 w1.heap.size b wb x s (Q ++ R) v X c z wr ∧ past R = runE x s (past Q) (ts.take j) ∧ (∀ k, j = k + 1 → z = (endT x s (past Q ++ runE x s (past Q) (ts.take k)) (ts.getD k 0)).2.2) ∧ ∀ q ∈ R, Fr w1.heap.size q.1 q.2) (fun i _ => match i with | .int _ k => m - k.toNat | _ => 0)
  case atStart => exact ⟨0, [], _, _, _, _, rfl, Nat.zero_le _, by rw [List.append_nil]; exact HWK'.out, rfl, fun k hk => absurd hk (by omega), fun q hq => by cases hq⟩
  case round =>
    clear HWK'
    obtain ⟨j, R, v, X, c, z, rfl, hj, hw, hr, hz, hfr⟩ := hrel
    have HFR := Lib.hid hfr
    have HWR := Lib.hid hw
    have HR := Lib.hid hr
    have HZ := Lib.hid hz
    have HLR := Lib.hid (show (Q ++ R).length = n + j by
      have h1 : (past R).length = j := by rw [hr, runE_length, List.length_take, HT.out]; omega
      rw [past_length] at h1
      rw [List.length_append, HQ.out, h1])
    clear hw hr hz hfr
    have x2 : 0 ≤ (j : Int) := by omega
    by_cases hlt : j < m
    · have x0 : (j : Int) < (m : Int) := by omega
      have x1 : decide ((j : Int) < (m : Int)) = true := decide_eq_true x0
      have HLT := Lib.hid hlt
      obtain ⟨pb, po, hTe, hcell⟩ := (HKT1.out.below HWR.out.below (Nat.le_refl _)).at (show j < ts.length by rw [HT.out]; exact hlt)
      subst hTe
      have HTJ := Lib.hid (HTK.out j hlt)
      have HPQ := Lib.hid (show past (Q ++ R) = past Q ++ runE x s (past Q) (ts.take j) by rw [past_append, HR.out])
      have HNX := Lib.hid (run_next x s (past Q) (show j < ts.length by rw [HT.out]; exact hlt))
      generalize hz0 : ts.getD j 0 = tok at hcell HTJ HNX
      have HTKJ := Lib.hid hz0
      clear hz0
      go_wp2_with (fail)
      refine (walk_enter w1 wr w1.heap.size b wb x s (Q ++ R) v X c z HWR.out HK.out tok HTJ.out.1 HTJ.out.2 (by rw [HLR.out]; have := HL.out; omega) (by rw [HLR.out]; have := HL.out; omega)).mono ?_
      rintro e w4 ⟨rfl, kb, vb, r, v', X', c', hwp⟩
      have HWP := Lib.hid hwp
      obtain ⟨z0, hz0⟩ : ∃ z0, z0 = startL x s tok (Q ++ R).length := ⟨_, rfl⟩
      rw [← hz0] at HWP
      have HZ0 := Lib.hid (show rowB (dN x) z0 = true by rw [hz0]; exact startL_row x s tok _)
      have HZE := Lib.hid hz0
      have x0' := (three hwp.wk.blk).1
      obtain ⟨e0, e1, e2, e3, e4, e5, e6⟩ := seven hwp.wk.brain
      have HGQ := Lib.hid (goodQ_of HPQ.out (HGD.out (ts.take j)))
      rw [← HBX.out] at e3
      have HF0 := Lib.hid hwp.new
      clear hwp HWR HZ hcell hz0
      go_wp2_with (fail)
      go_loopw [40] (fun i wq => ∃ (k : Nat) (r : Er) (X : Option Addr) (c : Nat), i = .int .i64 (k : Int) ∧ k ≤ bN x ∧ Wp w1 w1.heap.size b wb kb vb x s (Q ++ R) r ⟨ksOf x s (past (Q ++ R)) z0 k, vsOf x s (past (Q ++ R)) z0 k⟩ v' X c (through x s (past (Q ++ R)) z0 k).2.2 wq ∧ Fr w1.heap.size r ⟨ksOf x s (past (Q ++ R)) z0 k, vsOf x s (past (Q ++ R)) z0 k⟩) (fun i _ => match i with | .int _ k => bN x - k.toNat | _ => 0)
      case atStart => exact ⟨0, r, X', c', rfl, Nat.zero_le _, HWP.out, HF0.out⟩
      case round =>
        clear HWP x0' e0 e1 e2 e3 e4 e5 e6
        obtain ⟨k, r2, X2, c2, rfl, hk2, hwq, hf2⟩ := hrel
        have HF2 := Lib.hid hf2
        clear hf2
        have HWQ := Lib.hid hwq
        clear hwq
        have y2 : 0 ≤ (k : Int) := by omega
        by_cases hlk : k < bN x
        · have y0 : (k : Int) < (bN x : Int) := by omega
          have y1 : decide ((k : Int) < (bN x : Int)) = true := decide_eq_true y0
          have HLK := Lib.hid hlk
          have HZL := Lib.hid (rowB_iff.1 (through_row x s (past (Q ++ R)) z0 HZ0.out k)).1
          have hpk : POn _ := HP1.out.1.keep HWQ.out.wk.below HPB.out.1
          have HPK := Lib.hid hpk
          clear hpk
          go_wp2_with (fail)
          refine (walk_attend w1 _ w1.heap.size b wb kb vb x s (Q ++ R) r2 _ v' X2 c2 _ HWQ.out HK.out HPK.out k hlk HZL.out HGQ.out (ks_length x s _ z0 (Nat.le_of_lt hlk)) (vs_length x s _ z0 (Nat.le_of_lt hlk)) (by rw [HLR.out]; have := HL.out; omega) HPB.out.1).mono ?_
          rintro e w5 ⟨rfl, r3, X3, c3, hw5, hf3⟩
          have hf3' := fun hf => hf3 hf
          rw [ks_next x s (past (Q ++ R)) z0 hlk, vs_next x s (past (Q ++ R)) z0 hlk] at hf3'
          have hw5' : Wp w1 w1.heap.size b wb kb vb x s (Q ++ R) r3 ⟨ksOf x s (past (Q ++ R)) z0 (k + 1), vsOf x s (past (Q ++ R)) z0 (k + 1)⟩ v' X3 c3 (midL x s k (kAt (past (Q ++ R)) k) (vAt (past (Q ++ R)) k) (through x s (past (Q ++ R)) z0 k).2.2) w5 := by
            rw [← ks_next x s (past (Q ++ R)) z0 hlk, ← vs_next x s (past (Q ++ R)) z0 hlk]
            exact hw5
          have HW5 := Lib.hid hw5'
          have HF3 := Lib.hid (hf3' HF2.out)
          have HG5 := Lib.hid (HP1.out.2.keep hw5'.wk.below HPB.out.2)
          clear hw5 hw5' hf3 hf3'
          go_wp2_with (fail)
          refine (walk_gate w1 w5 w1.heap.size b wb x s _ v' X3 c3 _ HW5.out.wk HK.out HG5.out k hlk (plusL_length _ _)).mono ?_
          rintro e w6 ⟨rfl, W, A6, c6, hbW, hkW, rfl⟩
          have hw7 := (HW5.out.step hbW).setX (c' := c6) hkW
          have hdl : (downL x s k (midL x s k (kAt (past (Q ++ R)) k) (vAt (past (Q ++ R)) k) (through x s (past (Q ++ R)) z0 k).2.2)).length = dN x := plusL_length _ _
          rw [hdl] at hw7
          have HW7 := Lib.hid hw7
          clear hbW hkW hw7 hdl
          have y3 := IntWalk.wrap64_in ((k : Int) + 1) (by have := HK.out.good.is.b3; have := HBX.out; omega)
          go_wp2_with (fail)
          rw [y3]
          exact ⟨⟨k + 1, r3, A6, c6, rfl, HLK.out, HW7.out, HF3.out⟩, vc_less k _ HLK.out⟩
        · have hke : k = bN x := by omega
          have y0 : ¬ (k : Int) < (bN x : Int) := by omega
          have y1 : decide ((k : Int) < (bN x : Int)) = false := decide_eq_false y0
          rw [hke] at HWQ HF2
          have HEN := Lib.hid (show Wk w1 w1.heap.size b wb x s (Q ++ (R ++ [(r2, entZ x s (past (Q ++ R)) tok)])) v' X2 c2 (endT x s (past (Q ++ R)) tok).2.2 _ from by
            have h1 := HWQ.out.wk
            rw [ks_all, vs_all, HZE.out, List.append_assoc] at h1
            have e : (Q ++ R).length = (past (Q ++ R)).length := (past_length _).symm
            rw [e] at h1
            exact h1)
          have HFE := Lib.hid (show Fr w1.heap.size r2 (entZ x s (past (Q ++ R)) tok) from by
            have h1 := HF2.out
            rw [ks_all, vs_all, HZE.out] at h1
            have e : (Q ++ R).length = (past (Q ++ R)).length := (past_length _).symm
            rw [e] at h1
            exact h1)
          have x3 := IntWalk.wrap64_in ((j : Int) + 1) (by have := HL.out; have := HLT.out; omega)
          clear hke hlk
          go_wp2_with (fail)
          rw [x3]
          refine ⟨⟨j + 1, R ++ [(r2, entZ x s (past (Q ++ R)) tok)], v', X2, c2, _, rfl, HLT.out, HEN.out, ?_, fun k hk => ?_, fun q hq => ?_⟩, vc_less j m HLT.out⟩
          · rw [past_append, HR.out, HPQ.out, take_snoc (by rw [HT.out]; exact HLT.out), runE_append, HTKJ.out]
            rfl
          · have hkj : j = k := Nat.succ.inj hk
            subst hkj
            rw [HPQ.out, HTKJ.out]
          · rcases List.mem_append.1 hq with hq | hq
            · exact HFR.out q hq
            · rw [List.mem_singleton.1 hq]
              exact HFE.out
    · have hke : j = m := by omega
      have x0 : ¬ (j : Int) < (m : Int) := by omega
      have x1 : decide ((j : Int) < (m : Int)) = false := decide_eq_false x0
      rw [hke] at HLR HR HZ
      obtain ⟨k, hmk⟩ : ∃ k, m = k + 1 := ⟨m - 1, by have := HL.out; omega⟩
      have HSC := Lib.hid (show runS x s (past Q) ts = scoresL x s z by
        rw [run_scores x s (past Q) (k := k) (by rw [HT.out]; exact hmk), HZ.out k hmk]
        rfl)
      obtain ⟨g, cap, hve, hcap, hcells⟩ := HWR.out.row (by rw [HLR.out]; have := HL.out; omega)
      subst hve
      rw [HLR.out] at HWR hcap
      have hct := cut_ents g (n + m) cap n m (n : Int) rfl (by omega) (by have := HL.out; omega) (by omega)
      have HE := Lib.hid (show past R = runE x s (past Q) ts by rw [HR.out, ← HT.out, List.take_length])
      have HEI := Lib.hid (fun W (hW : Below _ _ W) => (EsIn.cut hcells HWR.out.ents).below hW)
      rw [HQ.out] at HEI
      have HZL := Lib.hid (show z.length = dN x by
        rw [HZ.out k hmk]
        exact (rowB_iff.1 (through_row x s _ _ (startL_row x s _ _) _)).1)
      have B0 := Lib.hid (below_drewN (Below.refl wr.heap.size wr) 1)
      have HWD := Lib.hid (HWR.out.step B0.out)
      have k0 := (three HWD.out.blk).2.1
      have HCP := Lib.hid (show ts.length ≤ cap - n by rw [HT.out]; omega)
      clear hke hlt hmk hcells hcap HZ
      have HSS := Lib.hid (show Calls Tryd.prog 20 #[.pointer (some ⟨wb, 0, none⟩)] wr.drew fun e w' => ∃ A c, e = .returned (.slice A (vN x) c) ∧ KIn .i64 w' A (runS x s (past Q) ts) ∧ Below wr.drew.heap.size wr.drew w' from by
        have := walk_scores w1 wr.drew w1.heap.size b wb x s _ _ X _ z HWD.out HK.out HZL.out
        unfold RowSays at this
        rw [scoresL_length, ← HSC.out] at this
        exact this)
      have HST := Lib.hid (fun W (hW : Below wr.drew.heap.size wr.drew W) => show W.cell? ⟨wb, 1, none⟩ = some (.slice (some ⟨g, 0, none⟩) (n + m) cap) from (three (HWD.out.step hW).blk).2.1)
      have HRL := Lib.hid (show (runS x s (past Q) ts).length = vN x by rw [HSC.out, scoresL_length])
      have HB1 := Lib.hid (B1.out.trans (HWD.out.below.mono HNW.out.1))
      go_wp2_with (fail)
      go_region_held3 (fun W : World => W.cell? ⟨wb, 1, none⟩ = some (.slice (some ⟨g, 0, none⟩) (n + m) cap)) (first | exact k0 | assumption) (first
        | (go_at_call 20; (with_reducible refine HSS.out.mono ?_); rintro e w9 ⟨SA, sc, rfl, hka, b9⟩; have K9 := Lib.hid hka; have B9 := Lib.hid b9; have k9 := HST.out _ b9; clear hka b9))
      go_wp2_with (fail)
      refine bodyPost_ret (results_tmp3 rfl _ _ _) rfl ?_
      refine ⟨some ⟨g, n * 2, none⟩, cap - n, SA, sc, R, by rw [HT.out]; rfl, HE.out, HEI.out w9 (B0.out.trans (B9.out.mono B0.out.size)), K9.out, HRL.out, ⟨fun q hq => (HFR.out q hq).mono HNW.out.1, HCP.out⟩, HB1.out.trans (B9.out.mono HB1.out.size)⟩
end
end Go.Proofs.YtijmjlognekcjaaDoor
namespace Go.Proofs.YtijmjlognekcjaaDoor
open Go.ChangeShapes Go.WideShapes Go.ChangeAt Go.RowKit Nm Cf Vc Br Nr Sf Ac Sp

theorem results_cell_tmp2 {P : Program} {fn : Func} {p u v : Tmp} {ty : TypeId} (h : fn.results = #[.cell p ty, .tmp u, .tmp v]) (tmps : Array Value) (w : World) (g : Nat) (t : TypeId) (cs : Array Value) (fr : Nat × Nat) (d : TypeDesc)
    (hp : tmps.getD p undef = .pointer (some ⟨g, 0, none⟩)) (hg : w.heap[g]? = some (.cells cs t fr))
    (hu : P.underlying ty = some d) (hd : (match d with | .struct _ | .array _ _ => true | _ => false) = true) (hi : (P.info? ty).map (·.size) = some cs.size) :
    (results fn tmps).run P w = .ok (.tuple #[.agg cs, tmps.getD u undef, tmps.getD v undef]) w := by
  have e : (results fn tmps).run P w = ((asAddr (tmps.getD p undef)).run P w).andThen fun a w₁ => ((loadVar ty a).run P w₁).andThen fun z w₂ => .ok (.tuple #[z, tmps.getD u undef, tmps.getD v undef]) w₂ := by
    simp only [results, h]
    simp [Sem.run_bind, Result.andThen]
  rw [e, hp]
  simp [asAddr, run_loadVar_row w g t ty cs fr d hg hu hd hi]
namespace Sp
def enO (a b : Value) : Obj := .cells #[a, b] 36 (0, 0)
theorem enI (a b : Value) : (Tryd.prog.info? 36).map (·.size) = some (#[a, b] : Array Value).size := by
  show _ = some 2
  kernel_rfl
section
variable {W : World} {b : Nat} {a0 b0 : Value} (h : W.heap[b]? = some (enO a0 b0)) (p q : Value)
include h
theorem en0 : W.cell? ⟨b, 0, none⟩ = some a0 := by rw [cell_of_row _ _ _ _ _ _ h]; rfl
theorem en1 : W.cell? ⟨b, 1, none⟩ = some b0 := by rw [cell_of_row _ _ _ _ _ _ h]; rfl
theorem enFz (i : Nat) : W.frozen? ⟨b, i, none⟩ = false := frozen_of_row W b i _ _ h
theorem set2 : ((W.setCell ⟨b, 0, none⟩ p).setCell ⟨b, 1, none⟩ q).heap[b]? = some (enO p q) := heap_setCell_same _ b 1 _ _ _ (heap_setCell_same W b 0 _ _ _ h)
end
theorem below_set2 {B : Nat} {w0 W : World} (h : Below B w0 W) {b : Nat} (hb : B ≤ b) (p q : Value) : Below B w0 ((W.setCell ⟨b, 0, none⟩ p).setCell ⟨b, 1, none⟩ q) :=
  (h.setCell (p := ⟨b, 0, none⟩) hb p).setCell (p := ⟨b, 1, none⟩) hb q
/-- A made entry's rows don't lie in a variable of no rows. -/
theorem rows_off {x : Cfg} {p : Nat → Prop} {W : World} {g : Nat} {A : Option Addr} {B : Nat → Option Addr} {C : Nat → Nat} {L : List (List Int)} (h : LOn p W A B C L) (hg : W.heap[g]? = some (enO (.slice none 0 0) (.slice none 0 0))) (hL : rowsB (bN x) (dN x) L = true) (hd : 0 < dN x) : LOn (fun j => p j ∧ j ≠ g) W A B C L := by
  have hc : ∀ i, W.cell? ⟨g, i, none⟩ = some (.slice none 0 0) ∨ W.cell? ⟨g, i, none⟩ = none := fun i => by
    rw [cell_of_row _ _ _ _ _ _ hg]
    match i with
    | 0 => exact .inl rfl
    | 1 => exact .inl rfl
    | n + 2 => exact .inr rfl
  refine lon_off h (fun i kd z e => ?_) (fun h0 a ha e => ?_)
  · rcases hc i with h1 | h1 <;> rw [h1] at e <;> cases e
  · obtain ⟨pb, po, rfl, hx⟩ := h.is h0
    injection ha with ha
    rw [← ha] at e
    have e' : pb = g := e
    subst e'
    have h1 := (hx 0 h0).1
    rcases hc (po + 0) with h2 | h2 <;> rw [h2] at h1
    · injection h1 with h1
      injection h1 with _ h1 _
      have h3 := (rowB_iff.1 ((rowsB_iff.1 hL).2 (L.getD 0 []) (by rw [List.getD_eq_getElem?_getD, List.getElem?_eq_getElem h0]; exact List.getElem_mem _))).1
      omega
    · cases h1
/-- What a step answers that goes well. -/
def StepSays (w : World) (x : Cfg) (s : ByteArray) (P : List Ent) (tok : Int) (e : Ending) (w' : World) : Prop :=
  ∃ r SA sc, e = .returned (.tuple #[eV r (entZ x s P tok), .slice SA (vN x) sc, .int .i64 0]) ∧ EOn (fun _ => True) w' r (entZ x s P tok) ∧ KIn .i64 w' SA (scoZ x s P tok) ∧ (scoZ x s P tok).length = vN x ∧ Fr w.heap.size r (entZ x s P tok) ∧ Below w.heap.size w w'
end Sp
section
variable (w : World) (A : Option Addr) (n c : Nat) (Q : List (Er × Ent)) (tok : Int)
set_option maxRecDepth 100000 in
set_option maxHeartbeats 1600000 in
/-- Step, where Run answers an error. -/
theorem step_step_by (bp : Option Addr) (r : Int) (hr : r ≠ 0) (hR : ∀ W T, KIn .i64 W T [tok] → Below w.heap.size w W → Calls Tryd.prog 8 #[.pointer bp, .slice A n c, .slice T 1 1] W fun e w' => e = .returned (.tuple #[.slice none 0 0, .slice none 0 0, .int .i64 r]) ∧ Below W.heap.size W w') :
    Calls Tryd.prog 9 #[.pointer bp, .slice A n c, .int .i64 tok] w fun e w' => e = .returned (.tuple #[.agg #[.slice none 0 0, .slice none 0 0], .slice none 0 0, .int .i64 r]) ∧ Below w.heap.size w w' := by
  have HB0 := Lib.hid ((Below.refl w.heap.size w).alloc (Nat.le_refl _) (enO (.slice none 0 0) (.slice none 0 0)))
  have HN0 := Lib.hid (heap_alloc_new w (enO (.slice none 0 0) (.slice none 0 0)))
  have HB1 := Lib.hid (HB0.out.alloc HB0.out.size (.cells #[.int .i64 tok] 3))
  have HN1 := Lib.hid ((heap_alloc_old _ (.cells #[.int .i64 tok] 3) (Array.getElem?_eq_some_iff.1 HN0.out).1).trans HN0.out)
  have HR := Lib.hid (hR ((w.alloc (enO (.slice none 0 0) (.slice none 0 0))).alloc (.cells #[.int .i64 tok] 3)) (some ⟨w.heap.size + 1, 0, none⟩) (kin1 _ _ tok (by simp)) HB1.out)
  have HI := Lib.hid (enI (.slice none 0 0) (.slice none 0 0))
  have t0 : (r != 0) = true := bne_iff_ne.2 hr
  unfold enO at HR
  clear hR hr
  go_enter Tryd.func9, Tryd.ntmps9
  go_wp2_with (fail)
  refine HR.out.mono ?_
  rintro e w1 ⟨rfl, b1⟩
  have HB2 := Lib.hid (HB1.out.trans (b1.mono HB1.out.size))
  have HN2 := Lib.hid ((b1.block _ (Array.getElem?_eq_some_iff.1 HN1.out).1).trans HN1.out)
  have d0 := en0 HN2.out
  have d1 := en1 HN2.out
  have df := enFz HN2.out
  clear b1
  go_wp2_with (fail)
  refine bodyPost_ret (results_cell_tmp2 rfl _ _ _ 36 _ _ _ rfl (set2 HN2.out (.slice none 0 0) (.slice none 0 0)) Tryd.underlying36 rfl HI.out) rfl ?_
  exact ⟨rfl, below_set2 HB2.out (Nat.le_refl _) _ _⟩
set_option maxRecDepth 100000 in
set_option maxHeartbeats 3200000 in
theorem step_step (b : Nat) (x : Cfg) (s : ByteArray) (h : w.heap[b]? = some (brO x s)) (hk : Ok x s) (hQ : Q.length = n) (hn : n ≤ 1000000) (hA : EsIn w A Q) (he : errZ x (past Q) tok = 0) (hp : POn w) (hg : GOn w) :
    Calls Tryd.prog 9 #[.pointer (some ⟨b, 0, none⟩), .slice A n c, .int .i64 tok] w (StepSays w x s (past Q) tok) := by
  have hb0 := (Below.refl w.heap.size w).alloc (Nat.le_refl _) (enO (.slice none 0 0) (.slice none 0 0))
  have HB0 := Lib.hid hb0
  have HN0 := Lib.hid (heap_alloc_new w (enO (.slice none 0 0) (.slice none 0 0)))
  have HB1 := Lib.hid (HB0.out.alloc HB0.out.size (.cells #[.int .i64 tok] 3))
  have HN1 := Lib.hid ((heap_alloc_old _ (.cells #[.int .i64 tok] 3) (Array.getElem?_eq_some_iff.1 HN0.out).1).trans HN0.out)
  have HR := Lib.hid (step_run ((w.alloc (enO (.slice none 0 0) (.slice none 0 0))).alloc (.cells #[.int .i64 tok] 3)) A n c Q (some ⟨w.heap.size + 1, 0, none⟩) 1 1 [tok] b x s (Br.stays h HB1.out) hk hQ hn (hA.below HB1.out) rfl (by omega) (kin1 _ _ tok (by simp)) (by rw [errR_one]; exact he) (hp.below HB1.out (Nat.le_refl _)) (hg.below HB1.out (Nat.le_refl _)))
  have HDP := Lib.hid (show 0 < dN x by have := hk.good.is.d1; have := (dims hk.good.is).1; omega)
  unfold RunSays enO at HR
  clear h hk hQ hn hA he hp hg hb0
  go_enter Tryd.func9, Tryd.ntmps9
  go_wp2_with (fail)
  refine HR.out.mono ?_
  rintro e w1 ⟨EA, ec, SA, sc, R, rfl, hpR, hEI, hKI, hrl, ⟨hfr, _⟩, b1⟩
  have HB2 := Lib.hid (HB1.out.trans (b1.mono HB1.out.size))
  have HN2 := Lib.hid ((b1.block _ (Array.getElem?_eq_some_iff.1 HN1.out).1).trans HN1.out)
  obtain ⟨r, hr⟩ : ∃ r, R = [(r, entZ x s (past Q) tok)] := by
    match R, hpR with
    | [(r, e)], hpR =>
      have h1 : e = entZ x s (past Q) tok := by
        have := congrArg (fun l => l[0]?) hpR
        exact Option.some.inj this
      exact ⟨r, by rw [h1]⟩
  subst hr
  obtain ⟨pb, po, rfl, hc0, hc1⟩ := hEI.row.cell (i := 0) rfl
  rw [Nat.zero_mul, Nat.add_zero] at hc0
  rw [Nat.zero_mul, Nat.add_zero] at hc1
  have HEI := Lib.hid (hEI.all _ (List.mem_singleton.2 rfl))
  have HFR := Lib.hid ((hfr _ (List.mem_singleton.2 rfl)).mono HB1.out.size)
  have HKI := Lib.hid hKI
  have HRL := Lib.hid hrl
  have d0 := en0 HN2.out
  have d1 := en1 HN2.out
  have df := enFz HN2.out
  have HS : runS x s (past Q) [tok] = scoZ x s (past Q) tok := rfl
  have HEQ := Lib.hid HS
  have HX := Lib.hid (show eV r (entZ x s (past Q) tok) = .agg #[.slice r.kA (entZ x s (past Q) tok).ks.length r.kc, .slice r.vA (entZ x s (past Q) tok).vs.length r.vc] from rfl)
  have hge := goodE_iff.1 (entZ_good x s (past Q) tok)
  have hee := hEI.all _ (List.mem_singleton.2 rfl)
  have HEO := Lib.hid (show EOn (fun j => True ∧ j ≠ w.heap.size) w1 r (entZ x s (past Q) tok) from ⟨rows_off hee.k HN2.out hge.1 HDP.out, rows_off hee.v HN2.out hge.2 HDP.out⟩)
  clear b1 hpR hEI hKI hrl hfr HS hge hee
  dsimp only at hc0 hc1
  go_wp2_with (fail)
  refine bodyPost_ret (results_cell_tmp2 rfl _ _ _ 36 _ _ _ rfl (set2 HN2.out _ _) Tryd.underlying36 rfl (enI _ _)) rfl ?_
  have ho : ∀ j, True ∧ j ≠ w.heap.size → ((w1.setCell ⟨w.heap.size, 0, none⟩ (.slice r.kA (entZ x s (past Q) tok).ks.length r.kc)).setCell ⟨w.heap.size, 1, none⟩ (.slice r.vA (entZ x s (past Q) tok).vs.length r.vc)).heap[j]? = w1.heap[j]? := fun j hj =>
    (heap_setCell_other _ ⟨w.heap.size, 1, none⟩ j _ hj.2).trans (heap_setCell_other _ ⟨w.heap.size, 0, none⟩ j _ hj.2)
  refine ⟨r, SA, sc, by rw [HX.out]; rfl, (HEO.out.moved ho).mono fun _ _ => trivial, ?_, HRL.out, HFR.out, below_set2 HB2.out (Nat.le_refl _) _ _⟩
  exact KIn.moved HKI.out ((off (fun i kd z e => by
    rw [cell_of_row _ _ _ _ _ _ HN2.out] at e
    match i with
    | 0 => cases e
    | 1 => cases e
    | n + 2 => cases e) HKI.out).mono fun j hj => (show True ∧ j ≠ w.heap.size from ⟨trivial, hj⟩)) ho
end
end Go.Proofs.YtijmjlognekcjaaDoor
namespace Go.Proofs.YtijmjlognekcjaaDoor
open Go.ChangeShapes Go.WideShapes Go.ChangeAt Go.RowKit Vc

namespace Vc
theorem vcLess (a b : Nat) (h : a < b) : b - ((a : Int) + 1).toNat < b - (a : Int).toNat := by omega
theorem rows_same {zs us : List Int} (hl : zs.length = us.length) (h : ∀ i, i < zs.length → zs.getD i 0 = us.getD i 0) : zs = us := by
  apply List.ext_getElem hl
  intro i h1 h2
  have := h i h1
  rwa [List.getD_eq_getElem?_getD, List.getElem?_eq_getElem h1, List.getD_eq_getElem?_getD, List.getElem?_eq_getElem h2] at this
end Vc
section
variable (w : World) (A : Option Addr) (n c : Nat) (B : Option Addr) (m c' : Nat) (zs us : List Int)
set_option maxRecDepth 100000 in
set_option maxHeartbeats 800000 in
theorem ints_any (hz : zs.length = n) (hu : us.length = m) (hm : n ≤ 1000000) (hA : KIn .i64 w A zs) (hB : KIn .i64 w B us) :
    Calls Tryd.prog 11 #[.slice A n c, .slice B m c'] w fun e w' => e = .returned (.bool (decide (zs = us))) ∧ ∃ k, w' = w.drewN k := by
  have HA := Lib.hid hA
  have HB := Lib.hid hB
  have HZ := Lib.hid hz
  have HU := Lib.hid hu
  clear hA hB hz hu
  by_cases hnm : n = m
  · subst hnm
    have HL := Lib.hid (show zs.length = us.length from HZ.out.trans HU.out.symm)
    have t1 : ((n : Int) == (n : Int)) = true := beq_self_eq_true _
    go_enter Tryd.func11, Tryd.ntmps11
    go_wp2_with (fail)
    go_loopw [5] (fun i wr => ∃ j d : Nat, i = .int .i64 (j : Int) ∧ j ≤ n ∧ (∀ k, k < j → zs.getD k 0 = us.getD k 0) ∧ wr = w.drewN d) (fun i _ => match i with | .int _ k => n - k.toNat | _ => 0)
    case atStart => exact ⟨0, 0, rfl, Nat.zero_le _, fun k hk => absurd hk (Nat.not_lt_zero k), rfl⟩
    case round =>
      obtain ⟨j, d, rfl, hj, he, rfl⟩ := hrel
      have HE := Lib.hid he
      clear he
      have x2 : 0 ≤ (j : Int) := by omega
      by_cases hlt : j < n
      · have x0 : (j : Int) < (n : Int) := by omega
        have x1 : decide ((j : Int) < (n : Int)) = true := decide_eq_true x0
        have HJ := Lib.hid (show j + 1 ≤ n by omega)
        obtain ⟨pa, oa, rfl, hc1⟩ := HA.out.at (show j < zs.length by rw [HZ.out]; exact hlt)
        obtain ⟨pb, ob, rfl, hc2⟩ := HB.out.at (show j < us.length by rw [HU.out]; exact hlt)
        by_cases hzu : zs.getD j 0 = us.getD j 0
        · have HE2 := Lib.hid (show ∀ k, k < j + 1 → zs.getD k 0 = us.getD k 0 from fun k hk => by
            by_cases hkj : k = j
            · rw [hkj]; exact hzu
            · exact HE.out k (by omega))
          rw [← hzu] at hc2
          clear hzu
          generalize zs.getD j 0 = z at hc1 hc2
          have t2 : (z == z) = true := beq_self_eq_true _
          have x3 := IntWalk.wrap64_in ((j : Int) + 1) (by omega)
          go_wp2_with (fail)
          go_quiet (fail)
          go_wp2_with (fail)
          exact ⟨⟨j + 1, _, rfl, HJ.out, HE2.out, rfl⟩, vcLess j n hlt⟩
        · have HN := Lib.hid (show decide (zs = us) = false from decide_eq_false fun e => hzu (by rw [e]))
          generalize zs.getD j 0 = z at hc1 hzu
          generalize us.getD j 0 = u at hc2 hzu
          have t2 : (z == u) = false := beq_eq_false_iff_ne.2 hzu
          clear hzu
          go_wp2_with (fail)
          go_quiet (fail)
          go_wp2_with (fail)
          refine bodyPost_ret (results_tmp rfl _ _ _) rfl ?_
          rw [HN.out]
          exact ⟨rfl, _, World.drewN_drewN ..⟩
      · have hke : j = n := by omega
        have x0 : ¬ (j : Int) < (n : Int) := by omega
        have x1 : decide ((j : Int) < (n : Int)) = false := decide_eq_false x0
        have HN := Lib.hid (show decide (zs = us) = true from decide_eq_true (rows_same HL.out fun i hi => HE.out i (by have := HZ.out; omega)))
        go_wp2_with (fail)
        refine bodyPost_ret (results_tmp rfl _ _ _) rfl ?_
        rw [HN.out]
        exact ⟨rfl, d, rfl⟩
  · have HN := Lib.hid (show decide (zs = us) = false from decide_eq_false fun e => hnm (by rw [← HZ.out, ← HU.out, e]))
    have t1 : ((n : Int) == (m : Int)) = false := beq_eq_false_iff_ne.2 (by omega)
    clear hnm
    go_enter Tryd.func11, Tryd.ntmps11
    go_wp2_with (fail)
    refine bodyPost_ret (results_tmp rfl _ _ _) rfl ?_
    rw [HN.out]
    exact ⟨rfl, 0, rfl⟩
end
end Go.Proofs.YtijmjlognekcjaaDoor
namespace Go.Proofs.YtijmjlognekcjaaDoor
open Go.ChangeShapes Go.WideShapes Go.ChangeAt Go.RowKit Nm Cf Vc Br Sp

section
variable (w : World) (A : Option Addr) (n c : Nat) (B : Option Addr) (m c' : Nat) (zs us : List Int)
set_option maxRecDepth 100000 in
set_option maxHeartbeats 800000 in
theorem equal_any (hz : zs.length = n) (hu : us.length = m) (hm : n ≤ 4611686018427387904) (hA : KIn .i64 w A zs) (hB : KIn .i64 w B us) :
    Calls Tryd.prog 22 #[.slice A n c, .slice B m c'] w fun e w' => e = .returned (.bool (decide (zs = us))) ∧ ∃ k, w' = w.drewN k := by
  have HA := Lib.hid hA
  have HB := Lib.hid hB
  have HZ := Lib.hid hz
  have HU := Lib.hid hu
  clear hA hB hz hu
  by_cases hnm : n = m
  · subst hnm
    have HL := Lib.hid (show zs.length = us.length from HZ.out.trans HU.out.symm)
    have t1 : ((n : Int) == (n : Int)) = true := beq_self_eq_true _
    go_enter Tryd.func22, Tryd.ntmps22
    go_wp2_with (fail)
    go_loopw [13] (fun i wr => ∃ j d : Nat, i = .int .i64 (j : Int) ∧ j ≤ n ∧ (∀ k, k < j → zs.getD k 0 = us.getD k 0) ∧ wr = w.drewN d) (fun i _ => match i with | .int _ k => n - k.toNat | _ => 0)
    case atStart => exact ⟨0, 0, rfl, Nat.zero_le _, fun k hk => absurd hk (Nat.not_lt_zero k), rfl⟩
    case round =>
      obtain ⟨j, d, rfl, hj, he, rfl⟩ := hrel
      have HE := Lib.hid he
      clear he
      have x2 : 0 ≤ (j : Int) := by omega
      by_cases hlt : j < n
      · have x0 : (j : Int) < (n : Int) := by omega
        have x1 : decide ((j : Int) < (n : Int)) = true := decide_eq_true x0
        have HJ := Lib.hid (show j + 1 ≤ n by omega)
        obtain ⟨pa, oa, rfl, hc1⟩ := HA.out.at (show j < zs.length by rw [HZ.out]; exact hlt)
        obtain ⟨pb, ob, rfl, hc2⟩ := HB.out.at (show j < us.length by rw [HU.out]; exact hlt)
        by_cases hzu : zs.getD j 0 = us.getD j 0
        · have HE2 := Lib.hid (show ∀ k, k < j + 1 → zs.getD k 0 = us.getD k 0 from fun k hk => by
            by_cases hkj : k = j
            · rw [hkj]; exact hzu
            · exact HE.out k (by omega))
          rw [← hzu] at hc2
          clear hzu
          generalize zs.getD j 0 = z at hc1 hc2
          have t2 : (z == z) = true := beq_self_eq_true _
          have x3 := IntWalk.wrap64_in ((j : Int) + 1) (by omega)
          go_wp2_with (fail)
          go_quiet (fail)
          go_wp2_with (fail)
          exact ⟨⟨j + 1, _, rfl, HJ.out, HE2.out, rfl⟩, vcLess j n hlt⟩
        · have HN := Lib.hid (show decide (zs = us) = false from decide_eq_false fun e => hzu (by rw [e]))
          generalize zs.getD j 0 = z at hc1 hzu
          generalize us.getD j 0 = u at hc2 hzu
          have t2 : (z == u) = false := beq_eq_false_iff_ne.2 hzu
          clear hzu
          go_wp2_with (fail)
          go_quiet (fail)
          go_wp2_with (fail)
          refine bodyPost_ret (results_tmp rfl _ _ _) rfl ?_
          rw [HN.out]
          exact ⟨rfl, _, World.drewN_drewN ..⟩
      · have hke : j = n := by omega
        have x0 : ¬ (j : Int) < (n : Int) := by omega
        have x1 : decide ((j : Int) < (n : Int)) = false := decide_eq_false x0
        have HN := Lib.hid (show decide (zs = us) = true from decide_eq_true (rows_same HL.out fun i hi => HE.out i (by have := HZ.out; omega)))
        go_wp2_with (fail)
        refine bodyPost_ret (results_tmp rfl _ _ _) rfl ?_
        rw [HN.out]
        exact ⟨rfl, d, rfl⟩
  · have HN := Lib.hid (show decide (zs = us) = false from decide_eq_false fun e => hnm (by rw [← HZ.out, ← HU.out, e]))
    have t1 : ((n : Int) == (m : Int)) = false := beq_eq_false_iff_ne.2 (by omega)
    clear hnm
    go_enter Tryd.func22, Tryd.ntmps22
    go_wp2_with (fail)
    refine bodyPost_ret (results_tmp rfl _ _ _) rfl ?_
    rw [HN.out]
    exact ⟨rfl, 0, rfl⟩
end
theorem eg_equal : ∀ args w, (callFunc 22 args).run Tryd.prog w = .ok (.enter 22 args) w := Go.Proofs.enters_of Tryd.func22 (by kernel_rfl) rfl
namespace Sp
theorem lists_same {L M : List (List Int)} (hl : L.length = M.length) (h : ∀ i, i < L.length → L.getD i [] = M.getD i []) : L = M := by
  apply List.ext_getElem hl
  intro i h1 h2
  have := h i h1
  rwa [List.getD_eq_getElem?_getD, List.getElem?_eq_getElem h1, List.getD_eq_getElem?_getD, List.getElem?_eq_getElem h2] at this
end Sp
set_option maxRecDepth 100000 in
set_option maxHeartbeats 1600000 in
theorem eqfunc_any (w : World) (A : Option Addr) (n c : Nat) (B : Nat → Option Addr) (C : Nat → Nat) (L : List (List Int)) (A' : Option Addr) (m c' : Nat) (B' : Nat → Option Addr) (C' : Nat → Nat) (M : List (List Int))
    (hL : L.length = n) (hM : M.length = m) (hm : n ≤ 1000000) (hlen : ∀ i, i < n → (L.getD i []).length ≤ 4611686018427387904) (hA : LIn w A B C L) (hB : LIn w A' B' C' M) :
    Calls Tryd.prog 21 #[.slice A n c, .slice A' m c', .func (.func 22) #[] #[]] w fun e w' => e = .returned (.bool (decide (L = M))) ∧ Below w.heap.size w w' := by
  have HA := Lib.hid hA
  have HB := Lib.hid hB
  have HZ := Lib.hid hL
  have HU := Lib.hid hM
  have HLEN := Lib.hid hlen
  have eg := eg_equal
  clear hA hB hL hM hlen
  by_cases hnm : n = m
  · subst hnm
    have HL := Lib.hid (show L.length = M.length from HZ.out.trans HU.out.symm)
    have t1 : ((n : Int) == (n : Int)) = true := beq_self_eq_true _
    have t1' : ((n : Int) != (n : Int)) = false := by simp
    go_enter Tryd.func21, Tryd.ntmps21
    go_wp2_with (fail)
    go_loopw [17] (fun i wr => ∃ j d : Nat, i = .int .i64 (j : Int) ∧ j ≤ n ∧ (∀ k, k < j → L.getD k [] = M.getD k []) ∧ wr = w.drewN d) (fun i _ => match i with | .int _ k => n - k.toNat | _ => 0)
    case atStart => exact ⟨0, 0, rfl, Nat.zero_le _, fun k hk => absurd hk (Nat.not_lt_zero k), rfl⟩
    case round =>
      obtain ⟨j, d, rfl, hj, he, rfl⟩ := hrel
      have HE := Lib.hid he
      clear he
      have x2 : 0 ≤ (j : Int) := by omega
      by_cases hlt : j < n
      · have x0 : (j : Int) < (n : Int) := by omega
        have x1 : decide ((j : Int) < (n : Int)) = true := decide_eq_true x0
        have HJ := Lib.hid hlt
        obtain ⟨pa, oa, rfl, hc1, hk1⟩ := HA.out.at (show j < L.length by rw [HZ.out]; exact hlt)
        obtain ⟨pb, ob, rfl, hc2, hk2⟩ := HB.out.at (show j < M.length by rw [HU.out]; exact hlt)
        have HC := Lib.hid (equal_any (w.drewN d) (B j) _ (C j) (B' j) _ (C' j) (L.getD j []) (M.getD j []) rfl rfl (HLEN.out j hlt) hk1 hk2)
        clear hk1 hk2
        have x3 := IntWalk.wrap64_in ((j : Int) + 1) (by omega)
        by_cases hzu : L.getD j [] = M.getD j []
        · have HE2 := Lib.hid (show ∀ k, k < j + 1 → L.getD k [] = M.getD k [] from fun k hk => by
            by_cases hkj : k = j
            · rw [hkj]; exact hzu
            · exact HE.out k (by omega))
          rw [decide_eq_true hzu] at HC
          clear hzu
          generalize (L.getD j []).length = l1 at hc1 HC
          generalize (M.getD j []).length = l2 at hc2 HC
          generalize B j = b1 at hc1 HC
          generalize C j = q1 at hc1 HC
          generalize B' j = b2 at hc2 HC
          generalize C' j = q2 at hc2 HC
          go_wp2_with (go_at_fn 22; refine HC.out.mono ?_; rintro e w2 ⟨rfl, k2, rfl⟩)
          exact ⟨⟨j + 1, d + k2, rfl, HJ.out, HE2.out, rfl⟩, vcLess j n HJ.out⟩
        · have HN := Lib.hid (show decide (L = M) = false from decide_eq_false fun e => hzu (by rw [e]))
          rw [decide_eq_false hzu] at HC
          clear hzu
          generalize (L.getD j []).length = l1 at hc1 HC
          generalize (M.getD j []).length = l2 at hc2 HC
          generalize B j = b1 at hc1 HC
          generalize C j = q1 at hc1 HC
          generalize B' j = b2 at hc2 HC
          generalize C' j = q2 at hc2 HC
          go_wp2_with (go_at_fn 22; refine HC.out.mono ?_; rintro e w2 ⟨rfl, k2, rfl⟩)
          refine bodyPost_ret (results_tmp rfl _ _ _) rfl ?_
          rw [HN.out]
          exact ⟨rfl, below_drewN (Below.refl _ _) _⟩
      · have hke : j = n := by omega
        have x0 : ¬ (j : Int) < (n : Int) := by omega
        have x1 : decide ((j : Int) < (n : Int)) = false := decide_eq_false x0
        have HN := Lib.hid (show decide (L = M) = true from decide_eq_true (lists_same HL.out fun i hi => HE.out i (by have := HZ.out; omega)))
        go_wp2_with (fail)
        refine bodyPost_ret (results_tmp rfl _ _ _) rfl ?_
        rw [HN.out]
        exact ⟨rfl, below_drewN (Below.refl _ _) _⟩
  · have HN := Lib.hid (show decide (L = M) = false from decide_eq_false fun e => hnm (by rw [← HZ.out, ← HU.out, e]))
    have t1 : ((n : Int) == (m : Int)) = false := beq_eq_false_iff_ne.2 (by omega)
    clear hnm
    go_enter Tryd.func21, Tryd.ntmps21
    go_wp2_with (fail)
    refine bodyPost_ret (results_tmp rfl _ _ _) rfl ?_
    rw [HN.out]
    exact ⟨rfl, Below.refl _ _⟩
namespace Sp
def sameE (e f : Ent) : Bool := decide (e.ks = f.ks) && decide (e.vs = f.vs)
theorem sameE_self (e : Ent) : sameE e e = true := by unfold sameE; simp
/-- Rows that can be told. -/
structure EntFit (e : Ent) : Prop where
  k : e.ks.length ≤ 1000000
  v : e.vs.length ≤ 1000000
  ks : ∀ i, i < e.ks.length → (e.ks.getD i []).length ≤ 4611686018427387904
  vs : ∀ i, i < e.vs.length → (e.vs.getD i []).length ≤ 4611686018427387904
end Sp
set_option maxRecDepth 100000 in
set_option maxHeartbeats 1600000 in
theorem step_same (w : World) (r : Er) (e : Ent) (r' : Er) (e' : Ent) (he : EOn (fun _ => True) w r e) (he' : EOn (fun _ => True) w r' e') (ht : EntFit e) :
    Calls Tryd.prog 10 #[eV r e, eV r' e'] w fun z w' => z = .returned (.bool (sameE e e')) ∧ Below w.heap.size w w' := by
  have HK := Lib.hid (fun W (hW : Below w.heap.size w W) => eqfunc_any W r.kA e.ks.length r.kc r.kB r.kC e.ks r'.kA e'.ks.length r'.kc r'.kB r'.kC e'.ks rfl rfl ht.k ht.ks (he.k.is.below hW (Nat.le_refl _)) (he'.k.is.below hW (Nat.le_refl _)))
  have HV := Lib.hid (fun W (hW : Below w.heap.size w W) => eqfunc_any W r.vA e.vs.length r.vc r.vB r.vC e.vs r'.vA e'.vs.length r'.vc r'.vB r'.vC e'.vs rfl rfl ht.v ht.vs (he.v.is.below hW (Nat.le_refl _)) (he'.v.is.below hW (Nat.le_refl _)))
  unfold sameE eV
  generalize decide (e.ks = e'.ks) = k1 at HK ⊢
  generalize decide (e.vs = e'.vs) = k2 at HV ⊢
  generalize e.ks.length = n1 at *
  generalize e.vs.length = n2 at *
  generalize e'.ks.length = n3 at *
  generalize e'.vs.length = n4 at *
  generalize r.kA = A1 at *
  generalize r.kc = q1 at *
  generalize r.vA = A2 at *
  generalize r.vc = q2 at *
  generalize r'.kA = A3 at *
  generalize r'.kc = q3 at *
  generalize r'.vA = A4 at *
  generalize r'.vc = q4 at *
  have hb1 := (Below.refl w.heap.size w).alloc (Nat.le_refl _) (.cells #[.slice A1 n1 q1, .slice A2 n2 q2] 36 (0, 0))
  have hn1 := heap_alloc_new w (.cells #[.slice A1 n1 q1, .slice A2 n2 q2] 36 (0, 0))
  have hb2 := hb1.alloc hb1.size (.cells #[.slice A3 n3 q3, .slice A4 n4 q4] 36 (0, 0))
  have hn1' := (heap_alloc_old _ (.cells #[.slice A3 n3 q3, .slice A4 n4 q4] 36 (0, 0)) (Array.getElem?_eq_some_iff.1 hn1).1).trans hn1
  have hn2 := heap_alloc_new (w.alloc (.cells #[.slice A1 n1 q1, .slice A2 n2 q2] 36 (0, 0))) (.cells #[.slice A3 n3 q3, .slice A4 n4 q4] 36 (0, 0))
  rw [World.size_alloc] at hn2
  have HB2 := Lib.hid hb2
  have HN1 := Lib.hid hn1'
  have HN2 := Lib.hid hn2
  have hcells := fun (W : World) (h1 : W.heap[w.heap.size]? = some (.cells #[.slice A1 n1 q1, .slice A2 n2 q2] 36 (0, 0))) (h2 : W.heap[w.heap.size + 1]? = some (.cells #[.slice A3 n3 q3, .slice A4 n4 q4] 36 (0, 0))) =>
    show W.cell? ⟨w.heap.size, 0, none⟩ = some (.slice A1 n1 q1) ∧ W.cell? ⟨w.heap.size, 1, none⟩ = some (.slice A2 n2 q2) ∧ W.cell? ⟨w.heap.size + 1, 0, none⟩ = some (.slice A3 n3 q3) ∧ W.cell? ⟨w.heap.size + 1, 1, none⟩ = some (.slice A4 n4 q4) from
    ⟨by rw [cell_of_row _ _ _ _ _ _ h1]; rfl, by rw [cell_of_row _ _ _ _ _ _ h1]; rfl, by rw [cell_of_row _ _ _ _ _ _ h2]; rfl, by rw [cell_of_row _ _ _ _ _ _ h2]; rfl⟩
  have HCL := Lib.hid hcells
  obtain ⟨c0, c1, c2, c3⟩ := hcells _ hn1' hn2
  clear he he' ht hb1 hn1 hb2 hn1' hn2 hcells
  go_enter Tryd.func10, Tryd.ntmps10
  go_wp2_with (fail)
  refine (HK.out _ HB2.out).mono ?_
  rintro z w1 ⟨rfl, b1⟩
  have HB3 := Lib.hid (HB2.out.trans (b1.mono HB2.out.size))
  clear c0 c1 c2 c3
  obtain ⟨c0, c1, c2, c3⟩ := HCL.out w1 ((b1.block _ (Array.getElem?_eq_some_iff.1 HN1.out).1).trans HN1.out) ((b1.block _ (Array.getElem?_eq_some_iff.1 HN2.out).1).trans HN2.out)
  clear b1
  cases k1 with
  | false =>
    go_wp2_with (fail)
    exact bodyPost_ret (results_tmp rfl _ _ _) rfl ⟨rfl, HB3.out⟩
  | true =>
    go_wp2_with (fail)
    refine (HV.out _ HB3.out).mono ?_
    rintro z w2 ⟨rfl, b2⟩
    have HB4 := Lib.hid (HB3.out.trans (b2.mono HB3.out.size))
    clear b2
    go_wp2_with (fail)
    exact bodyPost_ret (results_tmp rfl _ _ _) rfl ⟨rfl, HB4.out⟩
end Go.Proofs.YtijmjlognekcjaaDoor
