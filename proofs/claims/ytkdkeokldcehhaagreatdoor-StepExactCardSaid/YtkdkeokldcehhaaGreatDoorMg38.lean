/-
  StepExact: of every small model, entries, raw ones too, and token, what it leaves, and the scores, are the document's. The walk. Conditions: the tables lie where they are looked up; a row that came in has 2^47 bytes at most.
-/
import Derived.Test.YtkdkeokldcehhaaGreatDoorMg28
import Derived.Test.YtkdkeokldcehhaaGreatDoorMg33
import Derived.Test.YtkdkeokldcehhaaGreatDoorMg18
import Derived.Test.YtkdkeokldcehhaaGreatDoorMg16
import Derived.Test.YtkdkeokldcehhaaGreatDoorMg21
import Derived.Test.YtkdkeokldcehhaaGreatDoorMg24
import Derived.Test.YtkdkeokldcehhaaGreatDoorMg35
import Derived.Test.YtkdkeokldcehhaaGreatDoorMg37
import Derived.Test.YtkdkeokldcehhaaGreatDoorMg14
set_option maxRecDepth 100000
namespace Go.Proofs.YtkdkeokldcehhaaGreatDoor
open Go.ChangeShapes Go.WideShapes Go.ChangeAt Go.RowKit Cf Vc Br Nr Sf Ac Sp Rf

set_option maxRecDepth 100000 in
theorem step_good_none (w : World) (r : Er) (e : Ent) : Calls Tryz.prog 10 #[.pointer none, eV r e] w fun z w' => z = .returned (.bool false) ∧ Below w.heap.size w w' := by
  have HW := Lib.hid (fun W => step_whole_nil W)
  have HB := Lib.hid ((Below.refl w.heap.size w).alloc (Nat.le_refl _) (.cells #[.slice r.kA e.ks.length r.kc, .slice r.vA e.vs.length r.vc] 29))
  unfold eV
  go_enter Tryz.func10, Tryz.ntmps10
  go_wp2_with (first | (go_at_call 27; refine (HW.out _).mono ?_; rintro z w2 ⟨rfl, rfl⟩))
  exact bodyPost_ret (results_tmp rfl _ _ _) rfl ⟨rfl, HB.out⟩
namespace stepExact
/-- What a step leaves, or why it leaves nothing. -/
def TS (w : World) (E : Ent) (SC : List Int) (k : Int) (e : Ending) (w' : World) : Prop := ∃ r SA sc, e = .returned (.tuple #[eV r E, .slice SA SC.length sc, .int .i64 k]) ∧ EOn (fun _ => True) w' r E ∧ KIn .i64 w' SA SC ∧ Below w.heap.size w w'
def noR : Er := ⟨none, 0, fun _ => none, fun _ => 0, none, 0, fun _ => none, fun _ => 0⟩
theorem ts_not {w w' : World} {k : Int} {e : Ending} (h : e = .returned (.tuple #[.agg #[.slice none 0 0, .slice none 0 0], .slice none 0 0, .int .i64 k]) ∧ Below w.heap.size w w') : TS w ⟨[], []⟩ [] k e w' :=
  ⟨noR, none, 0, h.1, ⟨LOn.nil _ _ _ _ _, LOn.nil _ _ _ _ _⟩, KIn.nil _ _ _, h.2⟩
theorem ts_says {w w' : World} {x : Cfg} {s : ByteArray} {P : List Ent} {tok : Int} {e : Ending} (h : StepSays w x s P tok e w') : TS w (entZ x s P tok) (scoZ x s P tok) 0 e w' := by
  obtain ⟨r, SA, sc, h1, h2, h3, h4, _, h6⟩ := h
  exact ⟨r, SA, sc, by rw [h4]; exact h1, h2, h3, h6⟩
theorem ts_ref {w w' : World} {x : Cfg} {s : ByteArray} {P : List Ent} {tok : Int} {e : Ending} (h : RefSays w x s P tok e w') : TS w (entZ x s P tok) (scoZ x s P tok) 0 e w' := by
  obtain ⟨r, SA, sc, h1, h2, h3, h4, _, _, h6⟩ := h
  exact ⟨r, SA, sc, by rw [h4]; exact h1, h2, h3, h6⟩
theorem rows_few {n d : Nat} {L : List (List Int)} (h : rowsB n d L = true) (hn : n ≤ 1000) (hd : d ≤ 1000) : L.length ≤ 1000 ∧ ∀ i, i < L.length → (L.getD i []).length ≤ 1000 := by
  obtain ⟨h1, h2⟩ := rowsB_iff.1 h
  refine ⟨by omega, fun i hi => ?_⟩
  have := rowB_iff.1 (h2 _ (show L.getD i [] ∈ L from by rw [List.getD_eq_getElem?_getD, List.getElem?_eq_getElem hi]; exact List.getElem_mem hi))
  omega
theorem cell_hb {w w' : World} {a : Addr} {v : Value} (hb : Below w.heap.size w w') (h : w.cell? a = some v) : w'.cell? a = some v := hb0c4 hb h
theorem ce0 {W : World} {g : Nat} {a b : Value} {t : TypeId} (h : W.heap[g]? = some (.cells #[a, b] t (0, 0))) : W.cell? ⟨g, 0, none⟩ = some a := by rw [cell_of_row W g 0 _ _ _ h]; rfl
theorem ce1 {W : World} {g : Nat} {a b : Value} {t : TypeId} (h : W.heap[g]? = some (.cells #[a, b] t (0, 0))) : W.cell? ⟨g, 1, none⟩ = some b := by rw [cell_of_row W g 1 _ _ _ h]; rfl
/-- Both steps, of the same model, entries and token. -/
theorem two_steps (w : World) (x : Cfg) (s : ByteArray) (b : Nat) (A : Option Addr) (n c : Nat) (G : Option Addr) (gc : Nat) (Q : List (Er × Ent)) (tok : Int) (h : w.heap[b]? = some (brO x s)) (hk : Ok x s) (hQ : Q.length = n) (hn : n ≤ 1000000) (hA : EsIn w A Q)
    (hG : ∀ W, Below w.heap.size w W → EsIn W G Q) (hp : POn w) (hg : GOn w) :
    ∃ (E : Ent) (SC : List Int) (kz : Int), ((E.ks.length ≤ 1000 ∧ ∀ i, i < E.ks.length → (E.ks.getD i []).length ≤ 1000) ∧ (E.vs.length ≤ 1000 ∧ ∀ i, i < E.vs.length → (E.vs.getD i []).length ≤ 1000) ∧ SC.length ≤ 4611686018427387904) ∧
      Calls Tryz.prog 14 #[.pointer (some ⟨b, 0, none⟩), .slice A n c, .int .i64 tok] w (TS w E SC kz) ∧
      ∀ W, Below w.heap.size w W → Calls Tryz.prog 15 #[mdV x s, .slice G n gc, .int .i64 tok] W (TS W E SC kz) := by
  have hd := dims hk.good.is
  have h1 := hk.good.is.b3
  have h2 := hk.good.is.d16
  have h3 := hk.good.is.v32
  by_cases he : errZ x (past Q) tok = 0
  · obtain ⟨g1, g2⟩ := goodE_iff.1 (entZ_good x s (past Q) tok)
    refine ⟨entZ x s (past Q) tok, scoZ x s (past Q) tok, 0, ⟨rows_few g1 (by omega) (by omega), rows_few g2 (by omega) (by omega), by have := scoresL_length x s (endT x s (past Q) tok).2.2; unfold scoZ; omega⟩, ?_, fun W hW => ?_⟩
    · exact (step_step w A n c Q tok b x s h hk hQ hn hA he hp hg).mono fun _ _ z => ts_says z
    · exact (ref17_step W x s hk G n gc Q tok hQ (hG W hW) he).mono fun _ _ z => ts_ref z
  · refine ⟨⟨[], []⟩, [], errZ x (past Q) tok, ⟨⟨Nat.zero_le _, fun i hi => absurd hi (Nat.not_lt_zero i)⟩, ⟨Nat.zero_le _, fun i hi => absurd hi (Nat.not_lt_zero i)⟩, Nat.zero_le _⟩, ?_, fun W hW => ?_⟩
    · exact (step_step_not w A n c Q tok b x s h hk hQ hn hA he).mono fun _ _ z => ts_not z
    · exact (ref17_step_not W x s hk G n gc Q tok hQ hn (hG W hW) he).mono fun _ _ z => ts_not z
set_option maxRecDepth 100000 in
set_option maxHeartbeats 25600000 in
theorem walk (w : World) (x : Cfg) (s : ByteArray) (A : Option Addr) (n c : Nat) (Q : List (Er × Ent)) (tok : Int) (hQ : Q.length = n) (hA : EsIn w A Q)
    (hz : ∀ q ∈ Q, (∀ i, i < q.2.ks.length → (q.2.ks.getD i []).length * 8 ≤ 140737488351232) ∧ ∀ i, i < q.2.vs.length → (q.2.vs.getD i []).length * 8 ≤ 140737488351232) (hpg : POn w ∧ GOn w) :
    Calls Tryz.prog 3 #[cfV x, .string s, .slice A n c, .int .i64 tok] w fun e w' => e = .returned (.bool true) ∧ Below w.heap.size w w' := by
  have HAW := Lib.hid (fun W (hW : Below w.heap.size w W) => awake17 W (hpg.1.below hW (Nat.le_refl _)) (hpg.2.below hW (Nat.le_refl _)))
  have HB0 := Lib.hid ((Below.refl w.heap.size w).alloc (Nat.le_refl _) (cfO 23 x))
  have HH0 := Lib.hid (heap_alloc_new w (cfO 23 x))
  have HSA := Lib.hid (fun W => small_any x W)
  have HPG := Lib.hid hpg
  have HQ := Lib.hid hQ
  have HA := Lib.hid hA
  have HZ := Lib.hid hz
  clear hpg hQ hA hz
  by_cases h1 : 6 < n
  · have t0 : 6 < (n : Int) := by omega
    have t1 : decide (6 < (n : Int)) = true := decide_eq_true t0
    unfold cfV cfA at *
    unfold cfO cfA at HB0
    go_enter Tryz.func3, Tryz.ntmps3
    go_wp2_with (fail)
    refine (HAW.out _ HB0.out).mono ?_
    rintro e w1 ⟨rfl, b1⟩
    have HB1 := Lib.hid (HB0.out.trans (b1.mono HB0.out.size))
    clear b1
    go_wp2_with (fail)
    exact bodyPost_ret (results_tmp rfl _ _ _) rfl ⟨rfl, HB1.out⟩
  have t0 : ¬ 6 < (n : Int) := by omega
  have t1 : decide (6 < (n : Int)) = false := decide_eq_false t0
  have HN := Lib.hid (show n ≤ 6 by omega)
  have HOK := Lib.hid (fun (W : World) (h : Ok x s) => brain_of W x s h)
  have HNO := Lib.hid (fun (h : ¬ Ok x s) => show ∃ m : Int, m ≠ 0 ∧ ∀ W, Calls Tryz.prog 7 #[cfV x, .string s] W fun e w' => e = .returned (.tuple #[.pointer none, .int .i64 m]) ∧ Below W.heap.size W w' from by
    cases hgz : goodZ x with
    | false => exact ⟨1, by decide, fun W => brain_of_arg W x s hgz⟩
    | true => exact ⟨5, by decide, fun W => brain_of_form W x s hgz fun hs => h ⟨good_iff.1 hgz, hs⟩⟩)
  clear h1
  unfold cfV cfA at HSA HOK HNO ⊢
  unfold cfO cfA at HB0
  go_enter Tryz.func3, Tryz.ntmps3
  go_wp2_with (fail)
  refine (HAW.out _ HB0.out).mono ?_
  rintro e w1 ⟨rfl, b1⟩
  have HB1 := Lib.hid (HB0.out.trans (b1.mono HB0.out.size))
  have HH1 := Lib.hid (Cf.stays HH0.out b1)
  clear b1 HAW HB0 HH0
  obtain ⟨e0, e1, e2, e3, e4, e5⟩ := six HH1.out
  go_wp2_with (fail)
  refine (HSA.out _).mono ?_
  rintro e w2 ⟨rfl, b2⟩
  have HB2 := Lib.hid (HB1.out.trans (b2.mono HB1.out.size))
  have HH2 := Lib.hid (Cf.stays HH1.out b2)
  clear b2 e0 e1 e2 e3 e4 e5 HB1 HH1 HSA
  cases smallZ x with
  | false =>
    go_wp2_with (fail)
    exact bodyPost_ret (results_tmp rfl _ _ _) rfl ⟨rfl, HB2.out⟩
  | true =>
  by_cases h3 : 2048 < s.size
  · have t4 : 2048 < (s.size : Int) := by omega
    have t5 : decide (2048 < (s.size : Int)) = true := decide_eq_true t4
    go_wp2_with (fail)
    exact bodyPost_ret (results_tmp rfl _ _ _) rfl ⟨rfl, HB2.out⟩
  have t4 : ¬ 2048 < (s.size : Int) := by omega
  have t5 : decide (2048 < (s.size : Int)) = false := decide_eq_false t4
  clear h3
  go_wp2_with (fail)
  clear t0 t1 t4 t5
  go_loopw [9] (fun i wr => ∃ j : Nat, i = .int .i64 (j : Int) ∧ j ≤ n ∧ (∀ k, k < j → (Q.getD k noQ).2.ks.length ≤ 4 ∧ (Q.getD k noQ).2.vs.length ≤ 4) ∧ Below w.heap.size w wr ∧ wr.heap[w.heap.size]? = some (cfO 23 x)) (fun i _ => match i with | .int _ k => n - k.toNat | _ => 0)
  case atStart => exact ⟨0, rfl, Nat.zero_le _, fun k hk => absurd hk (Nat.not_lt_zero k), HB2.out, HH2.out⟩
  case round =>
    clear HB2 HH2
    obtain ⟨j, rfl, hj, hall, hb, hh⟩ := hrel
    have HALL := Lib.hid hall
    have HB := Lib.hid hb
    have HH := Lib.hid hh
    clear hall hb hh
    have x2 : 0 ≤ (j : Int) := by omega
    by_cases hlt : j < n
    · have x0 : (j : Int) < (n : Int) := by omega
      have x1 : decide ((j : Int) < (n : Int)) = true := decide_eq_true x0
      have HJ := Lib.hid (show j + 1 ≤ n by omega)
      have HW1 := Lib.hid (IntWalk.wrap64_in ((j : Int) + 1) (by have := HN.out; omega))
      obtain ⟨pa, oa, rfl, hc0, hc1⟩ := HA.out.row.cell (getD_some (show j < Q.length by rw [HQ.out]; exact hlt))
      have k0 := cells_below hc0 HB.out (Nat.le_refl _)
      have k1 := cells_below hc1 HB.out (Nat.le_refl _)
      have HNX := Lib.hid (fun (h : (Q.getD j noQ).2.ks.length ≤ 4 ∧ (Q.getD j noQ).2.vs.length ≤ 4) => show ∀ k, k < j + 1 → (Q.getD k noQ).2.ks.length ≤ 4 ∧ (Q.getD k noQ).2.vs.length ≤ 4 from fun k hk => by
        by_cases hkj : k = j
        · rw [hkj]; exact h
        · exact HALL.out k (by omega))
      generalize (Q.getD j noQ).2.ks.length = l1 at k0 HNX
      generalize (Q.getD j noQ).2.vs.length = l2 at k1 HNX
      clear hc0 hc1 hlt
      by_cases h4 : 4 < l1
      · have z0 : 4 < (l1 : Int) := by omega
        have z1 : decide (4 < (l1 : Int)) = true := decide_eq_true z0
        go_wp2_with (fail)
        exact bodyPost_ret (results_tmp rfl _ _ _) rfl ⟨rfl, HB.out⟩
      have z0 : ¬ 4 < (l1 : Int) := by omega
      have z1 : decide (4 < (l1 : Int)) = false := decide_eq_false z0
      by_cases h5 : 4 < l2
      · have z2 : 4 < (l2 : Int) := by omega
        have z3 : decide (4 < (l2 : Int)) = true := decide_eq_true z2
        go_wp2_with (fail)
        exact bodyPost_ret (results_tmp rfl _ _ _) rfl ⟨rfl, HB.out⟩
      have z2 : ¬ 4 < (l2 : Int) := by omega
      have z3 : decide (4 < (l2 : Int)) = false := decide_eq_false z2
      have HNY := Lib.hid (HNX.out ⟨by omega, by omega⟩)
      clear HNX h4 h5
      go_wp2_with (fail)
      try rw [HW1.out]
      exact ⟨⟨j + 1, rfl, HJ.out, HNY.out, HB.out, HH.out⟩, vcLess j n HJ.out⟩
    have hje : n = j := by omega
    subst hje
    have x0 : ¬ (n : Int) < (n : Int) := by omega
    have x1 : decide ((n : Int) < (n : Int)) = false := decide_eq_false x0
    obtain ⟨e0, e1, e2, e3, e4, e5⟩ := six HH.out
    by_cases hk : Ok x s
    case neg =>
      obtain ⟨m, hm, ho⟩ := HNO.out hk
      have HO := Lib.hid ho
      have t8 : (m != 0) = true := bne_iff_ne.2 hm
      clear ho hm HNO HOK
      go_wp2_with (fail)
      refine (HO.out _).mono ?_
      rintro e w3 ⟨rfl, b3⟩
      have HB3 := Lib.hid (HB.out.trans (b3.mono HB.out.size))
      clear b3
      go_wp2_with (fail)
      exact bodyPost_ret (results_tmp rfl _ _ _) rfl ⟨rfl, HB3.out⟩
    case pos =>
      have HO := Lib.hid (fun W => HOK.out W hk)
      have HKX := Lib.hid hk
      clear HNO HOK hk
      go_wp2_with (fail)
      refine (HO.out _).mono ?_
      rintro e w3 ⟨b, rfl, hb, hh3, b3⟩
      have HB3 := Lib.hid (HB.out.trans (b3.mono HB.out.size))
      have HH3 := Lib.hid hh3
      have HC3 := Lib.hid (Cf.stays HH.out b3)
      clear hb hh3 b3 e0 e1 e2 e3 e4 e5 HO HH HB x0 x1 x2
      obtain ⟨e0, e1, e2, e3, e4, e5⟩ := six HC3.out
      go_upto_region 14 with (fail)
      have HB4 := Lib.hid (HB3.out.alloc HB3.out.size (.cells #[.int .i64 x.v, .int .i64 x.d, .int .i64 x.h, .int .i64 x.b, .int .i64 x.n, .int .i64 x.c, .string s] 35))
      have HH4 := Lib.hid (show (w3.alloc (.cells #[.int .i64 x.v, .int .i64 x.d, .int .i64 x.h, .int .i64 x.b, .int .i64 x.n, .int .i64 x.c, .string s] 35)).heap[b]? = some (brO x s) from (heap_alloc_old _ _ (Array.getElem?_eq_some_iff.1 HH3.out).1).trans HH3.out)
      have HM4 := Lib.hid (show (w3.alloc (.cells #[.int .i64 x.v, .int .i64 x.d, .int .i64 x.h, .int .i64 x.b, .int .i64 x.n, .int .i64 x.c, .string s] 35)).heap[w3.heap.size]? = some (mdO x s) from heap_alloc_new w3 _)
      generalize hq : w3.heap.size = mq at HM4
      generalize w3.alloc (.cells #[.int .i64 x.v, .int .i64 x.d, .int .i64 x.h, .int .i64 x.b, .int .i64 x.n, .int .i64 x.c, .string s] 35) = w4 at HB4 HH4 HM4 ⊢
      try rw [hq]
      clear e0 e1 e2 e3 e4 e5 HB3 HH3 HC3 hq
      have HFO := Lib.hid (law_forms w4 A n c Q HQ.out (by have := HN.out; omega) (HA.out.row.below HB4.out))
      go_wp2_with (fail)
      refine HFO.out.mono ?_
      rintro e w5 ⟨G, gc, rfl, hg5, b5⟩
      have HB5 := Lib.hid (HB4.out.trans (b5.mono HB4.out.size))
      have HH5 := Lib.hid (Rf.stays HH4.out b5)
      have HM5 := Lib.hid (Rf.stays HM4.out b5)
      have HG5 := Lib.hid hg5
      clear hg5 b5 HB4 HH4 HM4 HFO
      go_wp2_with (fail)
      go_loopw [14] (fun i wr => ∃ j : Nat, i = .int .i64 (j : Int) ∧ j ≤ n ∧ Below w5.heap.size w5 wr) (fun i _ => match i with | .int _ k => n - k.toNat | _ => 0)
      case atStart => exact ⟨0, rfl, Nat.zero_le _, Below.refl _ _⟩
      case round =>
        obtain ⟨j, rfl, hj, hb⟩ := hrel
        have HBR := Lib.hid hb
        have HWR := Lib.hid (show Below w.heap.size w wr from HB5.out.trans (hb.mono HB5.out.size))
        clear hb
        have x2 : 0 ≤ (j : Int) := by omega
        by_cases hlt : j < n
        · have x0 : (j : Int) < (n : Int) := by omega
          have x1 : decide ((j : Int) < (n : Int)) = true := decide_eq_true x0
          have x3 : 0 < (n : Int) := by omega
          have x4 : ¬ n = 0 := by omega
          have HJ := Lib.hid (show j + 1 ≤ n by omega)
          have HW1 := Lib.hid (IntWalk.wrap64_in ((j : Int) + 1) (by have := HN.out; omega))
          have hjl : j < Q.length := by rw [HQ.out]; exact hlt
          have h0l : 0 < Q.length := by omega
          obtain ⟨pa, oa, hAe, hf0, hf1⟩ := HA.out.row.cell (getD_some h0l)
          subst hAe
          obtain ⟨pa', oa', hAe, hc0, hc1⟩ := HA.out.row.cell (getD_some hjl)
          injection hAe with hAe
          injection hAe with hAe1 hAe2
          subst hAe1 hAe2
          obtain ⟨pg, og, rfl, hg0, hg1⟩ := HG5.out.cell (getD_some hjl)
          rw [Nat.zero_mul, Nat.add_zero] at hf0 hf1
          have hmq : Q.getD j noQ ∈ Q := by rw [List.getD_eq_getElem?_getD, List.getElem?_eq_getElem hjl]; exact List.getElem_mem hjl
          have hmf : Q.getD 0 noQ ∈ Q := by rw [List.getD_eq_getElem?_getD, List.getElem?_eq_getElem h0l]; exact List.getElem_mem h0l
          have HSZ := Lib.hid (show EntSized (Q.getD j noQ).2 from ⟨by have := (HALL.out j hlt).1; omega, by have := (HALL.out j hlt).2; omega, fun i hi => by have := (HZ.out _ hmq).1 i hi; omega, fun i hi => by have := (HZ.out _ hmq).2 i hi; omega⟩)
          have HSF0 := Lib.hid (show EntSized (Q.getD 0 noQ).2 from ⟨by have := (HALL.out 0 (by omega)).1; omega, by have := (HALL.out 0 (by omega)).2; omega, fun i hi => by have := (HZ.out _ hmf).1 i hi; omega, fun i hi => by have := (HZ.out _ hmf).2 i hi; omega⟩)
          have HEQ := Lib.hid (fun (W : World) (hW : Below w.heap.size w W) => (HA.out.all _ hmq).below hW)
          have HEF := Lib.hid (fun (W : World) (hW : Below w.heap.size w W) => (HA.out.all _ hmf).below hW)
          generalize Q.getD j noQ = q at hc0 hc1 hg0 hg1 HSZ HEQ
          generalize Q.getD 0 noQ = f at hf0 hf1 HSF0 HEF
          have c0 := cells_below hc0 HWR.out (Nat.le_refl _)
          have c1 := cells_below hc1 HWR.out (Nat.le_refl _)
          have HCC := Lib.hid (And.intro (And.intro hc0 hc1) (And.intro hf0 hf1))
          have HGC := Lib.hid (And.intro hg0 hg1)
          have HCP := Lib.hid (step_copy wr q.1 q.2 (HEQ.out wr HWR.out) HSZ.out)
          unfold CySays eV at HCP
          clear hc0 hc1 hf0 hf1 hg0 hg1 hjl h0l hmq hmf
          go_upto_region 19 with (go_at_call 9; refine HCP.out.mono ?_; rintro z w6 ⟨r7, rfl, e6, b6⟩; have HE6 := Lib.hid e6; have HB6 := Lib.hid b6; clear e6 b6)
          have HB7 := Lib.hid (show Below wr.heap.size wr (w6.alloc (.cells #[.slice r7.kA q.2.ks.length r7.kc, .slice r7.vA q.2.vs.length r7.vc] 29)) from HB6.out.alloc HB6.out.size _)
          have HN7 := Lib.hid (heap_alloc_new w6 (.cells #[.slice r7.kA q.2.ks.length r7.kc, .slice r7.vA q.2.vs.length r7.vc] 29))
          have HE7 := Lib.hid (HE6.out.below ((Below.refl w6.heap.size w6).alloc (Nat.le_refl _) (.cells #[.slice r7.kA q.2.ks.length r7.kc, .slice r7.vA q.2.vs.length r7.vc] 29)))
          generalize hq7 : w6.heap.size = q7 at HN7
          generalize w6.alloc (.cells #[.slice r7.kA q.2.ks.length r7.kc, .slice r7.vA q.2.vs.length r7.vc] 29) = w7 at HB7 HN7 HE7 ⊢
          try rw [hq7]
          have HW7 := Lib.hid (HWR.out.trans (HB7.out.mono HWR.out.size))
          have HX7 := Lib.hid (HBR.out.trans (HB7.out.mono HBR.out.size))
          clear HE6 HB6 hq7 HCP c0 c1
          have HKS := Lib.hid (fun (W : World) (hW : Below w7.heap.size w7 W) => show (W.cell? ⟨q7, 0, none⟩ = some (.slice r7.kA q.2.ks.length r7.kc) ∧ W.cell? ⟨q7, 1, none⟩ = some (.slice r7.vA q.2.vs.length r7.vc)) ∧ (W.cell? ⟨pa, oa + j * 2, none⟩ = some (.slice q.1.kA q.2.ks.length q.1.kc) ∧ W.cell? ⟨pa, oa + j * 2 + 1, none⟩ = some (.slice q.1.vA q.2.vs.length q.1.vc)) ∧ (W.cell? ⟨pg, og + j * 2, none⟩ = some (.slice q.1.kA q.2.ks.length q.1.kc) ∧ W.cell? ⟨pg, og + j * 2 + 1, none⟩ = some (.slice q.1.vA q.2.vs.length q.1.vc)) ∧ (W.cell? ⟨mq, 0, none⟩ = some (.int .i64 x.v) ∧ W.cell? ⟨mq, 1, none⟩ = some (.int .i64 x.d) ∧ W.cell? ⟨mq, 2, none⟩ = some (.int .i64 x.h) ∧ W.cell? ⟨mq, 3, none⟩ = some (.int .i64 x.b) ∧ W.cell? ⟨mq, 4, none⟩ = some (.int .i64 x.n) ∧ W.cell? ⟨mq, 5, none⟩ = some (.int .i64 x.c) ∧ W.cell? ⟨mq, 6, none⟩ = some (.string s)) from
            ⟨⟨cell_hb hW (en0 HN7.out), cell_hb hW (en1 HN7.out)⟩, ⟨cell_hb hW (cell_hb HW7.out HCC.out.1.1), cell_hb hW (cell_hb HW7.out HCC.out.1.2)⟩, ⟨cell_hb hW (cell_hb HX7.out HGC.out.1), cell_hb hW (cell_hb HX7.out HGC.out.2)⟩, Rf.seven (Rf.stays (Rf.stays HM5.out HX7.out) hW)⟩)
          have HKT := Lib.hid (fun (W : World) (hW : Below w7.heap.size w7 W) => show (W.cell? ⟨pa, oa, none⟩ = some (.slice f.1.kA f.2.ks.length f.1.kc) ∧ W.cell? ⟨pa, oa + 1, none⟩ = some (.slice f.1.vA f.2.vs.length f.1.vc)) ∧ (W.cell? ⟨pa, oa + j * 2, none⟩ = some (.slice q.1.kA q.2.ks.length q.1.kc) ∧ W.cell? ⟨pa, oa + j * 2 + 1, none⟩ = some (.slice q.1.vA q.2.vs.length q.1.vc)) from
            ⟨⟨cell_hb hW (cell_hb HW7.out HCC.out.2.1), cell_hb hW (cell_hb HW7.out HCC.out.2.2)⟩, ⟨cell_hb hW (cell_hb HW7.out HCC.out.1.1), cell_hb hW (cell_hb HW7.out HCC.out.1.2)⟩⟩)
          have HEQ7 := Lib.hid (fun (W : World) (hW : Below w7.heap.size w7 W) => HEQ.out W (HW7.out.trans (hW.mono HW7.out.size)))
          have HEF7 := Lib.hid (fun (W : World) (hW : Below w7.heap.size w7 W) => HEF.out W (HW7.out.trans (hW.mono HW7.out.size)))
          have HGP := Lib.hid (fun (W : World) (hW : Below w7.heap.size w7 W) => show Calls Tryz.prog 10 #[.pointer (some ⟨b, 0, none⟩), .agg #[.slice q.1.kA q.2.ks.length q.1.kc, .slice q.1.vA q.2.vs.length q.1.vc]] W fun e' w' => e' = .returned (.bool (goodE x q.2)) ∧ Below W.heap.size W w' from
            step_good W b x s (Rf.stays (Rf.stays HH5.out HX7.out) hW) HKX.out q.1 q.2 (HEQ7.out W hW))
          have HGR := Lib.hid (fun (W : World) (hW : Below w7.heap.size w7 W) => show Calls Tryz.prog 11 #[.agg #[.int .i64 x.v, .int .i64 x.d, .int .i64 x.h, .int .i64 x.b, .int .i64 x.n, .int .i64 x.c, .string s], .agg #[.slice q.1.kA q.2.ks.length q.1.kc, .slice q.1.vA q.2.vs.length q.1.vc]] W fun e' w' => e' = .returned (.bool (goodE x q.2)) ∧ Below W.heap.size W w' from
            ref17_good W x s HKX.out q.1 q.2 (HEQ7.out W hW))
          have HSM := Lib.hid (fun (W : World) (hW : Below w7.heap.size w7 W) => show Calls Tryz.prog 12 #[.agg #[.slice r7.kA q.2.ks.length r7.kc, .slice r7.vA q.2.vs.length r7.vc], .agg #[.slice q.1.kA q.2.ks.length q.1.kc, .slice q.1.vA q.2.vs.length q.1.vc]] W fun e' w' => e' = .returned (.bool true) ∧ Below W.heap.size W w' from by
            have h := step_same W r7 q.2 q.1 q.2 (HE7.out.below hW) (HEQ7.out W hW) HSZ.out.fit
            rw [sameE_self] at h
            exact h)
          have HT1 := Lib.hid (fun (W : World) (hW : Below w7.heap.size w7 W) => show Calls Tryz.prog 13 #[.slice r7.kA q.2.ks.length r7.kc, .slice q.1.kA q.2.ks.length q.1.kc] W fun e' w' => e' = .returned (.bool true) ∧ Below W.heap.size W w' from by
            have h := law_table W r7.kA q.2.ks.length r7.kc r7.kB r7.kC q.2.ks q.1.kA q.2.ks.length q.1.kc q.1.kB q.1.kC q.2.ks rfl rfl (by have := HSZ.out.k; omega) (fun i hi => by have := HSZ.out.ks i hi; omega) (HE7.out.below hW).k.is (HEQ7.out W hW).k.is
            rw [decide_eq_true rfl] at h
            exact h)
          have HT2 := Lib.hid (fun (W : World) (hW : Below w7.heap.size w7 W) => show Calls Tryz.prog 13 #[.slice r7.vA q.2.vs.length r7.vc, .slice q.1.vA q.2.vs.length q.1.vc] W fun e' w' => e' = .returned (.bool true) ∧ Below W.heap.size W w' from by
            have h := law_table W r7.vA q.2.vs.length r7.vc r7.vB r7.vC q.2.vs q.1.vA q.2.vs.length q.1.vc q.1.vB q.1.vC q.2.vs rfl rfl (by have := HSZ.out.v; omega) (fun i hi => by have := HSZ.out.vs i hi; omega) (HE7.out.below hW).v.is (HEQ7.out W hW).v.is
            rw [decide_eq_true rfl] at h
            exact h)
          have HSF := Lib.hid (fun (W : World) (hW : Below w7.heap.size w7 W) => show Calls Tryz.prog 12 #[.agg #[.slice f.1.kA f.2.ks.length f.1.kc, .slice f.1.vA f.2.vs.length f.1.vc], .agg #[.slice q.1.kA q.2.ks.length q.1.kc, .slice q.1.vA q.2.vs.length q.1.vc]] W fun e' w' => e' = .returned (.bool (decide (f.2.ks = q.2.ks) && decide (f.2.vs = q.2.vs))) ∧ Below W.heap.size W w' from
            step_same W f.1 f.2 q.1 q.2 (HEF7.out W hW) (HEQ7.out W hW) HSF0.out.fit)
          have HTF1 := Lib.hid (fun (W : World) (hW : Below w7.heap.size w7 W) => show Calls Tryz.prog 13 #[.slice f.1.kA f.2.ks.length f.1.kc, .slice q.1.kA q.2.ks.length q.1.kc] W fun e' w' => e' = .returned (.bool (decide (f.2.ks = q.2.ks))) ∧ Below W.heap.size W w' from
            law_table W f.1.kA f.2.ks.length f.1.kc f.1.kB f.1.kC f.2.ks q.1.kA q.2.ks.length q.1.kc q.1.kB q.1.kC q.2.ks rfl rfl (by have := HSF0.out.k; omega) (fun i hi => by have := HSF0.out.ks i hi; omega) (HEF7.out W hW).k.is (HEQ7.out W hW).k.is)
          have HTF2 := Lib.hid (fun (W : World) (hW : Below w7.heap.size w7 W) => show Calls Tryz.prog 13 #[.slice f.1.vA f.2.vs.length f.1.vc, .slice q.1.vA q.2.vs.length q.1.vc] W fun e' w' => e' = .returned (.bool (decide (f.2.vs = q.2.vs))) ∧ Below W.heap.size W w' from
            law_table W f.1.vA f.2.vs.length f.1.vc f.1.vB f.1.vC f.2.vs q.1.vA q.2.vs.length q.1.vc q.1.vB q.1.vC q.2.vs rfl rfl (by have := HSF0.out.v; omega) (fun i hi => by have := HSF0.out.vs i hi; omega) (HEF7.out W hW).v.is (HEQ7.out W hW).v.is)
          clear HEQ7 HEF7 HEQ HEF HSZ HSF0 HE7 HN7 HCC HGC
          generalize goodE x q.2 = gE at HGP HGR
          generalize decide (f.2.ks = q.2.ks) = g1 at HSF HTF1
          generalize decide (f.2.vs = q.2.vs) = g2 at HSF HTF2
          generalize q.1.kA = ekA at *
          generalize q.1.vA = evA at *
          generalize q.1.kc = ekc at *
          generalize q.1.vc = evc at *
          generalize q.2.ks.length = nk at *
          generalize q.2.vs.length = nv at *
          generalize f.1.kA = fkA at *
          generalize f.1.vA = fvA at *
          generalize f.1.kc = fkc at *
          generalize f.1.vc = fvc at *
          generalize f.2.ks.length = mk at *
          generalize f.2.vs.length = mv at *
          generalize r7.kA = xkA at *
          generalize r7.vA = xvA at *
          generalize r7.kc = xkc at *
          generalize r7.vc = xvc at *
          have HD7 := Lib.hid (below_drewN (Below.refl w7.heap.size w7) 1)
          have D0 := Lib.hid (show Below w7.heap.size w7 w7.drew from HD7.out)
          have k0 := HKS.out _ D0.out
          refine wp_region_noPanic ?_
          refine wp_region_held_drew (S := (fun W : World => (W.cell? ⟨q7, 0, none⟩ = some (.slice xkA nk xkc) ∧ W.cell? ⟨q7, 1, none⟩ = some (.slice xvA nv xvc)) ∧ (W.cell? ⟨pa, oa + j * 2, none⟩ = some (.slice ekA nk ekc) ∧ W.cell? ⟨pa, oa + j * 2 + 1, none⟩ = some (.slice evA nv evc)) ∧ (W.cell? ⟨pg, og + j * 2, none⟩ = some (.slice ekA nk ekc) ∧ W.cell? ⟨pg, og + j * 2 + 1, none⟩ = some (.slice evA nv evc)) ∧ (W.cell? ⟨mq, 0, none⟩ = some (.int .i64 x.v) ∧ W.cell? ⟨mq, 1, none⟩ = some (.int .i64 x.d) ∧ W.cell? ⟨mq, 2, none⟩ = some (.int .i64 x.h) ∧ W.cell? ⟨mq, 3, none⟩ = some (.int .i64 x.b) ∧ W.cell? ⟨mq, 4, none⟩ = some (.int .i64 x.n) ∧ W.cell? ⟨mq, 5, none⟩ = some (.int .i64 x.c) ∧ W.cell? ⟨mq, 6, none⟩ = some (.string s)))) (by kernel_rfl) k0 (fun hHeld => ?_)
          refine wpAnyH_takeAt (i := 0) (v := .pointer (some ⟨b, 0, none⟩)) 85 rfl rfl (by kernel_rfl) (by kernel_rfl) (by kernel_rfl) (fun _ _ _ h => h) (Or.inl ⟨by rfl, ?_⟩) hHeld ?_
          · intro W hW
            try dsimp only at hW
            go_simp
            try (intro h00; exact absurd h00 x4)
          simp only [Act.put, List.setIfInBounds_toArray, List.set_cons_succ, List.set_cons_zero]
          refine wpAnyH_takeAt (i := 1) (v := .slice (some ⟨pa, oa, none⟩) n c) 86 rfl rfl (by kernel_rfl) (by kernel_rfl) (by kernel_rfl) (fun _ _ _ h => h) (Or.inl ⟨by rfl, ?_⟩) hHeld ?_
          · intro W hW
            try dsimp only at hW
            go_simp
            try (intro h00; exact absurd h00 x4)
          simp only [Act.put, List.setIfInBounds_toArray, List.set_cons_succ, List.set_cons_zero]
          refine wpAnyH_takeAt (i := 2) (v := .int .i64 (j : Int)) 87 rfl rfl (by kernel_rfl) (by kernel_rfl) (by kernel_rfl) (fun _ _ _ h => h) (Or.inl ⟨by rfl, ?_⟩) hHeld ?_
          · intro W hW
            try dsimp only at hW
            go_simp
            try (intro h00; exact absurd h00 x4)
          simp only [Act.put, List.setIfInBounds_toArray, List.set_cons_succ, List.set_cons_zero]
          refine wpAnyH_takeAt (i := 3) (v := .pointer (some ⟨pa, oa + j * 2, none⟩)) 88 rfl rfl (by kernel_rfl) (by kernel_rfl) (by kernel_rfl) (fun _ _ _ h => h) (Or.inl ⟨by rfl, ?_⟩) hHeld ?_
          · intro W hW
            try dsimp only at hW
            go_simp
            try (intro h00; exact absurd h00 x4)
          simp only [Act.put, List.setIfInBounds_toArray, List.set_cons_succ, List.set_cons_zero]
          refine wpAnyH_takeAt (i := 4) (v := .agg #[.slice ekA nk ekc, .slice evA nv evc]) 89 rfl rfl (by kernel_rfl) (by kernel_rfl) (by kernel_rfl) (fun _ _ _ h => h) (Or.inl ⟨by rfl, ?_⟩) hHeld ?_
          · intro W hW
            try dsimp only at hW
            go_simp
            try (intro h00; exact absurd h00 x4)
          simp only [Act.put, List.setIfInBounds_toArray, List.set_cons_succ, List.set_cons_zero]
          refine wpAnyH_takeAt (i := 6) (v := .agg #[.int .i64 x.v, .int .i64 x.d, .int .i64 x.h, .int .i64 x.b, .int .i64 x.n, .int .i64 x.c, .string s]) 91 rfl rfl (by kernel_rfl) (by kernel_rfl) (by kernel_rfl) (fun _ _ _ h => h) (Or.inl ⟨by rfl, ?_⟩) hHeld ?_
          · intro W hW
            try dsimp only at hW
            go_simp
            try (intro h00; exact absurd h00 x4)
          simp only [Act.put, List.setIfInBounds_toArray, List.set_cons_succ, List.set_cons_zero]
          refine wpAnyH_takeAt (i := 7) (v := .slice (some ⟨pg, og, none⟩) n gc) 92 rfl rfl (by kernel_rfl) (by kernel_rfl) (by kernel_rfl) (fun _ _ _ h => h) (Or.inl ⟨by rfl, ?_⟩) hHeld ?_
          · intro W hW
            try dsimp only at hW
            go_simp
            try (intro h00; exact absurd h00 x4)
          simp only [Act.put, List.setIfInBounds_toArray, List.set_cons_succ, List.set_cons_zero]
          refine wpAnyH_takeAt (i := 8) (v := .int .i64 (j : Int)) 93 rfl rfl (by kernel_rfl) (by kernel_rfl) (by kernel_rfl) (fun _ _ _ h => h) (Or.inl ⟨by rfl, ?_⟩) hHeld ?_
          · intro W hW
            try dsimp only at hW
            go_simp
            try (intro h00; exact absurd h00 x4)
          simp only [Act.put, List.setIfInBounds_toArray, List.set_cons_succ, List.set_cons_zero]
          refine wpAnyH_takeAt (i := 9) (v := .pointer (some ⟨pg, og + j * 2, none⟩)) 94 rfl rfl (by kernel_rfl) (by kernel_rfl) (by kernel_rfl) (fun _ _ _ h => h) (Or.inl ⟨by rfl, ?_⟩) hHeld ?_
          · intro W hW
            try dsimp only at hW
            go_simp
            try (intro h00; exact absurd h00 x4)
          simp only [Act.put, List.setIfInBounds_toArray, List.set_cons_succ, List.set_cons_zero]
          refine wpAnyH_takeAt (i := 10) (v := .agg #[.slice ekA nk ekc, .slice evA nv evc]) 95 rfl rfl (by kernel_rfl) (by kernel_rfl) (by kernel_rfl) (fun _ _ _ h => h) (Or.inl ⟨by rfl, ?_⟩) hHeld ?_
          · intro W hW
            try dsimp only at hW
            go_simp
            try (intro h00; exact absurd h00 x4)
          simp only [Act.put, List.setIfInBounds_toArray, List.set_cons_succ, List.set_cons_zero]
          refine wpAnyH_ready (rs := [5]) (by kernel_rfl) (by simp) ?_
          refine AllReadyH.cons rfl (fun K hK => ?_) AllReadyH.nil
          go_simp
          refine (HGP.out _ D0.out).mono ?_
          rintro z wa ⟨rfl, b9⟩
          have DA := Lib.hid (D0.out.trans (b9.mono D0.out.size))
          have k1 := HKS.out _ DA.out
          clear b9
          refine hK.out _ _ k1 (fun hHeld2 => ?_)
          clear hK K hHeld
          have hHeld := hHeld2
          clear hHeld2
          try simp only [Act.put, List.setIfInBounds_toArray, List.set_cons_succ, List.set_cons_zero]
          refine wpAnyH_ready (rs := [11]) (by kernel_rfl) (by simp) ?_
          refine AllReadyH.cons rfl (fun K hK => ?_) AllReadyH.nil
          go_simp
          refine (HGR.out _ DA.out).mono ?_
          rintro z wb ⟨rfl, b9⟩
          have DB := Lib.hid (DA.out.trans (b9.mono DA.out.size))
          have k2 := HKS.out _ DB.out
          clear b9
          refine hK.out _ _ k2 (fun hHeld2 => ?_)
          clear hK K hHeld
          have hHeld := hHeld2
          clear hHeld2
          try simp only [Act.put, List.setIfInBounds_toArray, List.set_cons_succ, List.set_cons_zero]
          refine wpAnyH_takeAt (i := 12) (v := .bool false) 97 rfl rfl (by kernel_rfl) (by kernel_rfl) (by kernel_rfl) (fun _ _ _ h => h) (Or.inl ⟨by rfl, ?_⟩) hHeld ?_
          · intro W hW
            try dsimp only at hW
            go_simp
            try (intro h00; exact absurd h00 x4)
          simp only [Act.put, List.setIfInBounds_toArray, List.set_cons_succ, List.set_cons_zero]
          refine wpAnyH_takeAt (i := 13) (v := .bool false) 98 rfl rfl (by kernel_rfl) (by kernel_rfl) (by kernel_rfl) (fun _ _ _ h => h) (Or.inl ⟨by rfl, ?_⟩) hHeld ?_
          · intro W hW
            try dsimp only at hW
            go_simp
            try (intro h00; exact absurd h00 x4)
          simp only [Act.put, List.setIfInBounds_toArray, List.set_cons_succ, List.set_cons_zero]
          refine wpAnyH_takeAt (i := 14) (v := .agg #[.slice xkA nk xkc, .slice xvA nv xvc]) 99 rfl rfl (by kernel_rfl) (by kernel_rfl) (by kernel_rfl) (fun _ _ _ h => h) (Or.inl ⟨by rfl, ?_⟩) hHeld ?_
          · intro W hW
            try dsimp only at hW
            go_simp
            try (intro h00; exact absurd h00 x4)
          simp only [Act.put, List.setIfInBounds_toArray, List.set_cons_succ, List.set_cons_zero]
          refine wpAnyH_takeAt (i := 15) (v := .slice (some ⟨pa, oa, none⟩) n c) 100 rfl rfl (by kernel_rfl) (by kernel_rfl) (by kernel_rfl) (fun _ _ _ h => h) (Or.inl ⟨by rfl, ?_⟩) hHeld ?_
          · intro W hW
            try dsimp only at hW
            go_simp
            try (intro h00; exact absurd h00 x4)
          simp only [Act.put, List.setIfInBounds_toArray, List.set_cons_succ, List.set_cons_zero]
          refine wpAnyH_takeAt (i := 16) (v := .int .i64 (j : Int)) 101 rfl rfl (by kernel_rfl) (by kernel_rfl) (by kernel_rfl) (fun _ _ _ h => h) (Or.inl ⟨by rfl, ?_⟩) hHeld ?_
          · intro W hW
            try dsimp only at hW
            go_simp
            try (intro h00; exact absurd h00 x4)
          simp only [Act.put, List.setIfInBounds_toArray, List.set_cons_succ, List.set_cons_zero]
          refine wpAnyH_takeAt (i := 17) (v := .pointer (some ⟨pa, oa + j * 2, none⟩)) 102 rfl rfl (by kernel_rfl) (by kernel_rfl) (by kernel_rfl) (fun _ _ _ h => h) (Or.inl ⟨by rfl, ?_⟩) hHeld ?_
          · intro W hW
            try dsimp only at hW
            go_simp
            try (intro h00; exact absurd h00 x4)
          simp only [Act.put, List.setIfInBounds_toArray, List.set_cons_succ, List.set_cons_zero]
          refine wpAnyH_takeAt (i := 18) (v := .agg #[.slice ekA nk ekc, .slice evA nv evc]) 103 rfl rfl (by kernel_rfl) (by kernel_rfl) (by kernel_rfl) (fun _ _ _ h => h) (Or.inl ⟨by rfl, ?_⟩) hHeld ?_
          · intro W hW
            try dsimp only at hW
            go_simp
            try (intro h00; exact absurd h00 x4)
          simp only [Act.put, List.setIfInBounds_toArray, List.set_cons_succ, List.set_cons_zero]
          refine wpAnyH_ready (rs := [19]) (by kernel_rfl) (by simp) ?_
          refine AllReadyH.cons rfl (fun K hK => ?_) AllReadyH.nil
          go_simp
          refine (HSM.out _ DB.out).mono ?_
          rintro z wc ⟨rfl, b9⟩
          have DC := Lib.hid (DB.out.trans (b9.mono DB.out.size))
          have k3 := HKS.out _ DC.out
          clear b9
          refine hK.out _ _ k3 (fun hHeld2 => ?_)
          clear hK K hHeld
          have hHeld := hHeld2
          clear hHeld2
          try simp only [Act.put, List.setIfInBounds_toArray, List.set_cons_succ, List.set_cons_zero]
          refine wpAnyH_takeAt (i := 20) (v := .bool false) 105 rfl rfl (by kernel_rfl) (by kernel_rfl) (by kernel_rfl) (fun _ _ _ h => h) (Or.inl ⟨by rfl, ?_⟩) hHeld ?_
          · intro W hW
            try dsimp only at hW
            go_simp
            try (intro h00; exact absurd h00 x4)
          simp only [Act.put, List.setIfInBounds_toArray, List.set_cons_succ, List.set_cons_zero]
          refine wpAnyH_takeAt (i := 21) (v := .bool false) 106 rfl rfl (by kernel_rfl) (by kernel_rfl) (by kernel_rfl) (fun _ _ _ h => h) (Or.inl ⟨by rfl, ?_⟩) hHeld ?_
          · intro W hW
            try dsimp only at hW
            go_simp
            try (intro h00; exact absurd h00 x4)
          simp only [Act.put, List.setIfInBounds_toArray, List.set_cons_succ, List.set_cons_zero]
          refine wpAnyH_takeAt (i := 22) (v := .bool false) 107 rfl rfl (by kernel_rfl) (by kernel_rfl) (by kernel_rfl) (fun _ _ _ h => h) (Or.inl ⟨by rfl, ?_⟩) hHeld ?_
          · intro W hW
            try dsimp only at hW
            go_simp
            try (intro h00; exact absurd h00 x4)
          simp only [Act.put, List.setIfInBounds_toArray, List.set_cons_succ, List.set_cons_zero]
          refine wpAnyH_takeAt (i := 23) (v := .pointer (some ⟨q7, 0, none⟩)) 108 rfl rfl (by kernel_rfl) (by kernel_rfl) (by kernel_rfl) (fun _ _ _ h => h) (Or.inl ⟨by rfl, ?_⟩) hHeld ?_
          · intro W hW
            try dsimp only at hW
            go_simp
            try (intro h00; exact absurd h00 x4)
          simp only [Act.put, List.setIfInBounds_toArray, List.set_cons_succ, List.set_cons_zero]
          refine wpAnyH_takeAt (i := 24) (v := .slice xkA nk xkc) 109 rfl rfl (by kernel_rfl) (by kernel_rfl) (by kernel_rfl) (fun _ _ _ h => h) (Or.inl ⟨by rfl, ?_⟩) hHeld ?_
          · intro W hW
            try dsimp only at hW
            go_simp
            try (intro h00; exact absurd h00 x4)
          simp only [Act.put, List.setIfInBounds_toArray, List.set_cons_succ, List.set_cons_zero]
          refine wpAnyH_takeAt (i := 25) (v := .slice (some ⟨pa, oa, none⟩) n c) 110 rfl rfl (by kernel_rfl) (by kernel_rfl) (by kernel_rfl) (fun _ _ _ h => h) (Or.inl ⟨by rfl, ?_⟩) hHeld ?_
          · intro W hW
            try dsimp only at hW
            go_simp
            try (intro h00; exact absurd h00 x4)
          simp only [Act.put, List.setIfInBounds_toArray, List.set_cons_succ, List.set_cons_zero]
          refine wpAnyH_takeAt (i := 26) (v := .int .i64 (j : Int)) 111 rfl rfl (by kernel_rfl) (by kernel_rfl) (by kernel_rfl) (fun _ _ _ h => h) (Or.inl ⟨by rfl, ?_⟩) hHeld ?_
          · intro W hW
            try dsimp only at hW
            go_simp
            try (intro h00; exact absurd h00 x4)
          simp only [Act.put, List.setIfInBounds_toArray, List.set_cons_succ, List.set_cons_zero]
          refine wpAnyH_takeAt (i := 27) (v := .pointer (some ⟨pa, oa + j * 2, none⟩)) 112 rfl rfl (by kernel_rfl) (by kernel_rfl) (by kernel_rfl) (fun _ _ _ h => h) (Or.inl ⟨by rfl, ?_⟩) hHeld ?_
          · intro W hW
            try dsimp only at hW
            go_simp
            try (intro h00; exact absurd h00 x4)
          simp only [Act.put, List.setIfInBounds_toArray, List.set_cons_succ, List.set_cons_zero]
          refine wpAnyH_takeAt (i := 28) (v := .pointer (some ⟨pa, oa + j * 2, none⟩)) 113 rfl rfl (by kernel_rfl) (by kernel_rfl) (by kernel_rfl) (fun _ _ _ h => h) (Or.inl ⟨by rfl, ?_⟩) hHeld ?_
          · intro W hW
            try dsimp only at hW
            go_simp
            try (intro h00; exact absurd h00 x4)
          simp only [Act.put, List.setIfInBounds_toArray, List.set_cons_succ, List.set_cons_zero]
          refine wpAnyH_takeAt (i := 29) (v := .slice ekA nk ekc) 114 rfl rfl (by kernel_rfl) (by kernel_rfl) (by kernel_rfl) (fun _ _ _ h => h) (Or.inl ⟨by rfl, ?_⟩) hHeld ?_
          · intro W hW
            try dsimp only at hW
            go_simp
            try (intro h00; exact absurd h00 x4)
          simp only [Act.put, List.setIfInBounds_toArray, List.set_cons_succ, List.set_cons_zero]
          refine wpAnyH_ready (rs := [30]) (by kernel_rfl) (by simp) ?_
          refine AllReadyH.cons rfl (fun K hK => ?_) AllReadyH.nil
          go_simp
          refine (HT1.out _ DC.out).mono ?_
          rintro z wd ⟨rfl, b9⟩
          have DD := Lib.hid (DC.out.trans (b9.mono DC.out.size))
          have k4 := HKS.out _ DD.out
          clear b9
          refine hK.out _ _ k4 (fun hHeld2 => ?_)
          clear hK K hHeld
          have hHeld := hHeld2
          clear hHeld2
          try simp only [Act.put, List.setIfInBounds_toArray, List.set_cons_succ, List.set_cons_zero]
          refine wpAnyH_takeAt (i := 31) (v := .bool false) 116 rfl rfl (by kernel_rfl) (by kernel_rfl) (by kernel_rfl) (fun _ _ _ h => h) (Or.inl ⟨by rfl, ?_⟩) hHeld ?_
          · intro W hW
            try dsimp only at hW
            go_simp
            try (intro h00; exact absurd h00 x4)
          simp only [Act.put, List.setIfInBounds_toArray, List.set_cons_succ, List.set_cons_zero]
          refine wpAnyH_takeAt (i := 32) (v := .bool false) 117 rfl rfl (by kernel_rfl) (by kernel_rfl) (by kernel_rfl) (fun _ _ _ h => h) (Or.inl ⟨by rfl, ?_⟩) hHeld ?_
          · intro W hW
            try dsimp only at hW
            go_simp
            try (intro h00; exact absurd h00 x4)
          simp only [Act.put, List.setIfInBounds_toArray, List.set_cons_succ, List.set_cons_zero]
          refine wpAnyH_takeAt (i := 33) (v := .bool false) 118 rfl rfl (by kernel_rfl) (by kernel_rfl) (by kernel_rfl) (fun _ _ _ h => h) (Or.inl ⟨by rfl, ?_⟩) hHeld ?_
          · intro W hW
            try dsimp only at hW
            go_simp
            try (intro h00; exact absurd h00 x4)
          simp only [Act.put, List.setIfInBounds_toArray, List.set_cons_succ, List.set_cons_zero]
          refine wpAnyH_takeAt (i := 34) (v := .pointer (some ⟨q7, 1, none⟩)) 119 rfl rfl (by kernel_rfl) (by kernel_rfl) (by kernel_rfl) (fun _ _ _ h => h) (Or.inl ⟨by rfl, ?_⟩) hHeld ?_
          · intro W hW
            try dsimp only at hW
            go_simp
            try (intro h00; exact absurd h00 x4)
          simp only [Act.put, List.setIfInBounds_toArray, List.set_cons_succ, List.set_cons_zero]
          refine wpAnyH_takeAt (i := 35) (v := .slice xvA nv xvc) 120 rfl rfl (by kernel_rfl) (by kernel_rfl) (by kernel_rfl) (fun _ _ _ h => h) (Or.inl ⟨by rfl, ?_⟩) hHeld ?_
          · intro W hW
            try dsimp only at hW
            go_simp
            try (intro h00; exact absurd h00 x4)
          simp only [Act.put, List.setIfInBounds_toArray, List.set_cons_succ, List.set_cons_zero]
          refine wpAnyH_takeAt (i := 36) (v := .slice (some ⟨pa, oa, none⟩) n c) 121 rfl rfl (by kernel_rfl) (by kernel_rfl) (by kernel_rfl) (fun _ _ _ h => h) (Or.inl ⟨by rfl, ?_⟩) hHeld ?_
          · intro W hW
            try dsimp only at hW
            go_simp
            try (intro h00; exact absurd h00 x4)
          simp only [Act.put, List.setIfInBounds_toArray, List.set_cons_succ, List.set_cons_zero]
          refine wpAnyH_takeAt (i := 37) (v := .int .i64 (j : Int)) 122 rfl rfl (by kernel_rfl) (by kernel_rfl) (by kernel_rfl) (fun _ _ _ h => h) (Or.inl ⟨by rfl, ?_⟩) hHeld ?_
          · intro W hW
            try dsimp only at hW
            go_simp
            try (intro h00; exact absurd h00 x4)
          simp only [Act.put, List.setIfInBounds_toArray, List.set_cons_succ, List.set_cons_zero]
          refine wpAnyH_takeAt (i := 38) (v := .pointer (some ⟨pa, oa + j * 2, none⟩)) 123 rfl rfl (by kernel_rfl) (by kernel_rfl) (by kernel_rfl) (fun _ _ _ h => h) (Or.inl ⟨by rfl, ?_⟩) hHeld ?_
          · intro W hW
            try dsimp only at hW
            go_simp
            try (intro h00; exact absurd h00 x4)
          simp only [Act.put, List.setIfInBounds_toArray, List.set_cons_succ, List.set_cons_zero]
          refine wpAnyH_takeAt (i := 39) (v := .pointer (some ⟨pa, oa + j * 2 + 1, none⟩)) 124 rfl rfl (by kernel_rfl) (by kernel_rfl) (by kernel_rfl) (fun _ _ _ h => h) (Or.inl ⟨by rfl, ?_⟩) hHeld ?_
          · intro W hW
            try dsimp only at hW
            go_simp
            try (intro h00; exact absurd h00 x4)
          simp only [Act.put, List.setIfInBounds_toArray, List.set_cons_succ, List.set_cons_zero]
          refine wpAnyH_takeAt (i := 40) (v := .slice evA nv evc) 125 rfl rfl (by kernel_rfl) (by kernel_rfl) (by kernel_rfl) (fun _ _ _ h => h) (Or.inl ⟨by rfl, ?_⟩) hHeld ?_
          · intro W hW
            try dsimp only at hW
            go_simp
            try (intro h00; exact absurd h00 x4)
          simp only [Act.put, List.setIfInBounds_toArray, List.set_cons_succ, List.set_cons_zero]
          refine wpAnyH_ready (rs := [41]) (by kernel_rfl) (by simp) ?_
          refine AllReadyH.cons rfl (fun K hK => ?_) AllReadyH.nil
          go_simp
          refine (HT2.out _ DD.out).mono ?_
          rintro z we ⟨rfl, b9⟩
          have DE := Lib.hid (DD.out.trans (b9.mono DD.out.size))
          have k5 := HKS.out _ DE.out
          clear b9
          refine hK.out _ _ k5 (fun hHeld2 => ?_)
          clear hK K hHeld
          have hHeld := hHeld2
          clear hHeld2
          try simp only [Act.put, List.setIfInBounds_toArray, List.set_cons_succ, List.set_cons_zero]
          refine wpAnyH_takeAt (i := 42) (v := .bool false) 127 rfl rfl (by kernel_rfl) (by kernel_rfl) (by kernel_rfl) (fun _ _ _ h => h) (Or.inl ⟨by rfl, ?_⟩) hHeld ?_
          · intro W hW
            try dsimp only at hW
            go_simp
            try (intro h00; exact absurd h00 x4)
          simp only [Act.put, List.setIfInBounds_toArray, List.set_cons_succ, List.set_cons_zero]
          refine wpAnyH_takeAt (i := 43) (v := .bool false) 128 rfl rfl (by kernel_rfl) (by kernel_rfl) (by kernel_rfl) (fun _ _ _ h => h) (Or.inl ⟨by rfl, ?_⟩) hHeld ?_
          · intro W hW
            try dsimp only at hW
            go_simp
            try (intro h00; exact absurd h00 x4)
          simp only [Act.put, List.setIfInBounds_toArray, List.set_cons_succ, List.set_cons_zero]
          refine wpAnyH_done (by kernel_rfl) ?_ _
          refine NoPanic.normal ?_
          refine gen_post (fun W : World => Below w7.heap.size w7 W) DE.out ?_
          intro w8 h8
          have HB8 := Lib.hid h8
          clear h8
          clear D0 k0
          go_upto_region 21 with (fail)
          have D0 := Lib.hid (show Below w7.heap.size w7 w8.drew from HB8.out.trans (below_drewN (Below.refl _ w8) 1))
          have k0 := HKT.out _ D0.out
          cases g1 with
          | true =>
            refine wp_region_noPanic ?_
            refine wp_region_held_drew (S := (fun W : World => (W.cell? ⟨pa, oa, none⟩ = some (.slice fkA mk fkc) ∧ W.cell? ⟨pa, oa + 1, none⟩ = some (.slice fvA mv fvc)) ∧ (W.cell? ⟨pa, oa + j * 2, none⟩ = some (.slice ekA nk ekc) ∧ W.cell? ⟨pa, oa + j * 2 + 1, none⟩ = some (.slice evA nv evc)))) (by kernel_rfl) k0 (fun hHeld => ?_)
            refine wpAnyH_takeAt (i := 0) (v := .slice (some ⟨pa, oa, none⟩) n c) 129 rfl rfl (by kernel_rfl) (by kernel_rfl) (by kernel_rfl) (fun _ _ _ h => h) (Or.inl ⟨by rfl, ?_⟩) hHeld ?_
            · intro W hW
              try dsimp only at hW
              go_simp
              try (intro h00; exact absurd h00 x4)
            simp only [Act.put, List.setIfInBounds_toArray, List.set_cons_succ, List.set_cons_zero]
            refine wpAnyH_takeAt (i := 1) (v := .pointer (some ⟨pa, oa, none⟩)) 130 rfl rfl (by kernel_rfl) (by kernel_rfl) (by kernel_rfl) (fun _ _ _ h => h) (Or.inl ⟨by rfl, ?_⟩) hHeld ?_
            · intro W hW
              try dsimp only at hW
              go_simp
              try (intro h00; exact absurd h00 x4)
            simp only [Act.put, List.setIfInBounds_toArray, List.set_cons_succ, List.set_cons_zero]
            refine wpAnyH_takeAt (i := 2) (v := .agg #[.slice fkA mk fkc, .slice fvA mv fvc]) 131 rfl rfl (by kernel_rfl) (by kernel_rfl) (by kernel_rfl) (fun _ _ _ h => h) (Or.inl ⟨by rfl, ?_⟩) hHeld ?_
            · intro W hW
              try dsimp only at hW
              go_simp
              try (intro h00; exact absurd h00 x4)
            simp only [Act.put, List.setIfInBounds_toArray, List.set_cons_succ, List.set_cons_zero]
            refine wpAnyH_takeAt (i := 3) (v := .slice (some ⟨pa, oa, none⟩) n c) 132 rfl rfl (by kernel_rfl) (by kernel_rfl) (by kernel_rfl) (fun _ _ _ h => h) (Or.inl ⟨by rfl, ?_⟩) hHeld ?_
            · intro W hW
              try dsimp only at hW
              go_simp
              try (intro h00; exact absurd h00 x4)
            simp only [Act.put, List.setIfInBounds_toArray, List.set_cons_succ, List.set_cons_zero]
            refine wpAnyH_takeAt (i := 4) (v := .int .i64 (j : Int)) 133 rfl rfl (by kernel_rfl) (by kernel_rfl) (by kernel_rfl) (fun _ _ _ h => h) (Or.inl ⟨by rfl, ?_⟩) hHeld ?_
            · intro W hW
              try dsimp only at hW
              go_simp
              try (intro h00; exact absurd h00 x4)
            simp only [Act.put, List.setIfInBounds_toArray, List.set_cons_succ, List.set_cons_zero]
            refine wpAnyH_takeAt (i := 5) (v := .pointer (some ⟨pa, oa + j * 2, none⟩)) 134 rfl rfl (by kernel_rfl) (by kernel_rfl) (by kernel_rfl) (fun _ _ _ h => h) (Or.inl ⟨by rfl, ?_⟩) hHeld ?_
            · intro W hW
              try dsimp only at hW
              go_simp
              try (intro h00; exact absurd h00 x4)
            simp only [Act.put, List.setIfInBounds_toArray, List.set_cons_succ, List.set_cons_zero]
            refine wpAnyH_takeAt (i := 6) (v := .agg #[.slice ekA nk ekc, .slice evA nv evc]) 135 rfl rfl (by kernel_rfl) (by kernel_rfl) (by kernel_rfl) (fun _ _ _ h => h) (Or.inl ⟨by rfl, ?_⟩) hHeld ?_
            · intro W hW
              try dsimp only at hW
              go_simp
              try (intro h00; exact absurd h00 x4)
            simp only [Act.put, List.setIfInBounds_toArray, List.set_cons_succ, List.set_cons_zero]
            refine wpAnyH_takeAt (i := 8) (v := .slice (some ⟨pa, oa, none⟩) n c) 137 rfl rfl (by kernel_rfl) (by kernel_rfl) (by kernel_rfl) (fun _ _ _ h => h) (Or.inl ⟨by rfl, ?_⟩) hHeld ?_
            · intro W hW
              try dsimp only at hW
              go_simp
              try (intro h00; exact absurd h00 x4)
            simp only [Act.put, List.setIfInBounds_toArray, List.set_cons_succ, List.set_cons_zero]
            refine wpAnyH_takeAt (i := 9) (v := .pointer (some ⟨pa, oa, none⟩)) 138 rfl rfl (by kernel_rfl) (by kernel_rfl) (by kernel_rfl) (fun _ _ _ h => h) (Or.inl ⟨by rfl, ?_⟩) hHeld ?_
            · intro W hW
              try dsimp only at hW
              go_simp
              try (intro h00; exact absurd h00 x4)
            simp only [Act.put, List.setIfInBounds_toArray, List.set_cons_succ, List.set_cons_zero]
            refine wpAnyH_takeAt (i := 10) (v := .pointer (some ⟨pa, oa, none⟩)) 139 rfl rfl (by kernel_rfl) (by kernel_rfl) (by kernel_rfl) (fun _ _ _ h => h) (Or.inl ⟨by rfl, ?_⟩) hHeld ?_
            · intro W hW
              try dsimp only at hW
              go_simp
              try (intro h00; exact absurd h00 x4)
            simp only [Act.put, List.setIfInBounds_toArray, List.set_cons_succ, List.set_cons_zero]
            refine wpAnyH_takeAt (i := 11) (v := .slice fkA mk fkc) 140 rfl rfl (by kernel_rfl) (by kernel_rfl) (by kernel_rfl) (fun _ _ _ h => h) (Or.inl ⟨by rfl, ?_⟩) hHeld ?_
            · intro W hW
              try dsimp only at hW
              go_simp
              try (intro h00; exact absurd h00 x4)
            simp only [Act.put, List.setIfInBounds_toArray, List.set_cons_succ, List.set_cons_zero]
            refine wpAnyH_takeAt (i := 12) (v := .slice (some ⟨pa, oa, none⟩) n c) 141 rfl rfl (by kernel_rfl) (by kernel_rfl) (by kernel_rfl) (fun _ _ _ h => h) (Or.inl ⟨by rfl, ?_⟩) hHeld ?_
            · intro W hW
              try dsimp only at hW
              go_simp
              try (intro h00; exact absurd h00 x4)
            simp only [Act.put, List.setIfInBounds_toArray, List.set_cons_succ, List.set_cons_zero]
            refine wpAnyH_takeAt (i := 13) (v := .int .i64 (j : Int)) 142 rfl rfl (by kernel_rfl) (by kernel_rfl) (by kernel_rfl) (fun _ _ _ h => h) (Or.inl ⟨by rfl, ?_⟩) hHeld ?_
            · intro W hW
              try dsimp only at hW
              go_simp
              try (intro h00; exact absurd h00 x4)
            simp only [Act.put, List.setIfInBounds_toArray, List.set_cons_succ, List.set_cons_zero]
            refine wpAnyH_takeAt (i := 14) (v := .pointer (some ⟨pa, oa + j * 2, none⟩)) 143 rfl rfl (by kernel_rfl) (by kernel_rfl) (by kernel_rfl) (fun _ _ _ h => h) (Or.inl ⟨by rfl, ?_⟩) hHeld ?_
            · intro W hW
              try dsimp only at hW
              go_simp
              try (intro h00; exact absurd h00 x4)
            simp only [Act.put, List.setIfInBounds_toArray, List.set_cons_succ, List.set_cons_zero]
            refine wpAnyH_takeAt (i := 15) (v := .pointer (some ⟨pa, oa + j * 2, none⟩)) 144 rfl rfl (by kernel_rfl) (by kernel_rfl) (by kernel_rfl) (fun _ _ _ h => h) (Or.inl ⟨by rfl, ?_⟩) hHeld ?_
            · intro W hW
              try dsimp only at hW
              go_simp
              try (intro h00; exact absurd h00 x4)
            simp only [Act.put, List.setIfInBounds_toArray, List.set_cons_succ, List.set_cons_zero]
            refine wpAnyH_takeAt (i := 16) (v := .slice ekA nk ekc) 145 rfl rfl (by kernel_rfl) (by kernel_rfl) (by kernel_rfl) (fun _ _ _ h => h) (Or.inl ⟨by rfl, ?_⟩) hHeld ?_
            · intro W hW
              try dsimp only at hW
              go_simp
              try (intro h00; exact absurd h00 x4)
            simp only [Act.put, List.setIfInBounds_toArray, List.set_cons_succ, List.set_cons_zero]
            refine wpAnyH_ready (rs := [7]) (by kernel_rfl) (by simp) ?_
            refine AllReadyH.cons rfl (fun K hK => ?_) AllReadyH.nil
            go_simp
            refine (HSF.out _ D0.out).mono ?_
            rintro z wa ⟨rfl, b9⟩
            have DA := Lib.hid (D0.out.trans (b9.mono D0.out.size))
            have k1 := HKT.out _ DA.out
            clear b9
            refine hK.out _ _ k1 (fun hHeld2 => ?_)
            clear hK K hHeld
            have hHeld := hHeld2
            clear hHeld2
            try simp only [Act.put, List.setIfInBounds_toArray, List.set_cons_succ, List.set_cons_zero]
            refine wpAnyH_ready (rs := [17]) (by kernel_rfl) (by simp) ?_
            refine AllReadyH.cons rfl (fun K hK => ?_) AllReadyH.nil
            go_simp
            refine (HTF1.out _ DA.out).mono ?_
            rintro z wb ⟨rfl, b9⟩
            have DB := Lib.hid (DA.out.trans (b9.mono DA.out.size))
            have k2 := HKT.out _ DB.out
            clear b9
            refine hK.out _ _ k2 (fun hHeld2 => ?_)
            clear hK K hHeld
            have hHeld := hHeld2
            clear hHeld2
            try simp only [Act.put, List.setIfInBounds_toArray, List.set_cons_succ, List.set_cons_zero]
            refine wpAnyH_takeAt (i := 18) (v := .bool true) 147 rfl rfl (by kernel_rfl) (by kernel_rfl) (by kernel_rfl) (fun _ _ _ h => h) (Or.inl ⟨by rfl, ?_⟩) hHeld ?_
            · intro W hW
              try dsimp only at hW
              go_simp
              try (intro h00; exact absurd h00 x4)
            simp only [Act.put, List.setIfInBounds_toArray, List.set_cons_succ, List.set_cons_zero]
            refine wpAnyH_takeAt (i := 19) (v := .slice (some ⟨pa, oa, none⟩) n c) 148 rfl rfl (by kernel_rfl) (by kernel_rfl) (by kernel_rfl) (fun _ _ _ h => h) (Or.inl ⟨by rfl, ?_⟩) hHeld ?_
            · intro W hW
              try dsimp only at hW
              go_simp
              try (intro h00; exact absurd h00 x4)
            simp only [Act.put, List.setIfInBounds_toArray, List.set_cons_succ, List.set_cons_zero]
            refine wpAnyH_takeAt (i := 20) (v := .pointer (some ⟨pa, oa, none⟩)) 149 rfl rfl (by kernel_rfl) (by kernel_rfl) (by kernel_rfl) (fun _ _ _ h => h) (Or.inl ⟨by rfl, ?_⟩) hHeld ?_
            · intro W hW
              try dsimp only at hW
              go_simp
              try (intro h00; exact absurd h00 x4)
            simp only [Act.put, List.setIfInBounds_toArray, List.set_cons_succ, List.set_cons_zero]
            refine wpAnyH_takeAt (i := 21) (v := .pointer (some ⟨pa, oa + 1, none⟩)) 150 rfl rfl (by kernel_rfl) (by kernel_rfl) (by kernel_rfl) (fun _ _ _ h => h) (Or.inl ⟨by rfl, ?_⟩) hHeld ?_
            · intro W hW
              try dsimp only at hW
              go_simp
              try (intro h00; exact absurd h00 x4)
            simp only [Act.put, List.setIfInBounds_toArray, List.set_cons_succ, List.set_cons_zero]
            refine wpAnyH_takeAt (i := 22) (v := .slice fvA mv fvc) 151 rfl rfl (by kernel_rfl) (by kernel_rfl) (by kernel_rfl) (fun _ _ _ h => h) (Or.inl ⟨by rfl, ?_⟩) hHeld ?_
            · intro W hW
              try dsimp only at hW
              go_simp
              try (intro h00; exact absurd h00 x4)
            simp only [Act.put, List.setIfInBounds_toArray, List.set_cons_succ, List.set_cons_zero]
            refine wpAnyH_takeAt (i := 23) (v := .slice (some ⟨pa, oa, none⟩) n c) 152 rfl rfl (by kernel_rfl) (by kernel_rfl) (by kernel_rfl) (fun _ _ _ h => h) (Or.inl ⟨by rfl, ?_⟩) hHeld ?_
            · intro W hW
              try dsimp only at hW
              go_simp
              try (intro h00; exact absurd h00 x4)
            simp only [Act.put, List.setIfInBounds_toArray, List.set_cons_succ, List.set_cons_zero]
            refine wpAnyH_takeAt (i := 24) (v := .int .i64 (j : Int)) 153 rfl rfl (by kernel_rfl) (by kernel_rfl) (by kernel_rfl) (fun _ _ _ h => h) (Or.inl ⟨by rfl, ?_⟩) hHeld ?_
            · intro W hW
              try dsimp only at hW
              go_simp
              try (intro h00; exact absurd h00 x4)
            simp only [Act.put, List.setIfInBounds_toArray, List.set_cons_succ, List.set_cons_zero]
            refine wpAnyH_takeAt (i := 25) (v := .pointer (some ⟨pa, oa + j * 2, none⟩)) 154 rfl rfl (by kernel_rfl) (by kernel_rfl) (by kernel_rfl) (fun _ _ _ h => h) (Or.inl ⟨by rfl, ?_⟩) hHeld ?_
            · intro W hW
              try dsimp only at hW
              go_simp
              try (intro h00; exact absurd h00 x4)
            simp only [Act.put, List.setIfInBounds_toArray, List.set_cons_succ, List.set_cons_zero]
            refine wpAnyH_takeAt (i := 26) (v := .pointer (some ⟨pa, oa + j * 2 + 1, none⟩)) 155 rfl rfl (by kernel_rfl) (by kernel_rfl) (by kernel_rfl) (fun _ _ _ h => h) (Or.inl ⟨by rfl, ?_⟩) hHeld ?_
            · intro W hW
              try dsimp only at hW
              go_simp
              try (intro h00; exact absurd h00 x4)
            simp only [Act.put, List.setIfInBounds_toArray, List.set_cons_succ, List.set_cons_zero]
            refine wpAnyH_takeAt (i := 27) (v := .slice evA nv evc) 156 rfl rfl (by kernel_rfl) (by kernel_rfl) (by kernel_rfl) (fun _ _ _ h => h) (Or.inl ⟨by rfl, ?_⟩) hHeld ?_
            · intro W hW
              try dsimp only at hW
              go_simp
              try (intro h00; exact absurd h00 x4)
            simp only [Act.put, List.setIfInBounds_toArray, List.set_cons_succ, List.set_cons_zero]
            refine wpAnyH_ready (rs := [28]) (by kernel_rfl) (by simp) ?_
            refine AllReadyH.cons rfl (fun K hK => ?_) AllReadyH.nil
            go_simp
            refine (HTF2.out _ DB.out).mono ?_
            rintro z wc ⟨rfl, b9⟩
            have DC := Lib.hid (DB.out.trans (b9.mono DB.out.size))
            have k3 := HKT.out _ DC.out
            clear b9
            refine hK.out _ _ k3 (fun hHeld2 => ?_)
            clear hK K hHeld
            have hHeld := hHeld2
            clear hHeld2
            try simp only [Act.put, List.setIfInBounds_toArray, List.set_cons_succ, List.set_cons_zero]
            refine wpAnyH_takeAt (i := 29) (v := .bool g2) 158 rfl rfl (by kernel_rfl) (by kernel_rfl) (by kernel_rfl) (fun _ _ _ h => h) (Or.inl ⟨by rfl, ?_⟩) hHeld ?_
            · intro W hW
              try dsimp only at hW
              go_simp
              try (intro h00; exact absurd h00 x4)
            simp only [Act.put, List.setIfInBounds_toArray, List.set_cons_succ, List.set_cons_zero]
            refine wpAnyH_takeAt (i := 30) (v := .bool false) 159 rfl rfl (by kernel_rfl) (by kernel_rfl) (by kernel_rfl) (fun _ _ _ h => h) (Or.inl ⟨by rfl, ?_⟩) hHeld ?_
            · intro W hW
              try dsimp only at hW
              go_simp
              try (intro h00; exact absurd h00 x4)
            simp only [Act.put, List.setIfInBounds_toArray, List.set_cons_succ, List.set_cons_zero]
            refine wpAnyH_done (by kernel_rfl) ?_ _
            refine NoPanic.normal ?_
            refine gen_post (fun W : World => Below w7.heap.size w7 W) DC.out ?_
            intro w9 h9
            have HW9 := Lib.hid (HBR.out.trans (HB7.out.mono HBR.out.size))
            cases g2 with
            | true =>
              go_wp2_with (fail)
              try rw [HW1.out]
              exact ⟨⟨j + 1, rfl, HJ.out, HX7.out.trans (h9.mono HX7.out.size)⟩, vcLess j n HJ.out⟩
            | false =>
              go_wp2_with (fail)
              try rw [HW1.out]
              exact ⟨⟨j + 1, rfl, HJ.out, HX7.out.trans (h9.mono HX7.out.size)⟩, vcLess j n HJ.out⟩
          | false =>
            refine wp_region_noPanic ?_
            refine wp_region_held_drew (S := (fun W : World => (W.cell? ⟨pa, oa, none⟩ = some (.slice fkA mk fkc) ∧ W.cell? ⟨pa, oa + 1, none⟩ = some (.slice fvA mv fvc)) ∧ (W.cell? ⟨pa, oa + j * 2, none⟩ = some (.slice ekA nk ekc) ∧ W.cell? ⟨pa, oa + j * 2 + 1, none⟩ = some (.slice evA nv evc)))) (by kernel_rfl) k0 (fun hHeld => ?_)
            refine wpAnyH_takeAt (i := 0) (v := .slice (some ⟨pa, oa, none⟩) n c) 129 rfl rfl (by kernel_rfl) (by kernel_rfl) (by kernel_rfl) (fun _ _ _ h => h) (Or.inl ⟨by rfl, ?_⟩) hHeld ?_
            · intro W hW
              try dsimp only at hW
              go_simp
              try (intro h00; exact absurd h00 x4)
            simp only [Act.put, List.setIfInBounds_toArray, List.set_cons_succ, List.set_cons_zero]
            refine wpAnyH_takeAt (i := 1) (v := .pointer (some ⟨pa, oa, none⟩)) 130 rfl rfl (by kernel_rfl) (by kernel_rfl) (by kernel_rfl) (fun _ _ _ h => h) (Or.inl ⟨by rfl, ?_⟩) hHeld ?_
            · intro W hW
              try dsimp only at hW
              go_simp
              try (intro h00; exact absurd h00 x4)
            simp only [Act.put, List.setIfInBounds_toArray, List.set_cons_succ, List.set_cons_zero]
            refine wpAnyH_takeAt (i := 2) (v := .agg #[.slice fkA mk fkc, .slice fvA mv fvc]) 131 rfl rfl (by kernel_rfl) (by kernel_rfl) (by kernel_rfl) (fun _ _ _ h => h) (Or.inl ⟨by rfl, ?_⟩) hHeld ?_
            · intro W hW
              try dsimp only at hW
              go_simp
              try (intro h00; exact absurd h00 x4)
            simp only [Act.put, List.setIfInBounds_toArray, List.set_cons_succ, List.set_cons_zero]
            refine wpAnyH_takeAt (i := 3) (v := .slice (some ⟨pa, oa, none⟩) n c) 132 rfl rfl (by kernel_rfl) (by kernel_rfl) (by kernel_rfl) (fun _ _ _ h => h) (Or.inl ⟨by rfl, ?_⟩) hHeld ?_
            · intro W hW
              try dsimp only at hW
              go_simp
              try (intro h00; exact absurd h00 x4)
            simp only [Act.put, List.setIfInBounds_toArray, List.set_cons_succ, List.set_cons_zero]
            refine wpAnyH_takeAt (i := 4) (v := .int .i64 (j : Int)) 133 rfl rfl (by kernel_rfl) (by kernel_rfl) (by kernel_rfl) (fun _ _ _ h => h) (Or.inl ⟨by rfl, ?_⟩) hHeld ?_
            · intro W hW
              try dsimp only at hW
              go_simp
              try (intro h00; exact absurd h00 x4)
            simp only [Act.put, List.setIfInBounds_toArray, List.set_cons_succ, List.set_cons_zero]
            refine wpAnyH_takeAt (i := 5) (v := .pointer (some ⟨pa, oa + j * 2, none⟩)) 134 rfl rfl (by kernel_rfl) (by kernel_rfl) (by kernel_rfl) (fun _ _ _ h => h) (Or.inl ⟨by rfl, ?_⟩) hHeld ?_
            · intro W hW
              try dsimp only at hW
              go_simp
              try (intro h00; exact absurd h00 x4)
            simp only [Act.put, List.setIfInBounds_toArray, List.set_cons_succ, List.set_cons_zero]
            refine wpAnyH_takeAt (i := 6) (v := .agg #[.slice ekA nk ekc, .slice evA nv evc]) 135 rfl rfl (by kernel_rfl) (by kernel_rfl) (by kernel_rfl) (fun _ _ _ h => h) (Or.inl ⟨by rfl, ?_⟩) hHeld ?_
            · intro W hW
              try dsimp only at hW
              go_simp
              try (intro h00; exact absurd h00 x4)
            simp only [Act.put, List.setIfInBounds_toArray, List.set_cons_succ, List.set_cons_zero]
            refine wpAnyH_takeAt (i := 8) (v := .slice (some ⟨pa, oa, none⟩) n c) 137 rfl rfl (by kernel_rfl) (by kernel_rfl) (by kernel_rfl) (fun _ _ _ h => h) (Or.inl ⟨by rfl, ?_⟩) hHeld ?_
            · intro W hW
              try dsimp only at hW
              go_simp
              try (intro h00; exact absurd h00 x4)
            simp only [Act.put, List.setIfInBounds_toArray, List.set_cons_succ, List.set_cons_zero]
            refine wpAnyH_takeAt (i := 9) (v := .pointer (some ⟨pa, oa, none⟩)) 138 rfl rfl (by kernel_rfl) (by kernel_rfl) (by kernel_rfl) (fun _ _ _ h => h) (Or.inl ⟨by rfl, ?_⟩) hHeld ?_
            · intro W hW
              try dsimp only at hW
              go_simp
              try (intro h00; exact absurd h00 x4)
            simp only [Act.put, List.setIfInBounds_toArray, List.set_cons_succ, List.set_cons_zero]
            refine wpAnyH_takeAt (i := 10) (v := .pointer (some ⟨pa, oa, none⟩)) 139 rfl rfl (by kernel_rfl) (by kernel_rfl) (by kernel_rfl) (fun _ _ _ h => h) (Or.inl ⟨by rfl, ?_⟩) hHeld ?_
            · intro W hW
              try dsimp only at hW
              go_simp
              try (intro h00; exact absurd h00 x4)
            simp only [Act.put, List.setIfInBounds_toArray, List.set_cons_succ, List.set_cons_zero]
            refine wpAnyH_takeAt (i := 11) (v := .slice fkA mk fkc) 140 rfl rfl (by kernel_rfl) (by kernel_rfl) (by kernel_rfl) (fun _ _ _ h => h) (Or.inl ⟨by rfl, ?_⟩) hHeld ?_
            · intro W hW
              try dsimp only at hW
              go_simp
              try (intro h00; exact absurd h00 x4)
            simp only [Act.put, List.setIfInBounds_toArray, List.set_cons_succ, List.set_cons_zero]
            refine wpAnyH_takeAt (i := 12) (v := .slice (some ⟨pa, oa, none⟩) n c) 141 rfl rfl (by kernel_rfl) (by kernel_rfl) (by kernel_rfl) (fun _ _ _ h => h) (Or.inl ⟨by rfl, ?_⟩) hHeld ?_
            · intro W hW
              try dsimp only at hW
              go_simp
              try (intro h00; exact absurd h00 x4)
            simp only [Act.put, List.setIfInBounds_toArray, List.set_cons_succ, List.set_cons_zero]
            refine wpAnyH_takeAt (i := 13) (v := .int .i64 (j : Int)) 142 rfl rfl (by kernel_rfl) (by kernel_rfl) (by kernel_rfl) (fun _ _ _ h => h) (Or.inl ⟨by rfl, ?_⟩) hHeld ?_
            · intro W hW
              try dsimp only at hW
              go_simp
              try (intro h00; exact absurd h00 x4)
            simp only [Act.put, List.setIfInBounds_toArray, List.set_cons_succ, List.set_cons_zero]
            refine wpAnyH_takeAt (i := 14) (v := .pointer (some ⟨pa, oa + j * 2, none⟩)) 143 rfl rfl (by kernel_rfl) (by kernel_rfl) (by kernel_rfl) (fun _ _ _ h => h) (Or.inl ⟨by rfl, ?_⟩) hHeld ?_
            · intro W hW
              try dsimp only at hW
              go_simp
              try (intro h00; exact absurd h00 x4)
            simp only [Act.put, List.setIfInBounds_toArray, List.set_cons_succ, List.set_cons_zero]
            refine wpAnyH_takeAt (i := 15) (v := .pointer (some ⟨pa, oa + j * 2, none⟩)) 144 rfl rfl (by kernel_rfl) (by kernel_rfl) (by kernel_rfl) (fun _ _ _ h => h) (Or.inl ⟨by rfl, ?_⟩) hHeld ?_
            · intro W hW
              try dsimp only at hW
              go_simp
              try (intro h00; exact absurd h00 x4)
            simp only [Act.put, List.setIfInBounds_toArray, List.set_cons_succ, List.set_cons_zero]
            refine wpAnyH_takeAt (i := 16) (v := .slice ekA nk ekc) 145 rfl rfl (by kernel_rfl) (by kernel_rfl) (by kernel_rfl) (fun _ _ _ h => h) (Or.inl ⟨by rfl, ?_⟩) hHeld ?_
            · intro W hW
              try dsimp only at hW
              go_simp
              try (intro h00; exact absurd h00 x4)
            simp only [Act.put, List.setIfInBounds_toArray, List.set_cons_succ, List.set_cons_zero]
            refine wpAnyH_ready (rs := [7]) (by kernel_rfl) (by simp) ?_
            refine AllReadyH.cons rfl (fun K hK => ?_) AllReadyH.nil
            go_simp
            refine (HSF.out _ D0.out).mono ?_
            rintro z wa ⟨rfl, b9⟩
            have DA := Lib.hid (D0.out.trans (b9.mono D0.out.size))
            have k1 := HKT.out _ DA.out
            clear b9
            refine hK.out _ _ k1 (fun hHeld2 => ?_)
            clear hK K hHeld
            have hHeld := hHeld2
            clear hHeld2
            try simp only [Act.put, List.setIfInBounds_toArray, List.set_cons_succ, List.set_cons_zero]
            refine wpAnyH_ready (rs := [17]) (by kernel_rfl) (by simp) ?_
            refine AllReadyH.cons rfl (fun K hK => ?_) AllReadyH.nil
            go_simp
            refine (HTF1.out _ DA.out).mono ?_
            rintro z wb ⟨rfl, b9⟩
            have DB := Lib.hid (DA.out.trans (b9.mono DA.out.size))
            have k2 := HKT.out _ DB.out
            clear b9
            refine hK.out _ _ k2 (fun hHeld2 => ?_)
            clear hK K hHeld
            have hHeld := hHeld2
            clear hHeld2
            try simp only [Act.put, List.setIfInBounds_toArray, List.set_cons_succ, List.set_cons_zero]
            refine wpAnyH_takeAt (i := 18) (v := .bool false) 147 rfl rfl (by kernel_rfl) (by kernel_rfl) (by kernel_rfl) (fun _ _ _ h => h) (Or.inl ⟨by rfl, ?_⟩) hHeld ?_
            · intro W hW
              try dsimp only at hW
              go_simp
              try (intro h00; exact absurd h00 x4)
            simp only [Act.put, List.setIfInBounds_toArray, List.set_cons_succ, List.set_cons_zero]
            refine wpAnyH_takeAt (i := 19) (v := undef) 148 rfl rfl (by kernel_rfl) (by kernel_rfl) (by kernel_rfl) (fun _ _ _ h => h) (Or.inr ⟨by rfl, rfl⟩) hHeld ?_
            simp only [Act.put, List.setIfInBounds_toArray, List.set_cons_succ, List.set_cons_zero]
            refine wpAnyH_takeAt (i := 20) (v := undef) 149 rfl rfl (by kernel_rfl) (by kernel_rfl) (by kernel_rfl) (fun _ _ _ h => h) (Or.inr ⟨by rfl, rfl⟩) hHeld ?_
            simp only [Act.put, List.setIfInBounds_toArray, List.set_cons_succ, List.set_cons_zero]
            refine wpAnyH_takeAt (i := 21) (v := undef) 150 rfl rfl (by kernel_rfl) (by kernel_rfl) (by kernel_rfl) (fun _ _ _ h => h) (Or.inr ⟨by rfl, rfl⟩) hHeld ?_
            simp only [Act.put, List.setIfInBounds_toArray, List.set_cons_succ, List.set_cons_zero]
            refine wpAnyH_takeAt (i := 22) (v := undef) 151 rfl rfl (by kernel_rfl) (by kernel_rfl) (by kernel_rfl) (fun _ _ _ h => h) (Or.inr ⟨by rfl, rfl⟩) hHeld ?_
            simp only [Act.put, List.setIfInBounds_toArray, List.set_cons_succ, List.set_cons_zero]
            refine wpAnyH_takeAt (i := 23) (v := undef) 152 rfl rfl (by kernel_rfl) (by kernel_rfl) (by kernel_rfl) (fun _ _ _ h => h) (Or.inr ⟨by rfl, rfl⟩) hHeld ?_
            simp only [Act.put, List.setIfInBounds_toArray, List.set_cons_succ, List.set_cons_zero]
            refine wpAnyH_takeAt (i := 24) (v := undef) 153 rfl rfl (by kernel_rfl) (by kernel_rfl) (by kernel_rfl) (fun _ _ _ h => h) (Or.inr ⟨by rfl, rfl⟩) hHeld ?_
            simp only [Act.put, List.setIfInBounds_toArray, List.set_cons_succ, List.set_cons_zero]
            refine wpAnyH_takeAt (i := 25) (v := undef) 154 rfl rfl (by kernel_rfl) (by kernel_rfl) (by kernel_rfl) (fun _ _ _ h => h) (Or.inr ⟨by rfl, rfl⟩) hHeld ?_
            simp only [Act.put, List.setIfInBounds_toArray, List.set_cons_succ, List.set_cons_zero]
            refine wpAnyH_takeAt (i := 26) (v := undef) 155 rfl rfl (by kernel_rfl) (by kernel_rfl) (by kernel_rfl) (fun _ _ _ h => h) (Or.inr ⟨by rfl, rfl⟩) hHeld ?_
            simp only [Act.put, List.setIfInBounds_toArray, List.set_cons_succ, List.set_cons_zero]
            refine wpAnyH_takeAt (i := 27) (v := undef) 156 rfl rfl (by kernel_rfl) (by kernel_rfl) (by kernel_rfl) (fun _ _ _ h => h) (Or.inr ⟨by rfl, rfl⟩) hHeld ?_
            simp only [Act.put, List.setIfInBounds_toArray, List.set_cons_succ, List.set_cons_zero]
            refine wpAnyH_takeAt (i := 28) (v := undef) 157 rfl rfl (by kernel_rfl) (by kernel_rfl) (by kernel_rfl) (fun _ _ _ h => h) (Or.inr ⟨by rfl, rfl⟩) hHeld ?_
            simp only [Act.put, List.setIfInBounds_toArray, List.set_cons_succ, List.set_cons_zero]
            refine wpAnyH_takeAt (i := 29) (v := .bool false) 158 rfl rfl (by kernel_rfl) (by kernel_rfl) (by kernel_rfl) (fun _ _ _ h => h) (Or.inl ⟨by rfl, ?_⟩) hHeld ?_
            · intro W hW
              try dsimp only at hW
              go_simp
              try (intro h00; exact absurd h00 x4)
            simp only [Act.put, List.setIfInBounds_toArray, List.set_cons_succ, List.set_cons_zero]
            refine wpAnyH_takeAt (i := 30) (v := .bool false) 159 rfl rfl (by kernel_rfl) (by kernel_rfl) (by kernel_rfl) (fun _ _ _ h => h) (Or.inl ⟨by rfl, ?_⟩) hHeld ?_
            · intro W hW
              try dsimp only at hW
              go_simp
              try (intro h00; exact absurd h00 x4)
            simp only [Act.put, List.setIfInBounds_toArray, List.set_cons_succ, List.set_cons_zero]
            refine wpAnyH_done (by kernel_rfl) ?_ _
            refine NoPanic.normal ?_
            refine gen_post (fun W : World => Below w7.heap.size w7 W) DB.out ?_
            intro w9 h9
            go_wp2_with (fail)
            try rw [HW1.out]
            exact ⟨⟨j + 1, rfl, HJ.out, HX7.out.trans (h9.mono HX7.out.size)⟩, vcLess j n HJ.out⟩
        · have hje : n = j := by omega
          subst hje
          have x0 : ¬ (n : Int) < (n : Int) := by omega
          have x1 : decide ((n : Int) < (n : Int)) = false := decide_eq_false x0
          have HHR := Lib.hid (Rf.stays HH5.out HBR.out)
          have HES := Lib.hid (fun (W : World) (hW : Below wr.heap.size wr W) => show EsIn W G Q from ⟨(HG5.out.below HBR.out).below hW, fun y hy => ((HA.out.all y hy).below HWR.out).below hW⟩)
          have HTS := Lib.hid (two_steps wr x s b A n c G gc Q tok HHR.out HKX.out HQ.out (by have := HN.out; omega) (HA.out.below HWR.out) HES.out (HPG.out.1.below HWR.out (Nat.le_refl _)) (HPG.out.2.below HWR.out (Nat.le_refl _)))
          obtain ⟨E, SC, kz, hsz, hst, hrt⟩ := HTS.out
          have HSZ := Lib.hid hsz
          have HST := Lib.hid hst
          have HRT := Lib.hid hrt
          unfold TS eV at HST HRT
          unfold mdV at HRT
          clear hsz hst hrt HTS HES
          go_upto_region 24 with (go_at_call 14; refine HST.out.mono ?_; rintro z w6 ⟨r6, SA, sc, rfl, e6, k6, b6⟩; have HE6 := Lib.hid e6; have HK6 := Lib.hid k6; have HB6 := Lib.hid b6; clear e6 k6 b6)
          have HB7 := Lib.hid (show Below wr.heap.size wr (w6.alloc (.cells #[.slice r6.kA E.ks.length r6.kc, .slice r6.vA E.vs.length r6.vc] 29)) from HB6.out.alloc HB6.out.size _)
          have HN7 := Lib.hid (heap_alloc_new w6 (.cells #[.slice r6.kA E.ks.length r6.kc, .slice r6.vA E.vs.length r6.vc] 29))
          have hal := (Below.refl w6.heap.size w6).alloc (Nat.le_refl _) (.cells #[.slice r6.kA E.ks.length r6.kc, .slice r6.vA E.vs.length r6.vc] 29)
          have HE7 := Lib.hid (HE6.out.below hal)
          have HK7 := Lib.hid (HK6.out.below hal (Nat.le_refl _))
          clear hal
          generalize hq7 : w6.heap.size = q7 at HN7
          generalize w6.alloc (.cells #[.slice r6.kA E.ks.length r6.kc, .slice r6.vA E.vs.length r6.vc] 29) = w7 at HB7 HN7 HE7 HK7 ⊢
          try rw [hq7]
          clear HE6 HK6 HB6 hq7
          obtain ⟨m0, m1, m2, m3, m4, m5, m6⟩ := Rf.seven (Rf.stays (Rf.stays HM5.out HBR.out) HB7.out)
          have HR7 := Lib.hid (HRT.out w7 HB7.out)
          go_upto_region 25 with (go_at_call 15; refine HR7.out.mono ?_; rintro z w8 ⟨r8, SB, sd, rfl, e8, k8, b8⟩; have HE8 := Lib.hid e8; have HK8 := Lib.hid k8; have HB8 := Lib.hid b8; clear e8 k8 b8)
          clear m0 m1 m2 m3 m4 m5 m6
          have HB9 := Lib.hid (show Below w7.heap.size w7 (w8.alloc (.cells #[.slice r8.kA E.ks.length r8.kc, .slice r8.vA E.vs.length r8.vc] 42)) from HB8.out.alloc HB8.out.size _)
          have HN9 := Lib.hid (heap_alloc_new w8 (.cells #[.slice r8.kA E.ks.length r8.kc, .slice r8.vA E.vs.length r8.vc] 42))
          have hal := (Below.refl w8.heap.size w8).alloc (Nat.le_refl _) (.cells #[.slice r8.kA E.ks.length r8.kc, .slice r8.vA E.vs.length r8.vc] 42)
          have HE9 := Lib.hid (HE8.out.below hal)
          have HK9 := Lib.hid (HK8.out.below hal (Nat.le_refl _))
          clear hal
          generalize hq9 : w8.heap.size = q9 at HN9
          generalize w8.alloc (.cells #[.slice r8.kA E.ks.length r8.kc, .slice r8.vA E.vs.length r8.vc] 42) = w9 at HB9 HN9 HE9 HK9 ⊢
          try rw [hq9]
          clear HE8 HK8 HB8 hq9
          have HM9 := Lib.hid (Rf.stays HN7.out HB9.out)
          have HF9 := Lib.hid (HE7.out.below HB9.out)
          have HL9 := Lib.hid (HK7.out.below HB9.out (Nat.le_refl _))
          have HW9 := Lib.hid (HWR.out.trans ((HB7.out.trans (HB9.out.mono HB7.out.size)).mono HWR.out.size))
          have HKS := Lib.hid (fun (W : World) (hW : Below w9.heap.size w9 W) => show (W.cell? ⟨q7, 0, none⟩ = some (.slice r6.kA E.ks.length r6.kc) ∧ W.cell? ⟨q7, 1, none⟩ = some (.slice r6.vA E.vs.length r6.vc)) ∧ (W.cell? ⟨q9, 0, none⟩ = some (.slice r8.kA E.ks.length r8.kc) ∧ W.cell? ⟨q9, 1, none⟩ = some (.slice r8.vA E.vs.length r8.vc)) from
            ⟨⟨cell_hb hW (en0 HM9.out), cell_hb hW (en1 HM9.out)⟩, ⟨cell_hb hW (ce0 HN9.out), cell_hb hW (ce1 HN9.out)⟩⟩)
          have HIN := Lib.hid (show Calls Tryz.prog 16 #[.slice SA SC.length sc, .slice SB SC.length sd] w9 fun e w' => e = .returned (.bool true) ∧ Below w9.heap.size w9 w' from by
            have h := ints_big w9 SA SC.length sc SB SC.length sd SC SC rfl rfl HSZ.out.2.2 HL9.out HK9.out
            rw [decide_eq_true rfl] at h
            refine h.mono ?_
            rintro e w' ⟨h1, k, rfl⟩
            exact ⟨h1, below_drewN (Below.refl _ _) k⟩)
          have HT1 := Lib.hid (fun (W : World) (hW : Below w9.heap.size w9 W) => show Calls Tryz.prog 13 #[.slice r6.kA E.ks.length r6.kc, .slice r8.kA E.ks.length r8.kc] W fun e' w' => e' = .returned (.bool true) ∧ Below W.heap.size W w' from by
            have h := law_table W r6.kA E.ks.length r6.kc r6.kB r6.kC E.ks r8.kA E.ks.length r8.kc r8.kB r8.kC E.ks rfl rfl (by have := HSZ.out.1.1; omega) (fun i hi => by have := HSZ.out.1.2 i hi; omega) (HF9.out.below hW).k.is (HE9.out.below hW).k.is
            rw [decide_eq_true rfl] at h
            exact h)
          have HT2 := Lib.hid (fun (W : World) (hW : Below w9.heap.size w9 W) => show Calls Tryz.prog 13 #[.slice r6.vA E.vs.length r6.vc, .slice r8.vA E.vs.length r8.vc] W fun e' w' => e' = .returned (.bool true) ∧ Below W.heap.size W w' from by
            have h := law_table W r6.vA E.vs.length r6.vc r6.vB r6.vC E.vs r8.vA E.vs.length r8.vc r8.vB r8.vC E.vs rfl rfl (by have := HSZ.out.2.1.1; omega) (fun i hi => by have := HSZ.out.2.1.2 i hi; omega) (HF9.out.below hW).v.is (HE9.out.below hW).v.is
            rw [decide_eq_true rfl] at h
            exact h)
          have HGN := Lib.hid (fun (W : World) => show Calls Tryz.prog 10 #[.pointer none, .agg #[.slice r6.kA E.ks.length r6.kc, .slice r6.vA E.vs.length r6.vc]] W fun z w' => z = .returned (.bool false) ∧ Below W.heap.size W w' from step_good_none W r6 E)
          have t7 : (kz == kz) = true := by simp
          clear HM9 HF9 HL9 HE9 HK9 HN9 HSZ HST HRT HR7 HN7 HE7 HK7
          obtain ⟨⟨c0, c1⟩, c2, c3⟩ := HKS.out w9 (Below.refl _ _)
          go_wp2_with (fail)
          refine HIN.out.mono ?_
          rintro e wa ⟨rfl, ba⟩
          have HBA := Lib.hid ba
          clear ba c0 c1 c2 c3
          obtain ⟨⟨c0, c1⟩, c2, c3⟩ := HKS.out wa HBA.out
          go_wp2_with (fail)
          refine (HT1.out wa HBA.out).mono ?_
          rintro e wb ⟨rfl, bb⟩
          have HBB := Lib.hid (HBA.out.trans (bb.mono HBA.out.size))
          clear bb c0 c1 c2 c3
          obtain ⟨⟨c0, c1⟩, c2, c3⟩ := HKS.out wb HBB.out
          go_wp2_with (fail)
          refine (HT2.out wb HBB.out).mono ?_
          rintro e wc ⟨rfl, bc⟩
          have HBC := Lib.hid (HBB.out.trans (bc.mono HBB.out.size))
          clear bc c0 c1 c2 c3
          obtain ⟨⟨c0, c1⟩, c2, c3⟩ := HKS.out wc HBC.out
          go_wp2_with (fail)
          refine (HGN.out wc).mono ?_
          rintro e wd ⟨rfl, bd⟩
          have HBD := Lib.hid (HBC.out.trans (bd.mono HBC.out.size))
          clear bd c0 c1 c2 c3
          go_wp2_with (fail)
          exact bodyPost_ret (results_tmp rfl _ _ _) rfl ⟨rfl, HW9.out.trans (HBD.out.mono HW9.out.size)⟩
end stepExact
end Go.Proofs.YtkdkeokldcehhaaGreatDoor
