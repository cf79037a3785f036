/-
  Package patch: what Apply answers. Conditions: the deeds stand where it looks, a million at most; the base has 2^30 bytes at most.
-/
import Derived.Test.YtiehpaffbaafcaaPt2
namespace Go.Proofs.Ytiehpaffbaafcaa
open Go.ChangeShapes Go.WideShapes Go.ChangeAt Go.RowKit Pn Pt
namespace Pt
theorem deeds_at {L : List Deed} {j : Nat} (h : j < L.length) : L.drop j = L.getD j dz :: L.drop (j + 1) := by
  rw [List.drop_eq_getElem_cons h, List.getD_eq_getElem?_getD, List.getElem?_eq_getElem h]
  rfl
theorem deed_at {L : List Deed} {j : Nat} (h : j < L.length) : L[j]? = some (L.getD j dz) := by
  rw [List.getD_eq_getElem?_getD, List.getElem?_eq_getElem h]
  rfl
theorem ok_size {n : Int} {o : Deed} (h : okD n o = true) : 0 ≤ o.s ∧ o.s ≤ n ∨ o.s = 0 := by
  cases way h with
  | copy k d i => have := ins_iff.1 i; omega
  | lay k f s t => omega
  | add k s t i => omega
theorem ok_data {n : Int} {o : Deed} (h : okD n o = true) : o.d.size ≤ 8192 := by
  cases way h with
  | copy k d i => omega
  | lay k f s t => exact (tel_iff.1 t).2
  | add k s t i => exact (tel_iff.1 t).2
end Pt
set_option maxRecDepth 100000 in
set_option maxHeartbeats 6400000 in
theorem pt_apply (w : World) (b : ByteArray) (hbs : b.size ≤ 1073741824) (A : Option Addr) (n c : Nat) (L : List Deed) (hL : L.length = n) (hn : n ≤ 1000000) (hA : DIn w A L) :
    Calls Try.prog 13 #[.string b, .slice A n c] w fun e w' => e = .returned (.tuple #[.string ⟨(appD b [] L).1.toArray⟩, .int .i64 (appD b [] L).2]) ∧ Below w.heap.size w w' := by
  have HL := Lib.hid hL
  have HN := Lib.hid hn
  have HA := Lib.hid hA
  have HG := Lib.hid (fun o W => pt_good (b.size : Int) (by omega) (by omega) o W)
  have HBS := Lib.hid hbs
  generalize hR : appD b [] L = R
  have HR := Lib.hid hR
  have HS0 := Lib.hid (OwnT.nil w w.heap.size)
  clear hL hn hA hR hbs
  go_enter Try.func13, Try.ntmps13
  go_wp2_with (fail)
  go_loopw [6, 11] (fun x i wr => ∃ (j : Nat) (G : Option Addr) (cg : Nat) (l : List UInt8), i = .int .i64 (j : Int) ∧ j ≤ n ∧ x = .slice G l.length cg ∧ l.length ≤ 8192 ∧ appD b l (L.drop j) = R ∧ OwnT wr w.heap.size x l ∧ Below w.heap.size w wr) (fun _ i _ => match i with | .int _ k => n - k.toNat | _ => 0)
  case atStart => exact ⟨0, none, 0, [], rfl, Nat.zero_le _, rfl, Nat.zero_le _, HR.out, HS0.out, Below.refl _ _⟩
  case round =>
    clear HS0
    obtain ⟨j, G, cg, l, rfl, hj, rfl, hll, hap, ho, hb⟩ := hrel
    have HLL := Lib.hid hll
    have HAP := Lib.hid hap
    have HO := Lib.hid ho
    have HB := Lib.hid hb
    clear hll hap ho hb
    have x2 : 0 ≤ (j : Int) := by omega
    by_cases hlt : j < n
    · have x0 : (j : Int) < (n : Int) := by omega
      have x1 : decide ((j : Int) < (n : Int)) = true := decide_eq_true x0
      have hjl : j < L.length := by rw [HL.out]; exact hlt
      obtain ⟨pb, po, rfl, hc⟩ := (HA.out.below HB.out (Nat.le_refl _)) (by omega)
      obtain ⟨c0, c1, c2, c3⟩ := hc j _ (deed_at hjl)
      have hap := HAP.out
      rw [deeds_at hjl] at hap
      have HJ := Lib.hid (show j + 1 ≤ n by omega)
      generalize L.getD j dz = o at c0 c1 c2 c3 hap
      have HAN := Lib.hid hap
      have hw1 := IntWalk.wrap64_in ((j : Int) + 1) (by have := HN.out; omega)
      have HW1 := Lib.hid hw1
      have HGO := Lib.hid (HG.out o)
      unfold dv at HGO
      clear hc hap hjl hlt HAP HG hw1
      cases hgd : okD (b.size : Int) o with
      | false =>
        rw [hgd] at HGO
        have HE := Lib.hid (HAN.out.symm.trans (app_not hgd))
        clear hgd
        go_wp2_with (go_at_call 15; refine (HGO.out _).mono ?_; rintro e w2 ⟨rfl, b2⟩; have HB2 := Lib.hid b2; clear b2)
        refine bodyPost_ret (results_tmp2 rfl _ _ _) rfl ?_
        rw [HE.out]
        exact ⟨rfl, (HB.out.alloc HB.out.size _).trans (HB2.out.mono (by have := HB.out.size; simp; omega))⟩
      | true =>
        rw [hgd] at HGO
        have HSZ := Lib.hid (ok_size hgd)
        have HDT := Lib.hid (ok_data hgd)
        have HGD := Lib.hid hgd
        obtain ⟨z, hz⟩ : ∃ z : Nat, o.s = (z : Int) := ⟨o.s.toNat, by have := HSZ.out; omega⟩
        have HZZ := Lib.hid (show numD o = z + o.d.size by unfold numD; omega)
        have HZL := Lib.hid (show z ≤ 1073741824 by have := HSZ.out; have := HBS.out; omega)
        have hw2 := IntWalk.wrap64_in ((l.length : Int) + (z : Int)) (by have := HLL.out; have := HZL.out; omega)
        have hw3 := IntWalk.wrap64_in ((l.length : Int) + (z : Int) + (o.d.size : Int)) (by have := HLL.out; have := HZL.out; have := HDT.out; omega)
        have HDO := Lib.hid (show l.length + numD o ≤ 8192 → ∀ (W : World) (v : Value), Below w.heap.size w W → OwnT W w.heap.size v l → Calls Try.prog 28 #[v, .string b, dv o] W fun e w' => ∃ v', e = .returned v' ∧ OwnT w' w.heap.size v' (l ++ comeL b o) ∧ Below w.heap.size W w' from
          fun h W v hW hv => pt_do W w.heap.size hW.size v l hv b HBS.out o HGD.out h)
        have HCL := Lib.hid (come_length hgd)
        unfold dv at HDO
        rw [hz] at c2 HGO HDO
        clear hgd
        by_cases hlen : l.length + numD o ≤ 8192
        · have y0 : ¬ 8192 < (l.length : Int) + (z : Int) + (o.d.size : Int) := by have := HZZ.out; omega
          have y1 : decide (8192 < (l.length : Int) + (z : Int) + (o.d.size : Int)) = false := decide_eq_false y0
          have HNX := Lib.hid ((app_yes HGD.out hlen).symm.trans HAN.out)
          have HLL2 := Lib.hid (show (l ++ comeL b o).length ≤ 8192 by rw [List.length_append, HCL.out]; exact hlen)
          have HDD := Lib.hid (HDO.out hlen)
          clear hlen HDO HAN
          generalize l ++ comeL b o = l2 at HNX HLL2 HDD
          go_wp2_with (first | (go_at_call 15; refine (HGO.out _).mono ?_; rintro e w2 ⟨rfl, b2⟩; have HB2 := Lib.hid (show Below w.heap.size w w2 from (HB.out.alloc HB.out.size _).trans (b2.mono (by have := HB.out.size; simp; omega))); obtain ⟨d0, d1, d2, d3⟩ := box_at (t := 42) (o := o) ((b2.block wr.heap.size (by simp)).trans (by unfold boxD; rw [hz]; exact heap_alloc_new wr _)); rw [hz] at d2; have HO2 := Lib.hid (OwnT.below (HO.out.below ((Below.refl wr.heap.size wr).alloc (Nat.le_refl _) _) (Nat.le_refl _)) b2 (Nat.le_refl _)); clear b2) | (go_at_call 28; refine (HDD.out _ _ HB2.out HO2.out).mono ?_; rintro e w3 ⟨v', rfl, ho3, b3⟩; obtain ⟨G3, c3', rfl⟩ := ho3.slice; have HO3 := Lib.hid ho3; have HB3 := Lib.hid (HB2.out.trans b3); clear ho3 b3))
          try rw [HW1.out]
          exact ⟨⟨j + 1, _, _, l2, rfl, HJ.out, rfl, HLL2.out, HNX.out, HO3.out, HB3.out⟩, pt_less j n HJ.out⟩
        · have y0 : 8192 < (l.length : Int) + (z : Int) + (o.d.size : Int) := by have := HZZ.out; omega
          have y1 : decide (8192 < (l.length : Int) + (z : Int) + (o.d.size : Int)) = true := decide_eq_true y0
          have HE := Lib.hid (HAN.out.symm.trans (app_long HGD.out hlen))
          clear hlen HDO
          go_wp2_with (first | (go_at_call 15; refine (HGO.out _).mono ?_; rintro e w2 ⟨rfl, b2⟩; have HB2 := Lib.hid (show Below w.heap.size w w2 from (HB.out.alloc HB.out.size _).trans (b2.mono (by have := HB.out.size; simp; omega))); obtain ⟨d0, d1, d2, d3⟩ := box_at (t := 42) (o := o) ((b2.block wr.heap.size (by simp)).trans (by unfold boxD; rw [hz]; exact heap_alloc_new wr _)); rw [hz] at d2; have HO2 := Lib.hid (OwnT.below (HO.out.below ((Below.refl wr.heap.size wr).alloc (Nat.le_refl _) _) (Nat.le_refl _)) b2 (Nat.le_refl _)); clear b2))
          refine bodyPost_ret (results_tmp2 rfl _ _ _) rfl ?_
          rw [HE.out]
          exact ⟨rfl, HB2.out⟩
    · have hje : j = n := by omega
      subst hje
      have x0 : ¬ (j : Int) < (j : Int) := by omega
      have x1 : decide ((j : Int) < (j : Int)) = false := decide_eq_false x0
      have hap := HAP.out
      rw [List.drop_eq_nil_of_le (by rw [HL.out]; exact Nat.le_refl _)] at hap
      have HE := Lib.hid (hap.symm.trans (show appD b l [] = (l, 0) from rfl))
      have hcv := HO.out.text wr rfl
      clear hap
      go_wp2_with (fail)
      refine bodyPost_ret (results_tmp2 rfl _ _ _) rfl ?_
      rw [HE.out]
      exact ⟨rfl, HB.out⟩
end Go.Proofs.Ytiehpaffbaafcaa
