/-
  The reference of layer 19: Parse. Conditions: none.
-/
import Derived.Test.YtiehpaffbaafcaaRef19G
import Derived.Test.YtiehpaffbaafcaaPenRef
import Derived.Test.YtiehpaffbaafcaaPt6
import Derived.Test.YtiehpaffbaafcaaBuildNone
namespace Go.Proofs.Ytiehpaffbaafcaa
open Go.ChangeShapes Go.WideShapes Go.ChangeAt Go.RowKit Pn Pt

namespace Pt
/-- A deed as the reference reads it behind its kind. -/
def rfK (K : Int) (r1 : ByteArray) (b1 : Bool) : Deed × ByteArray × Bool :=
  if K = 1 then (⟨K, (nmOut r1 mxB : Int), (nmOut (nmRest r1 mxB) mxB : Int), ⟨#[]⟩⟩, nmRest (nmRest r1 mxB) mxB, nmBad (nmRest r1 mxB) (nmBad r1 b1 mxB) mxB)
  else if K = 2 then (⟨K, 0, 0, txOut r1 8192⟩, txRest r1 8192, txBad r1 b1 8192)
  else (⟨K, (nmOut r1 mxB : Int), 0, txOut (nmRest r1 mxB) 8192⟩, txRest (nmRest r1 mxB) 8192, txBad (nmRest r1 mxB) (nmBad r1 b1 mxB) 8192)
theorem nm_bad_out {r : ByteArray} {bad : Bool} {most : Int} (hs : Sane r bad) (h : nmBad r bad most = true) : nmOut r most = 0 ∧ nmOk r most = false := by
  have hk : nmOk r most = false := by
    cases bad with
    | false => unfold nmBad at h; simpa using h
    | true =>
      have := hs rfl
      exact nm_short (by omega)
  exact ⟨nm_out_no hk, hk⟩
theorem tx_bad_out {r : ByteArray} {bad : Bool} {most : Int} (hs : Sane r bad) (h : txBad r bad most = true) : (txOut r most).size = 0 := by
  unfold txBad tkBad at h
  unfold txOut
  by_cases hl : (nmRest r most).size < nmOut r most
  · rw [tk_out_no hl]; rfl
  · rw [decide_eq_false hl, Bool.or_false] at h
    rw [(nm_bad_out hs h).1]
    have := tk_out_size (nmRest r most) 0
    rw [tk_out_yes (Nat.zero_le _), extract_size _ _ _ (Nat.zero_le _)]
/-- What was read wrongly can't be. -/
theorem rfK_bad {K : Int} {r1 : ByteArray} {b1 : Bool} (hs : Sane r1 b1) (h : (rfK K r1 b1).2.2 = true) : okD mxB (rfK K r1 b1).1 = false := by
  unfold rfK at h ⊢
  split
  · rename_i hk
    subst hk
    rw [if_pos rfl] at h
    refine not_copy fun hh => ?_
    have := (nm_bad_out (nm_sane hs mxB) h).1
    omega
  · rename_i hk1
    rw [if_neg hk1] at h
    split
    · rename_i hk
      subst hk
      rw [if_pos rfl] at h
      refine not_lay fun hh => ?_
      have := tx_bad_out hs h
      omega
    · rename_i hk2
      rw [if_neg hk2] at h
      have := tx_bad_out (nm_sane hs mxB) h
      by_cases hk3 : K = 3
      · subst hk3
        refine not_add fun hh => ?_
        omega
      · exact not_none hk1 hk2 hk3
/-- The reference's way of reading and the program's. -/
theorem rf_rd {K : Int} {r1 : ByteArray} {b1 : Bool} : okD mxB (rfK K r1 b1).1 = okD mxB (rdK K r1 b1).1 ∧ (okD mxB (rfK K r1 b1).1 = true → rfK K r1 b1 = rdK K r1 b1) := by
  unfold rfK rdK
  by_cases h1 : K = 1
  · rw [if_pos h1, if_pos h1]; exact ⟨rfl, fun _ => rfl⟩
  · rw [if_neg h1, if_neg h1]
    by_cases h2 : K = 2
    · rw [if_pos h2, if_pos h2]; exact ⟨rfl, fun _ => rfl⟩
    · rw [if_neg h2, if_neg h2]
      by_cases h3 : K = 3
      · rw [if_pos h3]; exact ⟨rfl, fun _ => rfl⟩
      · rw [if_neg h3, not_none h1 h2 h3, not_none h1 h2 h3]
        exact ⟨rfl, fun h => by cases h⟩
theorem rf_rest (K : Int) (r1 : ByteArray) (b1 : Bool) (hs : Sane r1 b1) : Sane (rfK K r1 b1).2.1 (rfK K r1 b1).2.2 := by
  unfold rfK
  split
  · exact nm_sane (nm_sane hs _) _
  · split
    · exact tx_sane hs _
    · exact tx_sane (nm_sane hs _) _
/-- While a deed is read: the eye, the deed, what was read. -/
structure Rp (w : World) (v : Value) (M : List Deed) (Q : Nat) (W : World) (o : Deed) (r : ByteArray) (bad : Bool) : Prop where
  eye : RefAt W w.heap.size r bad
  box : W.heap[Q]? = some (boxD 38 o)
  own : OwnD 38 W (w.heap.size + 1) v M
  below : Below w.heap.size w W
  q : w.heap.size < Q
  ne : v.ownBlock ≠ some Q
namespace Rp
variable {w W W' : World} {v : Value} {M : List Deed} {Q : Nat} {o : Deed} {r r' : ByteArray} {bad bad' : Bool}
theorem says (h : Rp w v M Q W o r bad) (h1 : RefAt W' w.heap.size r' bad') (h2 : Only W W' w.heap.size) : Rp w v M Q W' o r' bad' :=
  ⟨h1, only_box h.box h2 (by have := h.q; omega), h.own.only h2 (Nat.lt_succ_self _), h.below.trans (h2.below (Nat.le_refl _) h.below.size), h.q, h.ne⟩
theorem own_set {t : TypeId} {base : Nat} {k : Nat} {x : Value} (h : OwnD t W base v M) (hne : v.ownBlock ≠ some Q) : OwnD t (W.setCell ⟨Q, k, none⟩ x) base v M := by
  refine ⟨h.1, ?_⟩
  rcases h.2 with hn | ⟨g, cap, cur, hv, h1, hg, rr⟩
  · exact .inl hn
  · exact .inr ⟨g, cap, cur, hv, h1, (heap_setCell_other _ ⟨Q, k, none⟩ g _ (fun e => hne (by rw [hv, show g = Q from e]; rfl))).trans hg, rr⟩
theorem setF (h : Rp w v M Q W o r bad) (f : Int) : Rp w v M Q (W.setCell ⟨Q, 1, none⟩ (.int .i64 f)) ⟨o.k, f, o.s, o.d⟩ r bad :=
  ⟨h.eye.of_block (heap_setCell_other _ ⟨Q, 1, none⟩ _ _ (by have := h.q; show w.heap.size ≠ Q; omega)), box_setF h.box f, own_set h.own h.ne, h.below.setCell (p := ⟨Q, 1, none⟩) (Nat.le_of_lt h.q) _, h.q, h.ne⟩
theorem setS (h : Rp w v M Q W o r bad) (s : Int) : Rp w v M Q (W.setCell ⟨Q, 2, none⟩ (.int .i64 s)) ⟨o.k, o.f, s, o.d⟩ r bad :=
  ⟨h.eye.of_block (heap_setCell_other _ ⟨Q, 2, none⟩ _ _ (by have := h.q; show w.heap.size ≠ Q; omega)), box_setS h.box s, own_set h.own h.ne, h.below.setCell (p := ⟨Q, 2, none⟩) (Nat.le_of_lt h.q) _, h.q, h.ne⟩
theorem setT (h : Rp w v M Q W o r bad) (d : ByteArray) : Rp w v M Q (W.setCell ⟨Q, 3, none⟩ (.string d)) ⟨o.k, o.f, o.s, d⟩ r bad :=
  ⟨h.eye.of_block (heap_setCell_other _ ⟨Q, 3, none⟩ _ _ (by have := h.q; show w.heap.size ≠ Q; omega)), box_setT h.box d, own_set h.own h.ne, h.below.setCell (p := ⟨Q, 3, none⟩) (Nat.le_of_lt h.q) _, h.q, h.ne⟩
end Rp
/-- What the reference's Parse answers. -/
def RaSays (w : World) (P : Option (List Deed)) (e : Ending) (w' : World) : Prop := Below w.heap.size w w' ∧ match P with
  | some L => ∃ A c, e = .returned (.tuple #[.slice A L.length c, .bool true]) ∧ DIn w' A L
  | none => ∃ A n c, e = .returned (.tuple #[.slice A n c, .bool false])
theorem ra_some {w w' : World} {P : Option (List Deed)} {L : List Deed} {A : Option Addr} {c : Nat} (hb : Below w.heap.size w w') (h : P = some L) (hd : DIn w' A L) : RaSays w P (.returned (.tuple #[.slice A L.length c, .bool true])) w' := by
  subst h
  exact ⟨hb, A, c, rfl, hd⟩
theorem ra_none {w w' : World} {P : Option (List Deed)} {A : Option Addr} {n c : Nat} (hb : Below w.heap.size w w') (h : P = none) : RaSays w P (.returned (.tuple #[.slice A n c, .bool false])) w' := by
  subst h
  exact ⟨hb, A, n, c, rfl⟩
end Pt
set_option maxRecDepth 100000 in
set_option maxHeartbeats 12800000 in
theorem ref19_parse (w : World) (s : ByteArray) : Calls Try.prog 12 #[.string s] w (RaSays w (parD s)) := by
  have HM := Lib.hid (nm_most s 256)
  have HP := Lib.hid (show parD s = endD (preD [] (prD (nmOut s 256) (nmRest s 256) (nmBad s false 256))) from by rw [preD_nil]; rfl)
  have HSN := Lib.hid (show Sane (nmRest s 256) (nmBad s false 256) from nm_sane (fun h => by cases h) 256)
  have HBN := Lib.hid (show nmBad s false 256 = true → nmOut s 256 = 0 from fun h => (nm_bad_out (fun h => by cases h) h).1)
  have HG := Lib.hid (fun o W => ref19_good o W)
  have HE0 := Lib.hid (show RefAt (w.alloc (.cells #[.string s, .bool false] 62)) w.heap.size s false from heap_alloc_new w _)
  have HB0 := Lib.hid (show Below w.heap.size w (w.alloc (.cells #[.string s, .bool false] 62)) from (Below.refl _ _).alloc (Nat.le_refl _) _)
  have HN0 := Lib.hid (ref_num _ w.heap.size s false HE0.out (fun h => by cases h) 256)
  obtain ⟨i0, hi, hz0, hz1, hz2⟩ := info_parts info_rop
  have HI := Lib.hid hi
  have HZ0 := Lib.hid hz0
  have HZ1 := Lib.hid hz1
  have HZ2 := Lib.hid hz2
  clear hi hz0 hz1 hz2
  generalize parD s = P at HP ⊢
  go_enter Try.func12, Try.ntmps12
  go_wp2_with (fail)
  refine HN0.out.mono ?_
  rintro e w2 ⟨rfl, e2, o2⟩
  have E2 := Lib.hid e2
  have B2 := Lib.hid (HB0.out.trans (o2.below (Nat.le_refl _) (by simp)))
  clear e2 o2 HE0 HB0 HN0
  generalize nmOut s 256 = n at HM HP HBN ⊢
  generalize nmRest s 256 = r0 at HSN HP E2
  generalize nmBad s false 256 = c0 at HSN HP E2 HBN
  have HOD := Lib.hid (show OwnD 38 (w2.alloc (.cells #[] 38)) (w.heap.size + 1) (.slice (some ⟨w2.heap.size, 0, none⟩) 0 0) [] from by
    have := World.ownsRow_made (e := 38) (size := 4) w2 #[] 0 (base := w.heap.size + 1) E2.out.lt (Nat.zero_le _) rfl
    exact (show (w2.alloc (.cells #[] 38)).ownsRow (w.heap.size + 1) 38 4 (.slice (some ⟨w2.heap.size, 0, none⟩) 0 0) 0 [] from by simpa using this))
  have HES := Lib.hid (show RefAt (w2.alloc (.cells #[] 38)) w.heap.size r0 c0 from E2.out.of_block (heap_alloc_old _ _ E2.out.lt))
  have HBS := Lib.hid (show Below w.heap.size w (w2.alloc (.cells #[] 38)) from B2.out.alloc B2.out.size _)
  go_wp2_with (refine wpList_buildNone rfl 30 38 rfl i0 Try.underlying30 HI.out ?_)
  go_loopw [6, 7] (fun v i wr => ∃ (j : Nat) (G : Option Addr) (cg : Nat) (M : List Deed) (r : ByteArray) (bad : Bool), i = .int .i64 (j : Int) ∧ j ≤ n ∧ v = .slice G j cg ∧ M.length = j ∧ OwnD 38 wr (w.heap.size + 1) v M ∧ RefAt wr w.heap.size r bad ∧ Sane r bad ∧ (bad = true → n = 0) ∧ P = endD (preD M (prD (n - j) r bad)) ∧ Below w.heap.size w wr) (fun _ i _ => match i with | .int _ k => n - k.toNat | _ => 0)
  case atStart => exact ⟨0, _, 0, [], r0, c0, rfl, Nat.zero_le _, rfl, rfl, HOD.out, HES.out, HSN.out, HBN.out, HP.out, HBS.out⟩
  case round =>
    clear HOD HES HBS E2 B2 HP HSN HBN
    obtain ⟨j, G, cg, M, r, bad, rfl, hj, rfl, hml, ho, he, hsn, hbn, hp, hb⟩ := hrel
    have HML := Lib.hid hml
    have HO := Lib.hid ho
    have HE := Lib.hid he
    have HSN := Lib.hid hsn
    have HP := Lib.hid hp
    have HB := Lib.hid hb
    have e0 := he.rest
    have e1 := he.wrong
    clear hml ho he hsn hp hb
    have x2 : 0 ≤ (j : Int) := by omega
    by_cases hlt : j < n
    · have x0 : (j : Int) < (n : Int) := by omega
      have x1 : decide ((j : Int) < (n : Int)) = true := decide_eq_true x0
      have hbf : bad = false := by
        cases bad with
        | false => rfl
        | true => have := hbn rfl; omega
      subst hbf
      have HJ := Lib.hid (show j + 1 ≤ n by omega)
      have HNJ := Lib.hid (show n - j = n - (j + 1) + 1 by omega)
      rw [HNJ.out] at HP
      have HW1 := Lib.hid (IntWalk.wrap64_in ((j : Int) + 1) (by have := HM.out; omega))
      have HPN := Lib.hid (fun h => HP.out.trans (preD_not M (n - (j + 1)) r false h))
      have HPY := Lib.hid (fun h => HP.out.trans (congrArg endD (preD_step M (n - (j + 1)) r false h)))
      have HTK := Lib.hid (ref_take wr w.heap.size r false HE.out HSN.out 1)
      rw [rdD_eq] at HPN HPY
      by_cases hsz : r.size < 1
      · have hb1 := tk_bad_no (r := r) (n := 1) false hsz
        have HNO := Lib.hid (HPN.out (by
          rw [tk_out_no hsz]
          exact not_none (by decide) (by decide) (by decide)))
        rw [hb1] at HTK
        clear HPN HPY HP hlt hbn hb1
        go_wp2_with (fail)
        refine HTK.out.mono ?_
        rintro e w3 ⟨rfl, e3, o3⟩
        have k1 := e3.wrong
        have B3 := Lib.hid (HB.out.trans (o3.below (Nat.le_refl _) HB.out.size))
        clear e3 o3 e0 e1
        go_wp2_with (fail)
        refine bodyPost_ret (results_tmp2 rfl _ _ _) rfl ?_
        exact ra_none B3.out HNO.out
      have hb1 := tk_bad_yes (r := r) (n := 1) false (by omega)
      have HS1 := Lib.hid (show Sane (tkRest r 1) false from fun h => by cases h)
      rw [hb1] at HTK HPN HPY
      have hsk := size_pos (r := r) (n := 1) (by omega) (by omega)
      have hxk : ∀ W, (Instr.index 9 (.string (tkOut r 1)) (.int .i64 0)).run Try.prog W = .ok (.int .u8 ((byAt (tkOut r 1) 0).toNat : Int)) W := fun W => index_by (tkOut r 1) 0 (by omega) 0 rfl W
      have hwk := IntWalk.wrap64_in (((byAt (tkOut r 1) 0).toNat : Int)) (by have := (byAt (tkOut r 1) 0).toNat_lt; omega)
      have HAG := Lib.hid (rf_rd (K := ((byAt (tkOut r 1) 0).toNat : Int)) (r1 := tkRest r 1) (b1 := false))
      have HBD := Lib.hid (rfK_bad (K := ((byAt (tkOut r 1) 0).toNat : Int)) (r1 := tkRest r 1) (b1 := false) HS1.out)
      have HSR := Lib.hid (rf_rest ((byAt (tkOut r 1) 0).toNat : Int) (tkRest r 1) false HS1.out)
      generalize hK : ((byAt (tkOut r 1) 0).toNat : Int) = K at hxk hwk HAG HBD HPN HPY HSR
      have HXK := Lib.hid hxk
      clear hK hsk hb1 hsz hlt HP
      go_wp2_with (fail)
      refine HTK.out.mono ?_
      rintro e w3 ⟨rfl, e3, o3⟩
      have k1 := e3.wrong
      have HR3 := Lib.hid (show Rp w (.slice G j cg) M w3.heap.size (w3.alloc (boxD 38 ⟨K, 0, 0, ⟨#[]⟩⟩)) ⟨K, 0, 0, ⟨#[]⟩⟩ (tkRest r 1) false from
        have hb3 := HB.out.trans (o3.below (Nat.le_refl _) HB.out.size)
        have ho3 := HO.out.only o3 (Nat.lt_succ_self _)
        ⟨e3.of_block (heap_alloc_old _ _ e3.lt), heap_alloc_new w3 _, ho3.below ((Below.refl w3.heap.size w3).alloc (Nat.le_refl _) _) (Nat.le_refl _), hb3.alloc hb3.size _, e3.lt, fun e => by have := (ho3.lt _ e).2; omega⟩)
      clear e3 o3 HTK HO HE HB e0 e1 HSN HS1
      generalize tkOut r 1 = kk at hxk HXK ⊢
      generalize tkRest r 1 = r1 at HAG HBD HPN HPY HSR HR3
      unfold boxD at HR3
      simp only at HR3
      unfold rfK at HAG HBD HSR
      by_cases hk1 : K = 1
      · subst hk1
        rw [if_pos rfl] at HAG HBD HSR
        go_wp2_with (fail)
        refine (ref_num _ w.heap.size r1 false HR3.out.eye (fun h => by cases h) mxB).mono ?_
        rintro e w4 ⟨rfl, e4, o4⟩
        have H4 := Lib.hid (HR3.out.says e4 o4)
        have f4 := box_fz H4.out.box
        obtain ⟨a0, a1, a2, a3⟩ := box_at H4.out.box
        have H5 := Lib.hid (H4.out.setF (nmOut r1 mxB : Int))
        clear e4 o4
        go_wp2_with (fail)
        refine (ref_num _ w.heap.size _ _ H5.out.eye (nm_sane (fun h => by cases h) mxB) mxB).mono ?_
        rintro e w5 ⟨rfl, e5, o5⟩
        have H6 := Lib.hid (H5.out.says e5 o5)
        have f6 := box_fz H6.out.box
        obtain ⟨b0, b1, b2, b3⟩ := box_at H6.out.box
        have H7 := Lib.hid (H6.out.setS (nmOut (nmRest r1 mxB) mxB : Int))
        simp only at H7
        clear e5 o5 f4 a0 a1 a2 a3
        go_upto_region 16 with (fail)
        generalize (w5.setCell ⟨w3.heap.size, 2, none⟩ (.int .i64 (nmOut (nmRest r1 mxB) mxB : Int))) = WW at H7 ⊢
        clear f6 b0 b1 b2 b3 H4 H5 H6 HR3
        generalize nmBad (nmRest r1 mxB) (nmBad r1 false mxB) mxB = bad2 at H7 HAG HBD HSR
        generalize nmRest (nmRest r1 mxB) mxB = R2 at H7 HAG HSR
        generalize hoo : (⟨1, (nmOut r1 mxB : Int), (nmOut (nmRest r1 mxB) mxB : Int), ⟨#[]⟩⟩ : Deed) = o at H7 HAG HBD
        have HH := Lib.hid H7.out
        clear H7 hoo HSR
        obtain ⟨q0, q1, q2, q3⟩ := box_at HH.out.box
        have k9 := HH.out.eye.wrong
        cases bad2 with
        | true =>
          have HNO := Lib.hid (HPN.out (HAG.out.1.symm.trans (HBD.out rfl)))
          clear HPN HPY HAG HBD
          go_wp2_with (fail)
          refine bodyPost_ret (results_tmp2 rfl _ _ _) rfl ?_
          exact ra_none HH.out.below HNO.out
        | false =>
          clear HBD
          have HGO := Lib.hid (HG.out o)
          unfold dv at HGO
          cases hgd : okD mxB o with
          | false =>
            have HNO := Lib.hid (HPN.out (HAG.out.1.symm.trans hgd))
            rw [hgd] at HGO
            clear HPN HPY HAG hgd
            go_wp2_with (first | (go_at_call 19; refine (HGO.out _).mono ?_; rintro e w7 ⟨rfl, b7⟩; have HB7 := Lib.hid (HH.out.below.trans (b7.mono HH.out.below.size)); clear b7))
            refine bodyPost_ret (results_tmp2 rfl _ _ _) rfl ?_
            exact ra_none HB7.out HNO.out
          | true =>
            have HYE := Lib.hid (HPY.out (HAG.out.1.symm.trans hgd))
            have HEQ := Lib.hid (HAG.out.2 hgd)
            rw [← HEQ.out] at HYE
            rw [hgd] at HGO
            clear HPN HPY HAG hgd HEQ
            go_wp2_with (first | (go_at_call 19; refine (HGO.out _).mono ?_; rintro e w7 ⟨rfl, b7⟩; have HB7 := Lib.hid (HH.out.below.trans (b7.mono HH.out.below.size)); have HX7 := Lib.hid (show w7.heap[w3.heap.size]? = some (boxD 38 o) from (b7.block _ (Array.getElem?_eq_some_iff.1 HH.out.box).1).trans HH.out.box); obtain ⟨p0, p1, p2, p3⟩ := box_at HX7.out; have HE7 := Lib.hid (show RefAt w7 w.heap.size R2 false from HH.out.eye.of_block (b7.block _ HH.out.eye.lt)); have HO7 := Lib.hid (OwnD.at (OwnD.below HH.out.own b7 (Nat.le_refl _)) HML.out); clear b7) | (refine Great.wpList_buildSliceTo rfl 30 38 1 #[(0, .tmp 63)] rfl _ rfl (some 64) rfl Try.underlying30 #[.int .i64 o.k, .int .i64 o.f, .int .i64 o.s, .string o.d] (ropOne o.k o.f o.s o.d) ?_) | (at_builtin; refine wpList_append_lies _ rfl (.tmp 62) (.tmp 64) 30 rfl (w.heap.size + 1) 38 i0 _ 4 40 Try.underlying30 HI.out HZ0.out HZ1.out HZ2.out rfl (by omega) (.slice G j cg) j _ rfl (HO7.out.alloc _) ⟨w7.heap.size, 0, none⟩ 1 1 (dl o) rfl rfl (deed_src w7 _ o) (dl_one o) (by omega) (by have := HM.out; have := HJ.out; unfold maxLen; omega) (by have := HM.out; have := HJ.out; omega) (by have := HE7.out.lt; simp; omega) _ rfl ?_; intro g8 c8 w8 hown8 hg8 hwh8 hl8))
            have HON := Lib.hid (OwnD.grew (o := o) HML.out hown8)
            have HEN := Lib.hid (grown_keeps HO7.out hg8 HE7.out (Nat.lt_succ_self _))
            have HBN := Lib.hid (grown_below HB7.out (Nat.le_refl _) (Nat.le_succ _) HO7.out hg8)
            clear hown8 hg8 hwh8 hl8
            try rw [HW1.out]
            exact ⟨⟨j + 1, _, c8, M ++ [o], R2, false, rfl, HJ.out, rfl, by rw [List.length_append, HML.out]; rfl, HON.out, HEN.out, (fun h => by cases h), (fun h => by cases h), HYE.out, HBN.out⟩, pt_less j n HJ.out⟩
      have k1' : (K == 1) = false := beq_eq_false_iff_ne.2 hk1
      rw [if_neg hk1] at HAG HBD HSR
      by_cases hk2 : K = 2
      · subst hk2
        rw [if_pos rfl] at HAG HBD HSR
        go_wp2_with (fail)
        refine (ref_text _ w.heap.size r1 false HR3.out.eye (fun h => by cases h) 8192).mono ?_
        rintro e w4 ⟨rfl, e4, o4⟩
        have H4 := Lib.hid (HR3.out.says e4 o4)
        have f4 := box_fz H4.out.box
        obtain ⟨a0, a1, a2, a3⟩ := box_at H4.out.box
        have H7 := Lib.hid (H4.out.setT (txOut r1 8192))
        simp only at H7
        clear e4 o4
        go_upto_region 16 with (fail)
        generalize (w4.setCell ⟨w3.heap.size, 3, none⟩ (.string (txOut r1 8192))) = WW at H7 ⊢
        clear f4 a0 a1 a2 a3 H4 HR3
        generalize txBad r1 false 8192 = bad2 at H7 HAG HBD HSR
        generalize txRest r1 8192 = R2 at H7 HAG HSR
        generalize hoo : (⟨2, 0, 0, txOut r1 8192⟩ : Deed) = o at H7 HAG HBD
        have HH := Lib.hid H7.out
        clear H7 hoo HSR
        obtain ⟨q0, q1, q2, q3⟩ := box_at HH.out.box
        have k9 := HH.out.eye.wrong
        cases bad2 with
        | true =>
          have HNO := Lib.hid (HPN.out (HAG.out.1.symm.trans (HBD.out rfl)))
          clear HPN HPY HAG HBD
          go_wp2_with (fail)
          refine bodyPost_ret (results_tmp2 rfl _ _ _) rfl ?_
          exact ra_none HH.out.below HNO.out
        | false =>
          clear HBD
          have HGO := Lib.hid (HG.out o)
          unfold dv at HGO
          cases hgd : okD mxB o with
          | false =>
            have HNO := Lib.hid (HPN.out (HAG.out.1.symm.trans hgd))
            rw [hgd] at HGO
            clear HPN HPY HAG hgd
            go_wp2_with (first | (go_at_call 19; refine (HGO.out _).mono ?_; rintro e w7 ⟨rfl, b7⟩; have HB7 := Lib.hid (HH.out.below.trans (b7.mono HH.out.below.size)); clear b7))
            refine bodyPost_ret (results_tmp2 rfl _ _ _) rfl ?_
            exact ra_none HB7.out HNO.out
          | true =>
            have HYE := Lib.hid (HPY.out (HAG.out.1.symm.trans hgd))
            have HEQ := Lib.hid (HAG.out.2 hgd)
            rw [← HEQ.out] at HYE
            rw [hgd] at HGO
            clear HPN HPY HAG hgd HEQ
            go_wp2_with (first | (go_at_call 19; refine (HGO.out _).mono ?_; rintro e w7 ⟨rfl, b7⟩; have HB7 := Lib.hid (HH.out.below.trans (b7.mono HH.out.below.size)); have HX7 := Lib.hid (show w7.heap[w3.heap.size]? = some (boxD 38 o) from (b7.block _ (Array.getElem?_eq_some_iff.1 HH.out.box).1).trans HH.out.box); obtain ⟨p0, p1, p2, p3⟩ := box_at HX7.out; have HE7 := Lib.hid (show RefAt w7 w.heap.size R2 false from HH.out.eye.of_block (b7.block _ HH.out.eye.lt)); have HO7 := Lib.hid (OwnD.at (OwnD.below HH.out.own b7 (Nat.le_refl _)) HML.out); clear b7) | (refine Great.wpList_buildSliceTo rfl 30 38 1 #[(0, .tmp 63)] rfl _ rfl (some 64) rfl Try.underlying30 #[.int .i64 o.k, .int .i64 o.f, .int .i64 o.s, .string o.d] (ropOne o.k o.f o.s o.d) ?_) | (at_builtin; refine wpList_append_lies _ rfl (.tmp 62) (.tmp 64) 30 rfl (w.heap.size + 1) 38 i0 _ 4 40 Try.underlying30 HI.out HZ0.out HZ1.out HZ2.out rfl (by omega) (.slice G j cg) j _ rfl (HO7.out.alloc _) ⟨w7.heap.size, 0, none⟩ 1 1 (dl o) rfl rfl (deed_src w7 _ o) (dl_one o) (by omega) (by have := HM.out; have := HJ.out; unfold maxLen; omega) (by have := HM.out; have := HJ.out; omega) (by have := HE7.out.lt; simp; omega) _ rfl ?_; intro g8 c8 w8 hown8 hg8 hwh8 hl8))
            have HON := Lib.hid (OwnD.grew (o := o) HML.out hown8)
            have HEN := Lib.hid (grown_keeps HO7.out hg8 HE7.out (Nat.lt_succ_self _))
            have HBN := Lib.hid (grown_below HB7.out (Nat.le_refl _) (Nat.le_succ _) HO7.out hg8)
            clear hown8 hg8 hwh8 hl8
            try rw [HW1.out]
            exact ⟨⟨j + 1, _, c8, M ++ [o], R2, false, rfl, HJ.out, rfl, by rw [List.length_append, HML.out]; rfl, HON.out, HEN.out, (fun h => by cases h), (fun h => by cases h), HYE.out, HBN.out⟩, pt_less j n HJ.out⟩
      have k2' : (K == 2) = false := beq_eq_false_iff_ne.2 hk2
      have k2'' : (K != 2) = true := bne_iff_ne.2 hk2
      rw [if_neg hk2] at HAG HBD HSR
      go_wp2_with (fail)
      refine (ref_num _ w.heap.size r1 false HR3.out.eye (fun h => by cases h) mxB).mono ?_
      rintro e w4 ⟨rfl, e4, o4⟩
      have H4 := Lib.hid (HR3.out.says e4 o4)
      have f4 := box_fz H4.out.box
      obtain ⟨a0, a1, a2, a3⟩ := box_at H4.out.box
      have H5 := Lib.hid (H4.out.setF (nmOut r1 mxB : Int))
      clear e4 o4
      go_wp2_with (fail)
      refine (ref_text _ w.heap.size _ _ H5.out.eye (nm_sane (fun h => by cases h) mxB) 8192).mono ?_
      rintro e w5 ⟨rfl, e5, o5⟩
      have H6 := Lib.hid (H5.out.says e5 o5)
      have f6 := box_fz H6.out.box
      obtain ⟨b0, b1, b2, b3⟩ := box_at H6.out.box
      have H7 := Lib.hid (H6.out.setT (txOut (nmRest r1 mxB) 8192))
      simp only at H7
      clear e5 o5 f4 a0 a1 a2 a3
      go_upto_region 16 with (fail)
      generalize (w5.setCell ⟨w3.heap.size, 3, none⟩ (.string (txOut (nmRest r1 mxB) 8192))) = WW at H7 ⊢
      clear f6 b0 b1 b2 b3 H4 H5 H6 HR3
      generalize txBad (nmRest r1 mxB) (nmBad r1 false mxB) 8192 = bad2 at H7 HAG HBD HSR
      generalize txRest (nmRest r1 mxB) 8192 = R2 at H7 HAG HSR
      generalize hoo : (⟨K, (nmOut r1 mxB : Int), 0, txOut (nmRest r1 mxB) 8192⟩ : Deed) = o at H7 HAG HBD
      have HH := Lib.hid H7.out
      clear H7 hoo HSR
      obtain ⟨q0, q1, q2, q3⟩ := box_at HH.out.box
      have k9 := HH.out.eye.wrong
      cases bad2 with
      | true =>
        have HNO := Lib.hid (HPN.out (HAG.out.1.symm.trans (HBD.out rfl)))
        clear HPN HPY HAG HBD
        go_wp2_with (fail)
        refine bodyPost_ret (results_tmp2 rfl _ _ _) rfl ?_
        exact ra_none HH.out.below HNO.out
      | false =>
        clear HBD
        have HGO := Lib.hid (HG.out o)
        unfold dv at HGO
        cases hgd : okD mxB o with
        | false =>
          have HNO := Lib.hid (HPN.out (HAG.out.1.symm.trans hgd))
          rw [hgd] at HGO
          clear HPN HPY HAG hgd
          go_wp2_with (first | (go_at_call 19; refine (HGO.out _).mono ?_; rintro e w7 ⟨rfl, b7⟩; have HB7 := Lib.hid (HH.out.below.trans (b7.mono HH.out.below.size)); clear b7))
          refine bodyPost_ret (results_tmp2 rfl _ _ _) rfl ?_
          exact ra_none HB7.out HNO.out
        | true =>
          have HYE := Lib.hid (HPY.out (HAG.out.1.symm.trans hgd))
          have HEQ := Lib.hid (HAG.out.2 hgd)
          rw [← HEQ.out] at HYE
          rw [hgd] at HGO
          clear HPN HPY HAG hgd HEQ
          go_wp2_with (first | (go_at_call 19; refine (HGO.out _).mono ?_; rintro e w7 ⟨rfl, b7⟩; have HB7 := Lib.hid (HH.out.below.trans (b7.mono HH.out.below.size)); have HX7 := Lib.hid (show w7.heap[w3.heap.size]? = some (boxD 38 o) from (b7.block _ (Array.getElem?_eq_some_iff.1 HH.out.box).1).trans HH.out.box); obtain ⟨p0, p1, p2, p3⟩ := box_at HX7.out; have HE7 := Lib.hid (show RefAt w7 w.heap.size R2 false from HH.out.eye.of_block (b7.block _ HH.out.eye.lt)); have HO7 := Lib.hid (OwnD.at (OwnD.below HH.out.own b7 (Nat.le_refl _)) HML.out); clear b7) | (refine Great.wpList_buildSliceTo rfl 30 38 1 #[(0, .tmp 63)] rfl _ rfl (some 64) rfl Try.underlying30 #[.int .i64 o.k, .int .i64 o.f, .int .i64 o.s, .string o.d] (ropOne o.k o.f o.s o.d) ?_) | (at_builtin; refine wpList_append_lies _ rfl (.tmp 62) (.tmp 64) 30 rfl (w.heap.size + 1) 38 i0 _ 4 40 Try.underlying30 HI.out HZ0.out HZ1.out HZ2.out rfl (by omega) (.slice G j cg) j _ rfl (HO7.out.alloc _) ⟨w7.heap.size, 0, none⟩ 1 1 (dl o) rfl rfl (deed_src w7 _ o) (dl_one o) (by omega) (by have := HM.out; have := HJ.out; unfold maxLen; omega) (by have := HM.out; have := HJ.out; omega) (by have := HE7.out.lt; simp; omega) _ rfl ?_; intro g8 c8 w8 hown8 hg8 hwh8 hl8))
          have HON := Lib.hid (OwnD.grew (o := o) HML.out hown8)
          have HEN := Lib.hid (grown_keeps HO7.out hg8 HE7.out (Nat.lt_succ_self _))
          have HBN := Lib.hid (grown_below HB7.out (Nat.le_refl _) (Nat.le_succ _) HO7.out hg8)
          clear hown8 hg8 hwh8 hl8
          try rw [HW1.out]
          exact ⟨⟨j + 1, _, c8, M ++ [o], R2, false, rfl, HJ.out, rfl, by rw [List.length_append, HML.out]; rfl, HON.out, HEN.out, (fun h => by cases h), (fun h => by cases h), HYE.out, HBN.out⟩, pt_less j n HJ.out⟩
    · have hje : j = n := by omega
      subst hje
      have x0 : ¬ (j : Int) < (j : Int) := by omega
      have x1 : decide ((j : Int) < (j : Int)) = false := decide_eq_false x0
      have hp := HP.out
      rw [Nat.sub_self, preD_end] at hp
      have HOD := Lib.hid HO.out
      cases bad with
      | true =>
        rw [if_neg (fun h => by cases h.1)] at hp
        have HPF := Lib.hid hp
        clear hp hbn
        go_wp2_with (fail)
        go_quiet (fail)
        have HBQ := Lib.hid (below_drewN HB.out nq)
        go_wp2_with (fail)
        refine bodyPost_ret (results_tmp2 rfl _ _ _) rfl ?_
        exact ra_none HBQ.out HPF.out
      | false =>
        by_cases hr : r.size = 0
        · rw [if_pos ⟨rfl, hr⟩] at hp
          have HPF := Lib.hid hp
          have r1 : ((r.size : Int) == 0) = true := beq_iff_eq.2 (by omega)
          have r2 : (r.size : Int) = 0 := by omega
          obtain rfl := empty_of_size hr
          clear hp hbn hr r1 r2
          go_wp2_with (fail)
          go_quiet (fail)
          have HBQ := Lib.hid (below_drewN HB.out nq)
          have HODQ := Lib.hid (HOD.out.below (below_drewN (Below.refl wr.heap.size wr) nq) (Nat.le_refl _))
          go_wp2_with (fail)
          refine bodyPost_ret (results_tmp2 rfl _ _ _) rfl ?_
          have hm := HML.out
          subst hm
          exact ra_some HBQ.out HPF.out (OwnD.din HODQ.out)
        · rw [if_neg (fun h => hr h.2)] at hp
          have HPF := Lib.hid hp
          have r1 : ((r.size : Int) == 0) = false := beq_eq_false_iff_ne.2 (by omega)
          have r2 : ¬ (r.size : Int) = 0 := by omega
          clear hp hbn
          go_wp2_with (fail)
          go_quiet (fail)
          have HBQ := Lib.hid (below_drewN HB.out nq)
          go_wp2_with (fail)
          refine bodyPost_ret (results_tmp2 rfl _ _ _) rfl ?_
          exact ra_none HBQ.out HPF.out
end Go.Proofs.Ytiehpaffbaafcaa
