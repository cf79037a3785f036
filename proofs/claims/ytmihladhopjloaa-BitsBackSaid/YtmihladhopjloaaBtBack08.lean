/-
  BitsBack: what is told is read as it was; what is added and dropped again leaves all others. The walk. Conditions: none.
-/
import Derived.Test.YtmihladhopjloaaBtFill08
namespace Go.Proofs.Ytmihladhopjloaa
open Go.ChangeShapes Go.WideShapes Go.ChangeAt Go.RowKit Bt

namespace bitsBack
/-- Two sets of one length. -/
structure Two (w0 w : World) (b c k : Nat) (u v : Nat → Bool) : Prop where
  s : Stands w0 w b k u
  t : Stands w0 w c k v
  ne : b ≠ c
namespace Two
variable {w0 w w' : World} {b c k : Nat} {u v : Nat → Bool}
theorem step (h : Two w0 w b c k u v) (hb : Below w.heap.size w w') : Two w0 w' b c k u v := ⟨h.s.step hb, h.t.step hb, h.ne⟩
theorem drewN (h : Two w0 w b c k u v) (m : Nat) : Two w0 (w.drewN m) b c k u v := ⟨h.s.drewN m, h.t.drewN m, h.ne⟩
theorem same (h : Two w0 w b c k u v) : Calls Try.prog 21 #[.pointer (some ⟨b, 0, none⟩), .pointer (some ⟨c, 0, none⟩)] w fun e w' => e = .returned (.bool (sameB k u k v)) ∧ Two w0 w' b c k u v :=
  (bits_same w b c k k u v h.s.blk h.t.blk).mono fun _ _ ⟨he, m, hw⟩ => ⟨he, by rw [hw]; exact h.drewN m⟩
theorem emas (h : Two w0 w b c k u v) : Calls Try.prog 21 #[.pointer (some ⟨c, 0, none⟩), .pointer (some ⟨b, 0, none⟩)] w fun e w' => e = .returned (.bool (sameB k v k u)) ∧ Two w0 w' b c k u v :=
  (bits_same w c b k k v u h.t.blk h.s.blk).mono fun _ _ ⟨he, m, hw⟩ => ⟨he, by rw [hw]; exact h.drewN m⟩
theorem add (h : Two w0 w b c k u v) (hk : k ≤ 1024) {m : Nat} (hm : m < k) : Calls Try.prog 10 #[.pointer (some ⟨c, 0, none⟩), .slice (some ⟨w.heap.size, 0, none⟩) 1 1] (w.alloc (.cells #[.int .i64 (m : Int)] 3)) fun e w' => e = .returned (.int .i64 0) ∧ Two w0 w' b c k u (upd v m true) :=
  (h.t.add1 hk hm).mono fun _ _ ⟨he, ht, ho⟩ => ⟨he, h.s.beside ho h.t.new h.ne, ht, h.ne⟩
theorem drop (h : Two w0 w b c k u v) (hk : k ≤ 1024) {m : Nat} (hm : m < k) : Calls Try.prog 9 #[.pointer (some ⟨c, 0, none⟩), .slice (some ⟨w.heap.size, 0, none⟩) 1 1] (w.alloc (.cells #[.int .i64 (m : Int)] 3)) fun e w' => e = .returned (.int .i64 0) ∧ Two w0 w' b c k u (upd v m false) :=
  (h.t.drop1 hk hm).mono fun _ _ ⟨he, ht, ho⟩ => ⟨he, h.s.beside ho h.t.new h.ne, ht, h.ne⟩
theorem sHas (h : Two w0 w b c k u v) (hk : k ≤ 1024) {m : Nat} (hm : m < k) : Calls Try.prog 12 #[.pointer (some ⟨b, 0, none⟩), .slice (some ⟨w.heap.size, 0, none⟩) 1 1] (w.alloc (.cells #[.int .i64 (m : Int)] 3)) fun e w' => e = .returned (.bool (u m)) ∧ Two w0 w' b c k u v :=
  (h.s.has1 hk hm).mono fun _ _ ⟨he, _, hb⟩ => ⟨he, h.step hb⟩
theorem tHas (h : Two w0 w b c k u v) (hk : k ≤ 1024) {m : Nat} (hm : m < k) : Calls Try.prog 12 #[.pointer (some ⟨c, 0, none⟩), .slice (some ⟨w.heap.size, 0, none⟩) 1 1] (w.alloc (.cells #[.int .i64 (m : Int)] 3)) fun e w' => e = .returned (.bool (v m)) ∧ Two w0 w' b c k u v :=
  (h.t.has1 hk hm).mono fun _ _ ⟨he, _, hb⟩ => ⟨he, h.step hb⟩
theorem sCount (h : Two w0 w b c k u v) (hk : k ≤ 1024) : Calls Try.prog 14 #[.pointer (some ⟨b, 0, none⟩)] w fun e w' => e = .returned (.int .i64 (cnt u k : Int)) ∧ Two w0 w' b c k u v :=
  (h.s.count hk).mono fun _ _ ⟨he, _, hb⟩ => ⟨he, h.step hb⟩
theorem tCount (h : Two w0 w b c k u v) (hk : k ≤ 1024) : Calls Try.prog 14 #[.pointer (some ⟨c, 0, none⟩)] w fun e w' => e = .returned (.int .i64 (cnt v k : Int)) ∧ Two w0 w' b c k u v :=
  (h.t.count hk).mono fun _ _ ⟨he, _, hb⟩ => ⟨he, h.step hb⟩
theorem sText (h : Two w0 w b c k u v) (hk : k ≤ 1024) : Calls Try.prog 17 #[.pointer (some ⟨b, 0, none⟩)] w fun e w' => e = .returned (.string (textB k u)) ∧ Two w0 w' b c k u v :=
  (h.s.text hk).mono fun _ _ ⟨he, _, hb⟩ => ⟨he, h.step hb⟩
theorem tText (h : Two w0 w b c k u v) (hk : k ≤ 1024) : Calls Try.prog 17 #[.pointer (some ⟨c, 0, none⟩)] w fun e w' => e = .returned (.string (textB k v)) ∧ Two w0 w' b c k u v :=
  (h.t.text hk).mono fun _ _ ⟨he, _, hb⟩ => ⟨he, h.step hb⟩
end Two
theorem same_added {k m : Nat} {u : Nat → Bool} (hk : k ≤ 1024) (hm : m < k) (hu : Low k u) : sameB k u k (upd u m true) = u m := by
  cases h : u m with
  | true => rw [upd_idem u h]; exact sameB_self k u
  | false =>
    cases hs : sameB k u k (upd u m true) with
    | false => rfl
    | true =>
      have := (sameB_eq hk hu (hu.upd hm true) hs).2
      rw [this, upd_same] at h
      cases h
theorem text_added {k m : Nat} {u : Nat → Bool} (hm : m < k) (hu : Low k u) : ((textB k u).toList == (textB k (upd u m true)).toList) = u m := by
  cases h : u m with
  | true => rw [upd_idem u h]; exact beq_self_eq_true _
  | false =>
    refine beq_eq_false_iff_ne.2 fun e => ?_
    rw [ByteArray.toList_eq, ByteArray.toList_eq] at e
    have := textB_inj hu (hu.upd hm true) (ByteArray.ext (Array.ext' e))
    rw [this, upd_same] at h
    cases h
theorem back_off {u : Nat → Bool} {m : Nat} (h : u m = false) : upd (upd u m true) m false = u := by
  funext i
  unfold upd
  by_cases e : i = m
  · rw [if_pos e, e, h]
  · rw [if_neg e, if_neg e]
theorem back_on {u : Nat → Bool} {m k : Nat} (hm : m < k) (h : u m = true) : cnt u k = cnt (upd (upd u m true) m false) k + 1 := by
  rw [upd_idem u h]
  have h1 := cnt_more (upd u m false) (upd_same u m false) k hm
  rw [show upd (upd u m false) m true = u from by
    funext i
    unfold upd
    by_cases e : i = m
    · rw [if_pos e, e, h]
    · rw [if_neg e, if_neg e]] at h1
  exact h1
set_option maxRecDepth 100000 in
set_option maxHeartbeats 3200000 in
theorem walk (x : Int) (A : Option Addr) (len cap : Nat) (xs : Nat → Int) (y : Int) (w : World) (hA : IntsInB w A len xs) :
    Calls Try.prog 5 #[.int .i64 x, .slice A len cap, .int .i64 y] w fun e w' => e = .returned (.bool true) ∧ Below w.heap.size w w' := by
  have HA := Lib.hid hA
  obtain ⟨j, hj, hx⟩ := cut_u64 x 1024 (by omega)
  have hw := wrap_u64_ge x
  have hx2 : (IntKind.u64.wrap x).tmod 1024 = (j : Int) := by rw [Int.tmod_eq_emod_of_nonneg hw]; exact hx
  obtain ⟨k, hk⟩ : ∃ k, k = 1 + j := ⟨_, rfl⟩
  have ek : 1 + (j : Int) = (k : Int) := by omega
  have hk1 : 1 ≤ k := by omega
  have hk2 : k ≤ 1024 := by omega
  have HAW := Lib.hid (awake8 w)
  have hj0 : 0 ≤ (j : Int) := by omega
  have hj1 : (j : Int) < 1024 := by omega
  clear hA hx hk hj
  by_cases h40 : 40 < len
  · have t0 : (40 : Int) < (len : Int) := by omega
    have t1 : decide ((40 : Int) < (len : Int)) = true := decide_eq_true t0
    clear h40
    go_enter Try.func5, Try.ntmps5
    go_wp2_with (fail)
    refine HAW.out.mono ?_
    rintro e w1 ⟨rfl, hb1⟩
    go_wp2_with (fail)
    refine bodyPost_ret (results_tmp rfl _ _ _) rfl ?_
    exact ⟨rfl, hb1⟩
  have t0 : ¬ (40 : Int) < (len : Int) := by omega
  have t1 : decide ((40 : Int) < (len : Int)) = false := decide_eq_false t0
  go_enter Try.func5, Try.ntmps5
  go_wp2_with (fail)
  refine HAW.out.mono ?_
  rintro e w1 ⟨rfl, hb1⟩
  have HN := Lib.hid (newSet (n := k) hb1 hk1 hk2)
  clear HAW hb1
  go_wp2_with (fail)
  refine HN.out.mono ?_
  rintro e w2 ⟨b, rfl, _, h2, _⟩
  have H2 := Lib.hid h2
  clear h2 HN hx2 hw hj0 hj1 ek
  go_wp2_with (fail)
  go_loopg [9] (len + 1) (fun gk vi wr => ∃ (i : Nat) (u : Nat → Bool), gk = len + 1 - i ∧ i ≤ len ∧ vi = .int .i64 (i : Int) ∧ Low k u ∧ Stands w wr b k u)
  case atStart => exact ⟨0, _, rfl, by omega, rfl, Low.none k, H2.out⟩
  case round =>
    clear H2
    obtain ⟨i, u, hgk, hi, rfl, hlow, h⟩ := hrel
    have HGK := Lib.hid hgk
    have HLOW := Lib.hid hlow
    have H := Lib.hid h
    clear hgk hlow h
    have i0 : 0 ≤ (i : Int) := by omega
    by_cases hlt : i < len
    · have x0 : (i : Int) < (len : Int) := by omega
      have x1 : decide ((i : Int) < (len : Int)) = true := decide_eq_true x0
      obtain ⟨pb, po, rfl, hc⟩ := HA.out (by omega)
      have hcell := (H.out.below.cell (p := ⟨pb, po + i, none⟩) (block_lt_of_cell (hc i hlt))).trans (hc i hlt)
      obtain ⟨z, hz, hxz⟩ := cut_u64 (xs i) k (by omega)
      have hw := wrap_u64_ge (xs i)
      have hxz2 : (IntKind.u64.wrap (xs i)).tmod (k : Int) = (z : Int) := by rw [Int.tmod_eq_emod_of_nonneg hw]; exact hxz
      have HAD := Lib.hid (H.out.add1 hk2 hz)
      have HL2 := Lib.hid (HLOW.out.upd hz true)
      have z2 : 0 ≤ (z : Int) := by omega
      have z3 : (z : Int) < 1024 := by omega
      have HLT := Lib.hid hlt
      clear hc hlt hxz hz
      generalize xs i = xi at hcell hw hxz2
      go_wp2_with (fail)
      refine HAD.out.mono ?_
      rintro e w3 ⟨rfl, h3, _⟩
      have H3 := Lib.hid h3
      clear h3
      go_wp2_with (fail)
      go_roundg (len + 1 - (i + 1))
      case measure => have := HGK.out; have := HLT.out; omega
      case rel => exact ⟨i + 1, _, rfl, by have := HLT.out; omega, rfl, HL2.out, H3.out⟩
    · have x0 : ¬ (i : Int) < (len : Int) := by omega
      have x1 : decide ((i : Int) < (len : Int)) = false := decide_eq_false x0
      have HTX := Lib.hid (H.out.text hk2)
      have HPO := Lib.hid (fun W => bits_parse_ok W k hk1 hk2 (textB k u) (textB_size k u) (over_text hk1 HLOW.out))
      rw [tb_text HLOW.out] at HPO
      clear hlt
      go_wp2_with (fail)
      refine HTX.out.mono ?_
      rintro e w3 ⟨rfl, h3, _⟩
      have H3 := Lib.hid h3
      clear h3 HTX H
      go_wp2_with (fail)
      refine (HPO.out w3).mono ?_
      rintro e w4 ⟨c, rfl, hcb, hs4, b4⟩
      have H4 := Lib.hid (show Two w w4 b c k u u from ⟨H3.out.step b4, ⟨hs4, Nat.le_trans H3.out.size hcb, H3.out.below.trans (b4.mono H3.out.size)⟩, by have := H3.out.lt; omega⟩)
      clear hcb hs4 b4 H3 HPO
      go_wp2_with (fail)
      refine H4.out.same.mono ?_
      rintro e w5 ⟨rfl, h5⟩
      rw [sameB_self]
      have H5 := Lib.hid h5
      clear h5 H4
      go_wp2_with (fail)
      refine H5.out.emas.mono ?_
      rintro e w6 ⟨rfl, h6⟩
      rw [sameB_self]
      have H6 := Lib.hid h6
      clear h6 H5
      obtain ⟨m, hm, hym⟩ := cut_u64 y k (by omega)
      have hwy := wrap_u64_ge y
      have hym2 : (IntKind.u64.wrap y).tmod (k : Int) = (m : Int) := by rw [Int.tmod_eq_emod_of_nonneg hwy]; exact hym
      have m2 : 0 ≤ (m : Int) := by omega
      have m3 : (m : Int) < 1024 := by omega
      have HM := Lib.hid hm
      clear hm hym
      go_wp2_with (fail)
      refine (H6.out.sHas hk2 HM.out).mono ?_
      rintro e w7 ⟨rfl, h7⟩
      have H7 := Lib.hid h7
      clear h7 H6
      obtain ⟨hd, hhd⟩ : ∃ hd, u m = hd := ⟨_, rfl⟩
      have HSA := Lib.hid (same_added hk2 HM.out HLOW.out)
      have HTA := Lib.hid (text_added HM.out HLOW.out)
      rw [hhd] at HSA HTA ⊢
      have HHD := Lib.hid hhd
      obtain ⟨r, hr⟩ : ∃ r : Nat, r = k % 1024 := ⟨_, rfl⟩
      obtain ⟨p, hp⟩ : ∃ p : Nat, p = r + 1 := ⟨_, rfl⟩
      have r1 : (k : Int) % 1024 = (r : Int) := by omega
      have r2 : (r : Int) + 1 = (p : Int) := by omega
      have HP := Lib.hid (show 1 ≤ p ∧ p ≤ 1024 ∧ k ≠ p by omega)
      have r3 : 0 ≤ (r : Int) := by omega
      have r4 : (r : Int) ≤ 1024 := by omega
      clear hhd hr hp hym2 hwy
      go_wp2_with (fail)
      refine (H7.out.sCount hk2).mono ?_
      rintro e w8 ⟨rfl, h8⟩
      have H8 := Lib.hid h8
      clear h8 H7
      go_wp2_with (fail)
      refine (H8.out.add hk2 HM.out).mono ?_
      rintro e w9 ⟨rfl, h9⟩
      have H9 := Lib.hid h9
      clear h9 H8
      go_wp2_with (fail)
      refine H9.out.same.mono ?_
      rintro e w10 ⟨rfl, h10⟩
      rw [HSA.out]
      have H10 := Lib.hid h10
      have vv : (hd != hd) = false := by simp
      clear h10 H9
      go_wp2_with (fail)
      refine (H10.out.sText hk2).mono ?_
      rintro e w11 ⟨rfl, h11⟩
      have H11 := Lib.hid h11
      clear h11 H10
      go_wp2_with (fail)
      refine (H11.out.tText hk2).mono ?_
      rintro e w12 ⟨rfl, h12⟩
      have H12 := Lib.hid h12
      clear h12 H11
      have hta := HTA.out
      generalize textB k u = q1 at hta ⊢
      generalize textB k (upd u m true) = q2 at hta ⊢
      go_wp2_with (fail)
      refine (H12.out.drop hk2 HM.out).mono ?_
      rintro e w13 ⟨rfl, h13⟩
      have H13 := Lib.hid h13
      clear h13 H12 hta
      go_wp2_with (fail)
      refine (H13.out.tHas hk2 HM.out).mono ?_
      rintro e w14 ⟨rfl, h14⟩
      rw [upd_same]
      have H14 := Lib.hid h14
      clear h14 H13
      go_wp2_with (fail)
      refine (H14.out.tCount hk2).mono ?_
      rintro e w15 ⟨rfl, h15⟩
      have H15 := Lib.hid h15
      clear h15 H14
      go_wp2_with (fail)
      refine (H15.out.sCount hk2).mono ?_
      rintro e w20 ⟨rfl, h20⟩
      have H20 := Lib.hid h20
      clear h20 H15
      have HHX := HHD.out
      cases hd with
      | true =>
        have hc := back_on HM.out HHX
        have hb : ((cnt (upd (upd u m true) m false) k : Int) != (cnt u k : Int)) = true := bne_iff_ne.2 (by omega)
        clear hc HHX
        go_wp2_with (fail)
        refine (H20.out.sCount hk2).mono ?_
        rintro e w16 ⟨rfl, h16⟩
        have H16 := Lib.hid h16
        clear h16 H20
        go_wp2_with (fail)
        refine (bits_same_nil w16).mono ?_
        rintro e w17 ⟨rfl, rfl⟩
        go_wp2_with (fail)
        refine (bits_same_none w16 b).mono ?_
        rintro e w17 ⟨rfl, rfl⟩
        have HNW := Lib.hid (newSet (n := p) H16.out.s.below HP.out.1 HP.out.2.1)
        go_wp2_with (fail)
        refine HNW.out.mono ?_
        rintro e w18 ⟨d, rfl, hdd, h18, b18⟩
        have HSM := Lib.hid (bits_same w18 b d k p u (fun _ => false) (H16.out.s.step b18).blk h18.blk)
        rw [sameB_not HP.out.2.2] at HSM
        have H18 := Lib.hid (H16.out.step b18)
        clear hdd h18 b18 HNW H16
        go_wp2_with (fail)
        refine HSM.out.mono ?_
        rintro e w19 ⟨rfl, m19, rfl⟩
        have H19 := Lib.hid (H18.out.drewN m19)
        go_wp2_with (fail)
        refine bodyPost_ret (results_tmp rfl _ _ _) rfl ?_
        exact ⟨rfl, H19.out.s.below⟩
      | false =>
        rw [show cnt (upd (upd u m true) m false) k = cnt u k by rw [back_off HHX]]
        clear HHX
        go_wp2_with (fail)
        refine (H20.out.sCount hk2).mono ?_
        rintro e w16 ⟨rfl, h16⟩
        have H16 := Lib.hid h16
        clear h16 H20
        go_wp2_with (fail)
        refine (bits_same_nil w16).mono ?_
        rintro e w17 ⟨rfl, rfl⟩
        go_wp2_with (fail)
        refine (bits_same_none w16 b).mono ?_
        rintro e w17 ⟨rfl, rfl⟩
        have HNW := Lib.hid (newSet (n := p) H16.out.s.below HP.out.1 HP.out.2.1)
        go_wp2_with (fail)
        refine HNW.out.mono ?_
        rintro e w18 ⟨d, rfl, hdd, h18, b18⟩
        have HSM := Lib.hid (bits_same w18 b d k p u (fun _ => false) (H16.out.s.step b18).blk h18.blk)
        rw [sameB_not HP.out.2.2] at HSM
        have H18 := Lib.hid (H16.out.step b18)
        clear hdd h18 b18 HNW H16
        go_wp2_with (fail)
        refine HSM.out.mono ?_
        rintro e w19 ⟨rfl, m19, rfl⟩
        have H19 := Lib.hid (H18.out.drewN m19)
        go_wp2_with (fail)
        refine bodyPost_ret (results_tmp rfl _ _ _) rfl ?_
        exact ⟨rfl, H19.out.s.below⟩
end bitsBack
end Go.Proofs.Ytmihladhopjloaa
