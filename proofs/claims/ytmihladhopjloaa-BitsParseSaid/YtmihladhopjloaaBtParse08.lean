/-
  BitsParse: of all bytes the set, if there is one, is the document's. The walk. Conditions: none.
-/
import Derived.Test.YtmihladhopjloaaBtAwake08
import Derived.Test.YtmihladhopjloaaRef08P
import Derived.Deep.RegionHeld3
namespace Go.Proofs.Ytmihladhopjloaa
open Go.ChangeShapes Go.WideShapes Go.ChangeAt Go.RowKit Bt

namespace bitsParse
theorem keep_alloc {w w5 W : World} {b n : Nat} {u : Nat → Bool} {g i : Nat} {v : Value} {o : Obj} (h : W.cell? ⟨g, i, none⟩ = some v ∧ Stands w W b n u ∧ Below w5.heap.size w5 W) :
    (W.alloc o).cell? ⟨g, i, none⟩ = some v ∧ Stands w (W.alloc o) b n u ∧ Below w5.heap.size w5 (W.alloc o) :=
  ⟨(((Below.refl W.heap.size W).alloc (Nat.le_refl _) o).cell (p := ⟨g, i, none⟩) (block_lt_of_cell h.1)).trans h.1, h.2.1.alloc o, h.2.2.trans ((Below.refl w5.heap.size W).alloc h.2.2.size o)⟩
set_option maxRecDepth 100000 in
set_option maxHeartbeats 3200000 in
theorem walk (x : Int) (t : ByteArray) (w : World) :
    Calls Try.prog 4 #[.int .i64 x, .string t] w fun e w' => e = .returned (.bool true) ∧ Below w.heap.size w w' := by
  have HAW := Lib.hid (awake8 w)
  by_cases h140 : 140 < t.size
  · have x0 : (140 : Int) < (t.size : Int) := by omega
    have x1 : decide ((140 : Int) < (t.size : Int)) = true := decide_eq_true x0
    clear h140
    go_enter Try.func4, Try.ntmps4
    go_wp2_with (fail)
    refine HAW.out.mono ?_
    rintro e w1 ⟨rfl, hb1⟩
    go_wp2_with (fail)
    refine bodyPost_ret (results_tmp rfl _ _ _) rfl ?_
    exact ⟨rfl, hb1⟩
  have x0 : ¬ (140 : Int) < (t.size : Int) := by omega
  have x1 : decide ((140 : Int) < (t.size : Int)) = false := decide_eq_false x0
  by_cases hx : x < 1 ∨ 1024 < x
  · have HP := Lib.hid (fun W => bits_parse_arg W x hx t)
    by_cases hx1 : x < 1
    · have y1 : decide (x < 1) = true := decide_eq_true hx1
      clear h140 hx
      go_enter Try.func4, Try.ntmps4
      go_wp2_with (fail)
      refine HAW.out.mono ?_
      rintro e w1 ⟨rfl, hb1⟩
      go_wp2_with (fail)
      refine (HP.out w1).mono ?_
      rintro e w2 ⟨rfl, rfl⟩
      go_wp2_with (fail)
      refine bodyPost_ret (results_tmp rfl _ _ _) rfl ?_
      exact ⟨rfl, hb1⟩
    · have y1 : decide (x < 1) = false := decide_eq_false hx1
      have hx2 : 1024 < x := by omega
      have y2 : decide (1024 < x) = true := decide_eq_true hx2
      clear h140 hx
      go_enter Try.func4, Try.ntmps4
      go_wp2_with (fail)
      refine HAW.out.mono ?_
      rintro e w1 ⟨rfl, hb1⟩
      go_wp2_with (fail)
      refine (HP.out w1).mono ?_
      rintro e w2 ⟨rfl, rfl⟩
      go_wp2_with (fail)
      refine bodyPost_ret (results_tmp rfl _ _ _) rfl ?_
      exact ⟨rfl, hb1⟩
  obtain ⟨n, rfl⟩ : ∃ n : Nat, x = (n : Int) := ⟨x.toNat, by omega⟩
  have hn1 : 1 ≤ n := by omega
  have hn2 : n ≤ 1024 := by omega
  have y0 : ¬ (n : Int) < 1 := by omega
  have y1 : decide ((n : Int) < 1) = false := decide_eq_false y0
  have y2 : ¬ 1024 < (n : Int) := by omega
  have y3 : decide (1024 < (n : Int)) = false := decide_eq_false y2
  by_cases hsz : t.size = szB n
  · by_cases hov : overB n t = true
    · have HP := Lib.hid (fun W => bits_parse_over W n hn1 hn2 t hsz hov)
      have HR := Lib.hid (fun W => ref8_parse W n hn1 hn2 t hsz)
      have HV := Lib.hid hov
      clear h140 hx hsz hov hn1 hn2
      go_enter Try.func4, Try.ntmps4
      go_wp2_with (fail)
      refine HAW.out.mono ?_
      rintro e w1 ⟨rfl, hb1⟩
      have HB1 := Lib.hid hb1
      clear hb1 HAW
      go_wp2_with (fail)
      refine (HP.out w1).mono ?_
      rintro e w2 ⟨rfl, b2⟩
      have HB2 := Lib.hid (HB1.out.trans (b2.mono HB1.out.size))
      clear b2 HP HB1
      go_wp2_with (fail)
      refine (HR.out w2).mono ?_
      rintro e w3 ⟨b3, ⟨_, rfl⟩ | ⟨ho, _⟩⟩
      · go_wp2_with (fail)
        refine bodyPost_ret (results_tmp rfl _ _ _) rfl ?_
        exact ⟨rfl, HB2.out.trans (b3.mono HB2.out.size)⟩
      · rw [HV.out] at ho
        cases ho
    · replace hov : overB n t = false := by simpa using hov
      have HP := Lib.hid (fun W => bits_parse_ok W n hn1 hn2 t hsz hov)
      have HR := Lib.hid (fun W => ref8_parse W n hn1 hn2 t hsz)
      have HV := Lib.hid hov
      have HTX := Lib.hid (text_tb hsz)
      have HN := Lib.hid (And.intro hn1 hn2)
      clear h140 hx hsz hov hn1 hn2
      go_enter Try.func4, Try.ntmps4
      go_wp2_with (fail)
      refine HAW.out.mono ?_
      rintro e w1 ⟨rfl, hb1⟩
      have HB1 := Lib.hid hb1
      clear hb1 HAW
      go_wp2_with (fail)
      refine (HP.out w1).mono ?_
      rintro e w2 ⟨b, rfl, hbb, hs2, b2⟩
      have H2 := Lib.hid (show Stands w w2 b n (tb t) from ⟨hs2, Nat.le_trans HB1.out.size hbb, HB1.out.trans (b2.mono HB1.out.size)⟩)
      clear b2 HP HB1 hbb hs2
      go_wp2_with (fail)
      refine (HR.out w2).mono ?_
      rintro e w3 ⟨b3, ⟨ho, _⟩ | ⟨_, A, cp, rfl, hbo⟩⟩
      · rw [HV.out] at ho
        cases ho
      have H3 := Lib.hid (H2.out.step b3)
      have HBO := Lib.hid hbo
      have HTT := Lib.hid (H3.out.text HN.out.2)
      rw [HTX.out] at HTT
      clear b3 H2 hbo HR HV HTX
      go_wp2_with (fail)
      refine HTT.out.mono ?_
      rintro e w4 ⟨rfl, h4, b4⟩
      have HLN := Lib.hid h4.len
      have HBO4 := Lib.hid (HBO.out.below b4)
      clear h4 b4 HTT HBO H3
      go_wp2_with (fail)
      refine HLN.out.mono ?_
      rintro e w5 ⟨rfl, h5, b5⟩
      have H5 := Lib.hid h5
      have HBO5 := Lib.hid (HBO4.out.below b5)
      clear h5 b5 HLN HBO4
      go_wp2_with (fail)
      go_loopw [9] (fun i wr => ∃ k : Nat, i = .int .i64 (k : Int) ∧ k ≤ n ∧ Stands w wr b n (tb t) ∧ Below w5.heap.size w5 wr) (fun i _ => match i with | .int _ k => n - k.toNat | _ => 0)
      case atStart => exact ⟨0, rfl, Nat.zero_le _, H5.out, Below.refl _ _⟩
      case round =>
        clear H5
        obtain ⟨k, rfl, hk, h, hb⟩ := hrel
        have H := Lib.hid h
        have HB := Lib.hid hb
        clear h hb
        have k0 : 0 ≤ (k : Int) := by omega
        by_cases hlt : k < n
        · have z0 : (k : Int) < (n : Int) := by omega
          have z1 : decide ((k : Int) < (n : Int)) = true := decide_eq_true z0
          obtain ⟨pb, po, rfl, hc⟩ := HBO5.out (by omega)
          have hpl := block_lt_of_cell (hc k hlt)
          have hcell := (HB.out.cell (p := ⟨pb, po + k, none⟩) hpl).trans (hc k hlt)
          have HSA := Lib.hid (show (wr.alloc (.cells #[.int .i64 (k : Int)] 3)).drew.cell? ⟨pb, po + k, none⟩ = some (.bool (tb t k)) ∧ Stands w (wr.alloc (.cells #[.int .i64 (k : Int)] 3)).drew b n (tb t) ∧ Below w5.heap.size w5 (wr.alloc (.cells #[.int .i64 (k : Int)] 3)).drew from
            keep_alloc (W := wr.drew) ⟨hcell, H.out.drew, below_drewN HB.out 1⟩)
          have HHS := Lib.hid (show Calls Try.prog 12 #[.pointer (some ⟨b, 0, none⟩), .slice (some ⟨wr.heap.size, 0, none⟩) 1 1] (wr.alloc (.cells #[.int .i64 (k : Int)] 3)).drew fun e w' => e = .returned (.bool (tb t k)) ∧ (w'.cell? ⟨pb, po + k, none⟩ = some (.bool (tb t k)) ∧ Stands w w' b n (tb t) ∧ Below w5.heap.size w5 w') from
            (H.out.drew.has1 (by have := HN.out; omega) hlt).mono fun _ w' ⟨he, h', hb'⟩ => ⟨he, (hb'.cell (p := ⟨pb, po + k, none⟩) (block_lt_of_cell hcell)).trans hcell, h', (show Below w5.heap.size w5 wr.drew from below_drewN HB.out 1).trans (hb'.mono HB.out.size)⟩)
          clear hc
          generalize hv : tb t k = v at hcell HSA HHS
          have hcd : wr.drew.cell? ⟨pb, po + k, none⟩ = some (.bool v) := hcell
          have HD := Lib.hid (And.intro hcd (And.intro H.out.drew (show Below w5.heap.size w5 wr.drew from below_drewN HB.out 1)))
          have vv : (v != v) = false := by simp
          clear hv
          go_wp2_with (fail)
          go_region_held3 (fun W : World => W.cell? ⟨pb, po + k, none⟩ = some (.bool v) ∧ Stands w W b n (tb t) ∧ Below w5.heap.size w5 W) (first | exact HD.out | exact HSA.out | assumption) (first
            | (go_at_call 12; (with_reducible refine HHS.out.mono ?_); rintro e w6 ⟨rfl, hs⟩))
          have H6 := Lib.hid hs
          clear hs HHS HSA HD
          go_wp2_with (fail)
          exact ⟨⟨k + 1, rfl, by omega, H6.out.2.1, H6.out.2.2⟩, by show n - ((k : Int) + 1).toNat < n - (k : Int).toNat; omega⟩
        · have hke : k = n := by omega
          subst hke
          have z0 : ¬ (k : Int) < (k : Int) := by omega
          have z1 : decide ((k : Int) < (k : Int)) = false := decide_eq_false z0
          clear hlt z0
          go_wp2_with (fail)
          refine bodyPost_ret (results_tmp rfl _ _ _) rfl ?_
          exact ⟨rfl, H.out.below⟩
  · have HP := Lib.hid (fun W => bits_parse_size W n hn1 hn2 t hsz)
    have HR := Lib.hid (fun W => ref8_parse_size W n hn1 hn2 t hsz)
    clear h140 hx hsz hn1 hn2
    go_enter Try.func4, Try.ntmps4
    go_wp2_with (fail)
    refine HAW.out.mono ?_
    rintro e w1 ⟨rfl, hb1⟩
    have HB1 := Lib.hid hb1
    clear hb1 HAW
    go_wp2_with (fail)
    refine (HP.out w1).mono ?_
    rintro e w2 ⟨rfl, b2⟩
    have HB2 := Lib.hid (HB1.out.trans (b2.mono HB1.out.size))
    clear b2 HP HB1
    go_wp2_with (fail)
    refine (HR.out w2).mono ?_
    rintro e w3 ⟨rfl, rfl⟩
    go_wp2_with (fail)
    refine bodyPost_ret (results_tmp rfl _ _ _) rfl ?_
    exact ⟨rfl, HB2.out⟩
end bitsParse
end Go.Proofs.Ytmihladhopjloaa
