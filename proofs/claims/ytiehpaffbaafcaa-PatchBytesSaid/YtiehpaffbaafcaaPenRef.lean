/-
  The document's own reader: what each call answers, and what is left. Conditions: it stands in a block of its own; once wrong, nothing is left.
-/
import Derived.Test.YtiehpaffbaafcaaPenEye
namespace Go.Proofs.Ytiehpaffbaafcaa
open Go.ChangeShapes Go.WideShapes Go.ChangeAt Go.RowKit Pn

/-- The document's reader stands in block b. -/
def RefAt (w : World) (b : Nat) (r : ByteArray) (bad : Bool) : Prop := w.heap[b]? = some (.cells #[.string r, .bool bad] 62 (0, 0))
namespace RefAt
variable {w w' : World} {b : Nat} {r : ByteArray} {bad : Bool}
theorem lt (h : RefAt w b r bad) : b < w.heap.size := (Array.getElem?_eq_some_iff.1 h).1
theorem rest (h : RefAt w b r bad) : w.cell? ⟨b, 0, none⟩ = some (.string r) := cell_of_row w b 0 _ _ _ h
theorem wrong (h : RefAt w b r bad) : w.cell? ⟨b, 1, none⟩ = some (.bool bad) := cell_of_row w b 1 _ _ _ h
theorem fz (h : RefAt w b r bad) (i : Nat) : w.frozen? ⟨b, i, none⟩ = false := frozen_of_row w b i _ _ h
theorem setRest (h : RefAt w b r bad) (s : ByteArray) : RefAt (w.setCell ⟨b, 0, none⟩ (.string s)) b s bad := heap_setCell_same w b 0 _ _ _ h
theorem setBad (h : RefAt w b r bad) (x : Bool) : RefAt (w.setCell ⟨b, 1, none⟩ (.bool x)) b r x := heap_setCell_same w b 1 _ _ _ h
theorem of_block (h : RefAt w b r bad) (e : w'.heap[b]? = w.heap[b]?) : RefAt w' b r bad := e.trans h
theorem drewN (h : RefAt w b r bad) (n : Nat) : RefAt (w.drewN n) b r bad := h
end RefAt
def RefSays (w : World) (b : Nat) (v : Value) (r : ByteArray) (bad : Bool) (e : Ending) (w' : World) : Prop := e = .returned v ∧ RefAt w' b r bad ∧ Only w w' b

theorem ref_fail (w : World) (b : Nat) (r : ByteArray) (bad : Bool) (h : RefAt w b r bad) :
    Calls Try.prog 41 #[.pointer (some ⟨b, 0, none⟩)] w (RefSays w b (.tuple #[]) ⟨#[]⟩ true) := by
  have c0 := h.rest
  have c1 := h.wrong
  have f0 := h.fz 0
  have f1 := h.fz 1
  have H := Lib.hid h
  clear h
  go_enter Try.func41, Try.ntmps41
  go_wp2
  go_end0
  exact ⟨rfl, (H.out.setBad true).setRest _, ((Only.refl w b).setCell (.inl rfl) _).setCell (.inl rfl) _⟩

set_option maxRecDepth 100000 in
set_option maxHeartbeats 1600000 in
theorem ref_take (w : World) (b : Nat) (r : ByteArray) (bad : Bool) (h : RefAt w b r bad) (hs : Sane r bad) (n : Nat) :
    Calls Try.prog 26 #[.pointer (some ⟨b, 0, none⟩), .int .i64 (n : Int)] w (RefSays w b (.string (tkOut r n)) (tkRest r n) (tkBad r bad n)) := by
  have c0 := h.rest
  have c1 := h.wrong
  have f0 := h.fz 0
  have H := Lib.hid h
  clear h
  have h0 : ¬ (n : Int) < 0 := by omega
  have h0' : 0 ≤ (n : Int) := by omega
  cases bad with
  | true =>
    have hr : r = ⟨#[]⟩ := empty_of_size (hs rfl)
    subst hr
    have HO := Lib.hid (show tkOut ⟨#[]⟩ n = ⟨#[]⟩ from empty_of_size (Nat.le_zero.1 (tk_out_size _ _)))
    have HR := Lib.hid (show tkRest ⟨#[]⟩ n = ⟨#[]⟩ from empty_of_size (Nat.le_zero.1 (tk_rest_size _ _)))
    have HB := Lib.hid (show tkBad ⟨#[]⟩ true n = true from rfl)
    clear hs
    go_enter Try.func26, Try.ntmps26
    go_wp2_with (fail)
    refine (ref_fail w b _ _ H.out).mono ?_
    rintro e w' ⟨rfl, h1, h2⟩
    have H1 := Lib.hid h1
    clear h1
    go_wp2
    go_ret
    rw [HO.out, HR.out, HB.out]
    exact ⟨rfl, H1.out, h2⟩
  | false =>
    clear hs
    by_cases hlt : n ≤ r.size
    · have hi : ¬ (r.size : Int) < (n : Int) := by omega
      have h1 : (n : Int) ≤ (r.size : Int) := by omega
      have HO := Lib.hid (tk_out_yes hlt)
      have HR := Lib.hid (tk_rest_yes hlt)
      have HB := Lib.hid (tk_bad_yes false hlt)
      go_enter Try.func26, Try.ntmps26
      go_wp2_with (fail)
      go_ret
      rw [HO.out, HR.out, HB.out]
      exact ⟨rfl, H.out.setRest _, (Only.refl w b).setCell (.inl rfl) _⟩
    · have hi : (r.size : Int) < (n : Int) := by omega
      have HO := Lib.hid (tk_out_no (r := r) (n := n) (by omega))
      have HR := Lib.hid (tk_rest_no (r := r) (n := n) (by omega))
      have HB := Lib.hid (tk_bad_no (r := r) (n := n) false (by omega))
      go_enter Try.func26, Try.ntmps26
      go_wp2_with (fail)
      refine (ref_fail w b _ _ H.out).mono ?_
      rintro e w' ⟨rfl, h1, h2⟩
      have H1 := Lib.hid h1
      clear h1
      go_wp2
      go_ret
      rw [HO.out, HR.out, HB.out]
      exact ⟨rfl, H1.out, h2⟩

theorem le4_sum (l : Nat) (b0 b1 b2 b3 : Int) (hl : (l : Int) = b0 + 256 * b1 + 65536 * b2 + 16777216 * b3) :
    b0 + b1 * 256 + b2 * 65536 + b3 * 16777216 = (l : Int) := by omega
set_option maxRecDepth 100000 in
set_option maxHeartbeats 1600000 in
theorem ref_num (w : World) (b : Nat) (r : ByteArray) (bad : Bool) (h : RefAt w b r bad) (hsn : Sane r bad) (most : Int) :
    Calls Try.prog 25 #[.pointer (some ⟨b, 0, none⟩), .int .i64 most] w (RefSays w b (.int .i64 (nmOut r most : Int)) (nmRest r most) (nmBad r bad most)) := by
  have H := Lib.hid h
  have HSN := Lib.hid hsn
  clear h hsn
  by_cases h4 : 4 ≤ r.size
  · have hbf : bad = false := by
      cases bad with
      | false => rfl
      | true => have := HSN.out rfl; omega
    subst hbf
    have hs := size_pos h4 (by omega)
    have hxi : ∀ (k : Nat) (K : Int), k < 4 → K = (k : Int) → ∀ W, (Instr.index 9 (.string (tkOut r 4)) (.int .i64 K)).run Try.prog W = .ok (.int .u8 ((byAt r k).toNat : Int)) W := fun k K hk hK W =>
      (index_by (tkOut r 4) k (by omega) K hK W).trans (by rw [tk_out_yes h4, byAt_take _ _ _ hk])
    have x0 := hxi 0 0 (by omega) rfl
    have x1 := hxi 1 1 (by omega) rfl
    have x2 := hxi 2 2 (by omega) rfl
    have x3 := hxi 3 3 (by omega) rfl
    have p0 : 0 ≤ ((byAt r 0).toNat : Int) := by omega
    have p1 : 0 ≤ ((byAt r 1).toNat : Int) := by omega
    have p2 : 0 ≤ ((byAt r 2).toNat : Int) := by omega
    have p3 : 0 ≤ ((byAt r 3).toNat : Int) := by omega
    have q0 : ((byAt r 0).toNat : Int) < 256 := by have := (byAt r 0).toNat_lt; omega
    have q1 : ((byAt r 1).toNat : Int) < 256 := by have := (byAt r 1).toNat_lt; omega
    have q2 : ((byAt r 2).toNat : Int) < 256 := by have := (byAt r 2).toNat_lt; omega
    have q3 : ((byAt r 3).toNat : Int) < 256 := by have := (byAt r 3).toNat_lt; omega
    have hor := le4_sum (le4 r) ((byAt r 0).toNat : Int) ((byAt r 1).toNat : Int) ((byAt r 2).toNat : Int) ((byAt r 3).toNat : Int) (by unfold le4; omega)
    clear hs hxi
    generalize ((byAt r 0).toNat : Int) = b0 at *
    generalize ((byAt r 1).toNat : Int) = b1 at *
    generalize ((byAt r 2).toNat : Int) = b2 at *
    generalize ((byAt r 3).toNat : Int) = b3 at *
    have e1 : IntKind.i64.wrap (b1 * 256) = b1 * 256 := IntWalk.i64_in _ (by omega)
    have e2 : IntKind.i64.wrap (b2 * 65536) = b2 * 65536 := IntWalk.i64_in _ (by omega)
    have e3 : IntKind.i64.wrap (b3 * 16777216) = b3 * 16777216 := IntWalk.i64_in _ (by omega)
    have e4 : IntKind.i64.wrap (b0 + b1 * 256) = b0 + b1 * 256 := IntWalk.i64_in _ (by omega)
    have e5 : IntKind.i64.wrap (b0 + b1 * 256 + b2 * 65536) = b0 + b1 * 256 + b2 * 65536 := IntWalk.i64_in _ (by omega)
    have e6 : IntKind.i64.wrap (b0 + b1 * 256 + b2 * 65536 + b3 * 16777216) = b0 + b1 * 256 + b2 * 65536 + b3 * 16777216 := IntWalk.i64_in _ (by omega)
    have HR4 := Lib.hid (tk_rest_yes h4)
    have HB4 := Lib.hid (tk_bad_yes false h4)
    by_cases hm : (le4 r : Int) ≤ most
    · have HN := Lib.hid (nm_ok h4 hm)
      have hmi : ¬ most < (le4 r : Int) := by omega
      generalize hl : le4 r = l at hor hm hmi
      have HLL := Lib.hid hl
      clear hl
      go_enter Try.func25, Try.ntmps25
      go_wp2_with (fail)
      refine (ref_take w b r false H.out HSN.out 4).mono ?_
      rintro e w' ⟨rfl, g1, g2⟩
      have c1 := g1.wrong
      rw [HB4.out] at c1
      have G1 := Lib.hid g1
      clear g1
      generalize tkOut r 4 = q at x0 x1 x2 x3 ⊢
      go_wp2
      go_quiet (fail)
      go_wp2
      go_ret
      rw [HN.out |> nm_out_yes, HN.out |> nm_rest_yes, nm_bad_yes false HN.out, HLL.out]
      refine ⟨rfl, ?_, g2.drewN nq⟩
      have := G1.out
      rw [HR4.out, HB4.out] at this
      exact this
    · have HN := Lib.hid (nm_great hm)
      have hmi : most < (le4 r : Int) := by omega
      generalize hl : le4 r = l at hor hm hmi
      clear hl
      go_enter Try.func25, Try.ntmps25
      go_wp2_with (fail)
      refine (ref_take w b r false H.out HSN.out 4).mono ?_
      rintro e w' ⟨rfl, g1, g2⟩
      have c1 := g1.wrong
      rw [HB4.out] at c1
      have G1 := Lib.hid g1
      clear g1
      generalize tkOut r 4 = q at x0 x1 x2 x3 ⊢
      go_wp2
      go_quiet (fail)
      go_wp2_with (fail)
      refine (ref_fail _ b _ _ (G1.out.drewN nq)).mono ?_
      rintro e w'' ⟨rfl, k1, k2⟩
      have K1 := Lib.hid k1
      clear k1
      go_wp2
      go_ret
      rw [nm_out_no HN.out, nm_rest_no HN.out, nm_bad_no false HN.out]
      exact ⟨rfl, K1.out, (g2.drewN nq).trans k2⟩
  · have HR4 := Lib.hid (tk_rest_no (r := r) (n := 4) (by omega))
    have HB4 := Lib.hid (tk_bad_no (r := r) (n := 4) bad (by omega))
    have HN := Lib.hid (nm_short (most := most) h4)
    go_enter Try.func25, Try.ntmps25
    go_wp2_with (fail)
    refine (ref_take w b r bad H.out HSN.out 4).mono ?_
    rintro e w' ⟨rfl, g1, g2⟩
    rw [HR4.out, HB4.out] at g1
    have c1 := g1.wrong
    have G1 := Lib.hid g1
    clear g1
    go_wp2
    go_ret
    rw [nm_out_no HN.out, nm_rest_no HN.out, nm_bad_no bad HN.out]
    exact ⟨rfl, G1.out, g2⟩

set_option maxRecDepth 100000 in
set_option maxHeartbeats 800000 in
theorem ref_text (w : World) (b : Nat) (r : ByteArray) (bad : Bool) (h : RefAt w b r bad) (hsn : Sane r bad) (most : Int) :
    Calls Try.prog 27 #[.pointer (some ⟨b, 0, none⟩), .int .i64 most] w (RefSays w b (.string (txOut r most)) (txRest r most) (txBad r bad most)) := by
  have H := Lib.hid h
  have HSN := Lib.hid hsn
  have HSM := Lib.hid (nm_sane hsn most)
  clear h hsn
  cases hb : nmBad r bad most with
  | true =>
    have he : nmRest r most = ⟨#[]⟩ := empty_of_size (HSM.out hb)
    have HOut := Lib.hid (show txOut r most = ⟨#[]⟩ by unfold txOut; rw [he]; exact empty_of_size (Nat.le_zero.1 (tk_out_size _ _)))
    have HRest := Lib.hid (show txRest r most = ⟨#[]⟩ from empty_of_size (by have := tk_rest_size (nmRest r most) (nmOut r most); rw [he] at this; unfold txRest; rw [he]; exact Nat.le_zero.1 this))
    have HBad := Lib.hid (show txBad r bad most = true by unfold txBad tkBad; rw [hb]; rfl)
    have HBM := Lib.hid hb
    have HE := Lib.hid he
    clear hb he
    go_enter Try.func27, Try.ntmps27
    go_wp2_with (fail)
    refine (ref_num w b r bad H.out HSN.out most).mono ?_
    rintro e w1 ⟨rfl, g1, g2⟩
    rw [HBM.out, HE.out] at g1
    have c1 := g1.wrong
    have G1 := Lib.hid g1
    clear g1
    go_wp2
    go_ret
    rw [HOut.out, HRest.out, HBad.out]
    exact ⟨rfl, G1.out, g2⟩
  | false =>
    have HBM := Lib.hid hb
    clear hb
    go_enter Try.func27, Try.ntmps27
    go_wp2_with (fail)
    refine (ref_num w b r bad H.out HSN.out most).mono ?_
    rintro e w1 ⟨rfl, g1, g2⟩
    have c1 := g1.wrong
    rw [HBM.out] at c1
    have G1 := Lib.hid g1
    clear g1
    go_wp2_with (fail)
    refine (ref_take w1 b _ _ G1.out HSM.out (nmOut r most)).mono ?_
    rintro e w2 ⟨rfl, k1, k2⟩
    have K1 := Lib.hid k1
    clear k1
    go_wp2
    go_ret
    exact ⟨rfl, K1.out, g2.trans k2⟩
end Go.Proofs.Ytiehpaffbaafcaa
