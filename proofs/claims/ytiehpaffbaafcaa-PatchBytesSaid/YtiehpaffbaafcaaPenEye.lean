/-
  Package pen's reader: what each call answers, and what is left. Conditions: the eye stands in a block of its own; once wrong, nothing is left.
-/
import Derived.Test.YtiehpaffbaafcaaPenSpec
import Derived.Test.YtiehpaffbaafcaaPenClone
import Derived.Laws.Strings
namespace Go.Proofs.Ytiehpaffbaafcaa
open Go.ChangeShapes Go.WideShapes Go.ChangeAt Go.RowKit Pn

def errOf (bad : Bool) : Int := if bad then 5 else 0
/-- An eye stands in block b: what is left, and whether something was wrong. -/
def EyeAt (w : World) (b : Nat) (r : ByteArray) (bad : Bool) : Prop := w.heap[b]? = some (.cells #[.string r, .int .i64 (errOf bad)] 75 (0, 0))
namespace EyeAt
variable {w w' : World} {b : Nat} {r : ByteArray} {bad : Bool}
theorem lt (h : EyeAt w b r bad) : b < w.heap.size := (Array.getElem?_eq_some_iff.1 h).1
theorem rest (h : EyeAt w b r bad) : w.cell? ⟨b, 0, none⟩ = some (.string r) := cell_of_row w b 0 _ _ _ h
theorem err (h : EyeAt w b r bad) : w.cell? ⟨b, 1, none⟩ = some (.int .i64 (errOf bad)) := cell_of_row w b 1 _ _ _ h
theorem fz (h : EyeAt w b r bad) (i : Nat) : w.frozen? ⟨b, i, none⟩ = false := frozen_of_row w b i _ _ h
theorem setRest (h : EyeAt w b r bad) (s : ByteArray) : EyeAt (w.setCell ⟨b, 0, none⟩ (.string s)) b s bad := heap_setCell_same w b 0 _ _ _ h
theorem setErr (h : EyeAt w b r bad) (n : Int) : (w.setCell ⟨b, 1, none⟩ (.int .i64 n)).heap[b]? = some (.cells #[.string r, .int .i64 n] 75 (0, 0)) := heap_setCell_same w b 1 _ _ _ h
theorem of_block (h : EyeAt w b r bad) (e : w'.heap[b]? = w.heap[b]?) : EyeAt w' b r bad := e.trans h
theorem drewN (h : EyeAt w b r bad) (n : Nat) : EyeAt (w.drewN n) b r bad := h
end EyeAt
/-- Behind a call on the eye in block b: what it answered, and what stands there. -/
def EyeSays (w : World) (b : Nat) (v : Value) (r : ByteArray) (bad : Bool) (e : Ending) (w' : World) : Prop := e = .returned v ∧ EyeAt w' b r bad ∧ Only w w' b

theorem eye_fail (w : World) (b : Nat) (r : ByteArray) (bad : Bool) (h : EyeAt w b r bad) :
    Calls Try.prog 36 #[.pointer (some ⟨b, 0, none⟩)] w (EyeSays w b (.tuple #[]) ⟨#[]⟩ true) := by
  have c0 := h.rest
  have c1 := h.err
  have f0 := h.fz 0
  have f1 := h.fz 1
  have H := Lib.hid h
  clear h
  go_enter Try.func36, Try.ntmps36
  go_wp2
  go_end0
  have h1 : EyeAt (w.setCell ⟨b, 0, none⟩ (.string ⟨#[]⟩)) b ⟨#[]⟩ bad := H.out.setRest _
  exact ⟨rfl, h1.setErr 5, ((Only.refl w b).setCell (.inl rfl) _).setCell (.inl rfl) _⟩

set_option maxRecDepth 100000 in
set_option maxHeartbeats 800000 in
theorem eye_take (w : World) (b : Nat) (r : ByteArray) (bad : Bool) (h : EyeAt w b r bad) (n : Nat) (hn : n < 4294967296) :
    Calls Try.prog 35 #[.pointer (some ⟨b, 0, none⟩), .int .i64 (n : Int)] w (EyeSays w b (.string (tkOut r n)) (tkRest r n) (tkBad r bad n)) := by
  have c0 := h.rest
  have f0 := h.fz 0
  have H := Lib.hid h
  clear h
  by_cases hlt : n ≤ r.size
  · have hi : ¬ (r.size : Int) < (n : Int) := by omega
    have h0 : 0 ≤ (n : Int) := by omega
    have h1 : (n : Int) ≤ (r.size : Int) := by omega
    have HO := Lib.hid (tk_out_yes hlt)
    have HR := Lib.hid (tk_rest_yes hlt)
    have HB := Lib.hid (tk_bad_yes bad hlt)
    go_enter Try.func35, Try.ntmps35
    go_wp2_with (fail)
    go_ret
    rw [HO.out, HR.out, HB.out]
    exact ⟨rfl, H.out.setRest _, (Only.refl w b).setCell (.inl rfl) _⟩
  · have hi : (r.size : Int) < (n : Int) := by omega
    have HO := Lib.hid (tk_out_no (r := r) (n := n) (by omega))
    have HR := Lib.hid (tk_rest_no (r := r) (n := n) (by omega))
    have HB := Lib.hid (tk_bad_no (r := r) (n := n) bad (by omega))
    go_enter Try.func35, Try.ntmps35
    go_wp2_with (fail)
    refine (eye_fail w b r bad H.out).mono ?_
    rintro e w' ⟨rfl, h1, h2⟩
    have H1 := Lib.hid h1
    clear h1
    go_wp2
    go_ret
    rw [HO.out, HR.out, HB.out]
    exact ⟨rfl, H1.out, h2⟩

theorem eye_of (s : ByteArray) (w : World) :
    Calls Try.prog 21 #[.string s] w fun e w' => e = .returned (.pointer (some ⟨w.heap.size, 0, none⟩)) ∧ EyeAt w' w.heap.size s false ∧ Below w.heap.size w w' := by
  go_enter Try.func21, Try.ntmps21
  go_wp2
  go_ret
  exact ⟨rfl, heap_alloc_new w _, (Below.refl _ _).alloc (Nat.le_refl _) _⟩
theorem size_pos {r : ByteArray} {n : Nat} (h : n ≤ r.size) (hn : 0 < n) : (tkOut r n).size = n := by rw [tk_out_yes h, extract_size _ _ _ h]; omega
theorem byAt_take (r : ByteArray) (n k : Nat) (h : k < n) : byAt (r.extract 0 n) k = byAt r k := by
  unfold byAt
  rw [ByteArray.data_extract, Array.toList_extract, List.extract_eq_take_drop, List.drop_zero]
  rw [List.getD_eq_getElem?_getD, List.getD_eq_getElem?_getD, List.getElem?_take, if_pos (by omega)]
theorem index_by (q : ByteArray) (k : Nat) (h : k < q.size) (n : Int) (hn : n = (k : Int)) (w : World) : (Instr.index 9 (.string q) (.int .i64 n)).run Try.prog w = .ok (.int .u8 ((byAt q k).toNat : Int)) w := by
  subst hn
  have hu := Try.underlying9
  have hb : q[k]? = some (byAt q k) := by
    unfold byAt
    rw [getElem?_pos q k h, List.getD_eq_getElem?_getD, List.getElem?_eq_getElem (show k < q.data.toList.length from h)]
    rfl
  simp [Instr.index, run_underlying hu, go_sem]
  rw [hb]
  rfl
theorem not_empty {q : ByteArray} (h : 0 < q.size) : q.toList.isEmpty = false := by
  rw [ByteArray.toList_eq]
  have : 0 < q.data.toList.length := h
  cases e : q.data.toList with
  | nil => rw [e] at this; cases this
  | cons => rfl
theorem val_u8 {a b : UInt8} (h : a = b) : Value.int .u8 (a.toNat : Int) = .int .u8 (b.toNat : Int) := by rw [h]
set_option maxRecDepth 100000 in
set_option maxHeartbeats 800000 in
theorem eye_byte (w : World) (b : Nat) (r : ByteArray) (bad : Bool) (h : EyeAt w b r bad) :
    Calls Try.prog 37 #[.pointer (some ⟨b, 0, none⟩)] w (EyeSays w b (.int .u8 ((byAt (tkOut r 1) 0).toNat : Int)) (tkRest r 1) (tkBad r bad 1)) := by
  have H := Lib.hid h
  clear h
  generalize hc : byAt (tkOut r 1) 0 = c
  have HC := Lib.hid hc
  clear hc
  by_cases h1 : 1 ≤ r.size
  · have hs := size_pos h1 (by omega)
    have hne := not_empty (q := tkOut r 1) (by omega)
    have hx : ∀ W, (Instr.index 9 (.string (tkOut r 1)) (.int .i64 0)).run Try.prog W = .ok (.int .u8 (c.toNat : Int)) W := fun W => (index_by (tkOut r 1) 0 (by omega) 0 rfl W).trans (by rw [HC.out])
    clear hs
    go_enter Try.func37, Try.ntmps37
    go_wp2_with (fail)
    refine (eye_take w b r bad H.out 1 (by omega)).mono ?_
    rintro e w' ⟨rfl, g1, g2⟩
    have G1 := Lib.hid g1
    clear g1
    generalize tkOut r 1 = q at hx hne ⊢
    go_wp2
    go_ret
    exact ⟨rfl, G1.out, g2⟩
  · have HO := Lib.hid (tk_out_no (r := r) (n := 1) (by omega))
    have hc : c = 0 := by rw [← HC.out, HO.out]; rfl
    subst hc
    go_enter Try.func37, Try.ntmps37
    go_wp2_with (fail)
    refine (eye_take w b r bad H.out 1 (by omega)).mono ?_
    rintro e w' ⟨rfl, g1, g2⟩
    have G1 := Lib.hid g1
    clear g1
    rw [HO.out]
    go_wp2
    go_ret
    exact ⟨rfl, G1.out, g2⟩
/-- The law's own spelling of a number in four bytes. -/
theorem le4_or (a b c d : Nat) (ha : a < 256) (hb : b < 256) (hc : c < 256) (hd : d < 256) :
    bits .or .i64 (bits .or .i64 (bits .or .i64 (a : Int) ((b : Int) * 256)) ((c : Int) * 65536)) ((d : Int) * 16777216) = ((a + 256 * b + 65536 * c + 16777216 * d : Nat) : Int) := by
  have e1 := or_val a (b * 256) (by omega) (by omega) 8 b (by omega) (by omega)
  have e2 := or_val (a + b * 256) (c * 65536) (by omega) (by omega) 16 c (by omega) (by omega)
  have e3 := or_val (a + b * 256 + c * 65536) (d * 16777216) (by omega) (by omega) 24 d (by omega) (by omega)
  simp only [Int.natCast_mul, Int.natCast_add, Int.cast_ofNat_Int] at e1 e2 e3 ⊢
  rw [e1, e2, e3]
  omega
set_option maxRecDepth 100000 in
set_option maxHeartbeats 1600000 in
theorem eye_num (w : World) (b : Nat) (r : ByteArray) (bad : Bool) (h : EyeAt w b r bad) (most : Int) :
    Calls Try.prog 22 #[.pointer (some ⟨b, 0, none⟩), .int .i64 most] w (EyeSays w b (.int .i64 (nmOut r most : Int)) (nmRest r most) (nmBad r bad most)) := by
  have H := Lib.hid h
  clear h
  by_cases h4 : 4 ≤ r.size
  · have hs := size_pos h4 (by omega)
    have hne := not_empty (q := tkOut r 4) (by omega)
    have hxi : ∀ (k : Nat) (K : Int), k < 4 → K = (k : Int) → ∀ W, (Instr.index 9 (.string (tkOut r 4)) (.int .i64 K)).run Try.prog W = .ok (.int .u8 ((byAt r k).toNat : Int)) W := fun k K hk hK W =>
      (index_by (tkOut r 4) k (by omega) K hK W).trans (by rw [tk_out_yes h4, byAt_take _ _ _ hk])
    have x0 := hxi 0 0 (by omega) rfl
    have x1 := hxi 1 1 (by omega) rfl
    have x2 := hxi 2 2 (by omega) rfl
    have x3 := hxi 3 3 (by omega) rfl
    have HL := Lib.hid (show le4 r = (byAt r 0).toNat + 256 * (byAt r 1).toNat + 65536 * (byAt r 2).toNat + 16777216 * (byAt r 3).toNat from rfl)
    have hor := le4_or (byAt r 0).toNat (byAt r 1).toNat (byAt r 2).toNat (byAt r 3).toNat (byAt r 0).toNat_lt (byAt r 1).toNat_lt (byAt r 2).toNat_lt (byAt r 3).toNat_lt
    rw [← HL.out] at hor
    have p0 : 0 ≤ ((byAt r 0).toNat : Int) := by omega
    have p1 : 0 ≤ ((byAt r 1).toNat : Int) := by omega
    have p2 : 0 ≤ ((byAt r 2).toNat : Int) := by omega
    have p3 : 0 ≤ ((byAt r 3).toNat : Int) := by omega
    have q0 : ((byAt r 0).toNat : Int) < 256 := by have := (byAt r 0).toNat_lt; omega
    have q1 : ((byAt r 1).toNat : Int) < 256 := by have := (byAt r 1).toNat_lt; omega
    have q2 : ((byAt r 2).toNat : Int) < 256 := by have := (byAt r 2).toNat_lt; omega
    have q3 : ((byAt r 3).toNat : Int) < 256 := by have := (byAt r 3).toNat_lt; omega
    clear hs hxi HL
    generalize ((byAt r 0).toNat : Int) = b0 at *
    generalize ((byAt r 1).toNat : Int) = b1 at *
    generalize ((byAt r 2).toNat : Int) = b2 at *
    generalize ((byAt r 3).toNat : Int) = b3 at *
    have HR4 := Lib.hid (tk_rest_yes h4)
    have HB4 := Lib.hid (tk_bad_yes bad h4)
    by_cases hm : (le4 r : Int) ≤ most
    · have HN := Lib.hid (nm_ok h4 hm)
      have hmi : ¬ most < (le4 r : Int) := by omega
      generalize hl : le4 r = l at hor hm hmi
      have HLL := Lib.hid hl
      clear hl
      go_enter Try.func22, Try.ntmps22
      go_wp2_with (fail)
      refine (eye_take w b r bad H.out 4 (by omega)).mono ?_
      rintro e w' ⟨rfl, g1, g2⟩
      have G1 := Lib.hid g1
      clear g1
      generalize tkOut r 4 = q at x0 x1 x2 x3 hne ⊢
      go_wp2
      go_quiet (fail)
      go_wp2
      go_ret
      rw [HN.out |> nm_out_yes, HN.out |> nm_rest_yes, nm_bad_yes bad HN.out, HLL.out]
      refine ⟨rfl, ?_, g2.drewN nq⟩
      have := G1.out
      rw [HR4.out, HB4.out] at this
      exact this
    · have HN := Lib.hid (nm_great hm)
      have hmi : most < (le4 r : Int) := by omega
      generalize hl : le4 r = l at hor hm hmi
      clear hl
      go_enter Try.func22, Try.ntmps22
      go_wp2_with (fail)
      refine (eye_take w b r bad H.out 4 (by omega)).mono ?_
      rintro e w' ⟨rfl, g1, g2⟩
      have G1 := Lib.hid g1
      clear g1
      generalize tkOut r 4 = q at x0 x1 x2 x3 hne ⊢
      go_wp2
      go_quiet (fail)
      go_wp2_with (fail)
      refine (eye_fail _ b _ _ (G1.out.drewN nq)).mono ?_
      rintro e w'' ⟨rfl, k1, k2⟩
      have K1 := Lib.hid k1
      clear k1
      go_wp2
      go_ret
      rw [nm_out_no HN.out, nm_rest_no HN.out, nm_bad_no bad HN.out]
      exact ⟨rfl, K1.out, (g2.drewN nq).trans k2⟩
  · have HO := Lib.hid (tk_out_no (r := r) (n := 4) (by omega))
    have HR4 := Lib.hid (tk_rest_no (r := r) (n := 4) (by omega))
    have HB4 := Lib.hid (tk_bad_no (r := r) (n := 4) bad (by omega))
    have HN := Lib.hid (nm_short (most := most) h4)
    go_enter Try.func22, Try.ntmps22
    go_wp2_with (fail)
    refine (eye_take w b r bad H.out 4 (by omega)).mono ?_
    rintro e w' ⟨rfl, g1, g2⟩
    rw [HR4.out, HB4.out] at g1
    have G1 := Lib.hid g1
    clear g1
    rw [HO.out]
    go_wp2
    go_ret
    rw [nm_out_no HN.out, nm_rest_no HN.out, nm_bad_no bad HN.out]
    exact ⟨rfl, G1.out, g2⟩

set_option maxRecDepth 100000 in
set_option maxHeartbeats 800000 in
theorem eye_text (w : World) (b : Nat) (r : ByteArray) (bad : Bool) (h : EyeAt w b r bad) (hr : r.size ≤ 281474976710656) (most : Int) :
    Calls Try.prog 38 #[.pointer (some ⟨b, 0, none⟩), .int .i64 most] w (EyeSays w b (.string (txOut r most)) (txRest r most) (txBad r bad most)) := by
  have H := Lib.hid h
  have HS := Lib.hid (Nat.le_trans (tx_out_size r most) hr)
  clear h hr
  go_enter Try.func38, Try.ntmps38
  go_wp2_with (fail)
  refine (eye_num w b r bad H.out most).mono ?_
  rintro e w1 ⟨rfl, g1, g2⟩
  have G1 := Lib.hid g1
  clear g1
  go_wp2_with (fail)
  refine (eye_take w1 b _ _ G1.out (nmOut r most) (nm_out_lt r most)).mono ?_
  rintro e w2 ⟨rfl, k1, k2⟩
  have K1 := Lib.hid k1
  clear k1
  go_wp2_with (fail)
  refine (clone_any _ w2 HS.out).mono ?_
  rintro e w3 ⟨rfl, hb⟩
  go_wp2
  go_ret
  exact ⟨rfl, K1.out.of_block (hb.block b K1.out.lt), (g2.trans k2).then_below hb⟩

set_option maxRecDepth 100000 in
set_option maxHeartbeats 800000 in
theorem eye_left (w : World) (b : Nat) (r : ByteArray) (bad : Bool) (h : EyeAt w b r bad) :
    Calls Try.prog 39 #[.pointer (some ⟨b, 0, none⟩)] w fun e w' => e = .returned (.int .i64 (r.size : Int)) ∧ w = w' := by
  have c0 := h.rest
  clear h
  go_enter Try.func39, Try.ntmps39
  go_wp2
  go_ret
  exact ⟨rfl, rfl⟩
set_option maxRecDepth 100000 in
set_option maxHeartbeats 800000 in
theorem eye_err (w : World) (b : Nat) (r : ByteArray) (bad : Bool) (h : EyeAt w b r bad) :
    Calls Try.prog 40 #[.pointer (some ⟨b, 0, none⟩)] w fun e w' => e = .returned (.int .i64 (errOf bad)) ∧ w = w' := by
  have c0 := h.err
  clear h
  go_enter Try.func40, Try.ntmps40
  go_wp2
  go_ret
  exact ⟨rfl, rfl⟩
def endOf (r : ByteArray) (bad : Bool) : Int := if 0 < r.size then 5 else errOf bad
set_option maxRecDepth 100000 in
set_option maxHeartbeats 800000 in
theorem eye_end (w : World) (b : Nat) (r : ByteArray) (bad : Bool) (h : EyeAt w b r bad) :
    Calls Try.prog 24 #[.pointer (some ⟨b, 0, none⟩)] w fun e w' => e = .returned (.int .i64 (endOf r bad)) ∧ w = w' := by
  have H := Lib.hid h
  clear h
  by_cases h0 : 0 < r.size
  · have h0i : (0 : Int) < (r.size : Int) := by omega
    have HE := Lib.hid (show endOf r bad = 5 from if_pos h0)
    go_enter Try.func24, Try.ntmps24
    go_wp2_with (fail)
    refine (eye_left w b r bad H.out).mono ?_
    rintro e w' ⟨rfl, rfl⟩
    go_wp2
    go_ret
    rw [HE.out]
    exact ⟨rfl, rfl⟩
  · have h0i : ¬ (0 : Int) < (r.size : Int) := by omega
    have HE := Lib.hid (show endOf r bad = errOf bad from if_neg h0)
    go_enter Try.func24, Try.ntmps24
    go_wp2_with (fail)
    refine (eye_left w b r bad H.out).mono ?_
    rintro e w' ⟨rfl, rfl⟩
    go_wp2_with (fail)
    refine (eye_err w b r bad H.out).mono ?_
    rintro e w' ⟨rfl, rfl⟩
    go_wp2
    go_ret
    rw [HE.out]
    exact ⟨rfl, rfl⟩
theorem nil_take (w : World) (n : Int) : Calls Try.prog 35 #[.pointer none, .int .i64 n] w fun e w' => e = .returned (.string ⟨#[]⟩) ∧ w = w' := by
  go_enter Try.func35, Try.ntmps35
  go_wp2
  go_ret
  exact ⟨rfl, rfl⟩
theorem nil_byte (w : World) : Calls Try.prog 37 #[.pointer none] w fun e w' => e = .returned (.int .u8 0) ∧ w = w' := by
  go_enter Try.func37, Try.ntmps37
  go_wp2_with (fail)
  refine (nil_take w 1).mono ?_
  rintro e w' ⟨rfl, rfl⟩
  go_wp2
  go_ret
  exact ⟨rfl, rfl⟩
theorem nil_num (w : World) (n : Int) : Calls Try.prog 22 #[.pointer none, .int .i64 n] w fun e w' => e = .returned (.int .i64 0) ∧ w = w' := by
  go_enter Try.func22, Try.ntmps22
  go_wp2_with (fail)
  refine (nil_take w 4).mono ?_
  rintro e w' ⟨rfl, rfl⟩
  go_wp2
  go_ret
  exact ⟨rfl, rfl⟩
theorem nil_text (w : World) (n : Int) : Calls Try.prog 38 #[.pointer none, .int .i64 n] w fun e w' => e = .returned (.string ⟨#[]⟩) ∧ Below w.heap.size w w' := by
  go_enter Try.func38, Try.ntmps38
  go_wp2_with (fail)
  refine (nil_num w n).mono ?_
  rintro e w' ⟨rfl, rfl⟩
  go_wp2_with (fail)
  refine (nil_take w 0).mono ?_
  rintro e w' ⟨rfl, rfl⟩
  go_wp2_with (fail)
  refine (clone_any _ w (by show (0 : Nat) ≤ _; omega)).mono ?_
  rintro e w' ⟨rfl, hb⟩
  go_wp2
  go_ret
  exact ⟨rfl, hb⟩
theorem nil_left (w : World) : Calls Try.prog 39 #[.pointer none] w fun e w' => e = .returned (.int .i64 0) ∧ w = w' := by
  go_enter Try.func39, Try.ntmps39
  go_wp2
  go_ret
  exact ⟨rfl, rfl⟩
theorem nil_err (w : World) : Calls Try.prog 40 #[.pointer none] w fun e w' => e = .returned (.int .i64 2) ∧ w = w' := by
  go_enter Try.func40, Try.ntmps40
  go_wp2
  go_ret
  exact ⟨rfl, rfl⟩
theorem nil_end (w : World) : Calls Try.prog 24 #[.pointer none] w fun e w' => e = .returned (.int .i64 2) ∧ w = w' := by
  go_enter Try.func24, Try.ntmps24
  go_wp2_with (fail)
  refine (nil_left w).mono ?_
  rintro e w' ⟨rfl, rfl⟩
  go_wp2_with (fail)
  refine (nil_err w).mono ?_
  rintro e w' ⟨rfl, rfl⟩
  go_wp2
  go_ret
  exact ⟨rfl, rfl⟩
end Go.Proofs.Ytiehpaffbaafcaa
