/-
  Package pen's pen: all bytes that were written. Conditions: the pen stands in a block of its own; fewer than 2^40 bytes.
  The document's own reader: what each call answers, and what is left. Conditions: it stands in a block of its own; once wrong, nothing is left.
  Package pen's reader: a sum. Conditions: the eye stands in a block of its own.
  The document's own bytes of a number and of a text. Condition: a text of at most a million bytes.
-/
import Derived.Test.YtlechjpaldpgnaaGreatDoorMg3
import Derived.Test.YtlechjpaldpgnaaGreatDoorMg5
import Derived.Laws.MakeOwn
import Derived.Deep.LoopGhost
import Derived.Deep.RegionWith
set_option maxRecDepth 100000
namespace Go.Proofs.YtlechjpaldpgnaaGreatDoor
open Go.ChangeShapes Go.WideShapes Go.ChangeAt Go.RowKit Pn

theorem made_zero (N : Nat) : madeCells (Value.int .u8 0).cells (N * 1) = vals N fun _ => .int .u8 0 := by
  apply Array.ext (by rw [size_madeCells, vals_size]; omega)
  intro i h1 h2
  have := vals_get N (fun _ => Value.int .u8 0) i (by rwa [vals_size] at h2)
  rw [Array.getElem?_eq_getElem h2] at this
  rw [Option.some.inj this]
  simp [madeCells, Value.cells, Nat.mod_one]
theorem run_make_bytes (N : Nat) (hN : N < 1099511627776) (W : World) :
    (Instr.makeSlice 92 (.int .i64 (N : Int)) (.int .i64 (N : Int))).run Tryz.prog W = .ok (.slice (some ⟨W.heap.size, 0, none⟩) N N) (W.alloc (.cells (vals N fun _ => .int .u8 0) 5)) := by
  obtain ⟨i0, hi, hz0, hz1, hz2⟩ := info_parts infoB
  have h := run_make (P := Tryz.prog) W 92 5 i0 (.int .u8 0) Tryz.underlying92 hi hz0 .i64 .i64 (N : Int) (N : Int) (by omega) (by omega) (by rw [hz2]; omega) (by omega)
  rw [hz1, Int.toNat_natCast, made_zero] at h
  exact h
/-- What the row holds from place o on is what was written. -/
def Filled (L : List UInt8) (N o : Nat) (F : Nat → Value) : Prop := ∀ j, o ≤ j → j < N → F j = .int .u8 ((L.getD j 0).toNat : Int)
def pieceCells (q : ByteArray) (n : Nat) : List Value := (q.data.toList.take (min q.size n)).map fun x => Value.int .u8 (x.toNat : Int)
theorem pieceCells_len (q : ByteArray) (n : Nat) (h : q.size ≤ n) : (pieceCells q n).length = q.size := by
  unfold pieceCells
  have : q.data.toList.length = q.size := rfl
  rw [List.length_map, List.length_take]
  omega
theorem penL_at (d : List ByteArray) (q : ByteArray) (r : List ByteArray) : ∀ j, j < q.size → (penL (d ++ q :: r)).getD (total r + j) 0 = q.data.toList.getD j 0 := by
  have hp : ∀ d : List ByteArray, ∃ m, penL (d ++ q :: r) = penL r ++ (q.data.toList ++ m) := by
    intro d
    induction d with
    | nil => exact ⟨[], by simp [penL]⟩
    | cons a d ih =>
      obtain ⟨m, hm⟩ := ih
      exact ⟨m ++ a.data.toList, by simp only [List.cons_append, penL, hm, List.append_assoc]⟩
  intro j hj
  obtain ⟨m, hm⟩ := hp d
  have hl := penL_length r
  have hq : q.data.toList.length = q.size := rfl
  rw [hm, List.getD_eq_getElem?_getD, List.getD_eq_getElem?_getD, List.getElem?_append_right (by omega), show total r + j - (penL r).length = j by omega, List.getElem?_append_left (by omega)]
theorem total_append (d l : List ByteArray) : total (d ++ l) = total d + total l := by
  induction d with
  | nil => simp [total]
  | cons a d ih => simp only [List.cons_append, total, ih]; omega
theorem filled_next (d : List ByteArray) (q : ByteArray) (r : List ByteArray) (N : Nat) (F : Nat → Value) (hN : N = total (d ++ q :: r)) (h : Filled (penL (d ++ q :: r)) N (total (q :: r)) F) :
    Filled (penL (d ++ q :: r)) N (total r) (spliced (total r) (pieceCells q (N - total r)) F) := by
  have hq : q.size ≤ N - total r := by rw [hN, total_append]; simp only [total]; omega
  intro j h1 h2
  unfold spliced
  rw [pieceCells_len q _ hq]
  by_cases hj : j < total r + q.size
  · rw [if_pos ⟨h1, hj⟩]
    have := penL_at d q r (j - total r) (by omega)
    rw [show total r + (j - total r) = j by omega] at this
    rw [this]
    unfold pieceCells
    rw [Nat.min_eq_left hq, List.take_of_length_le (show q.data.toList.length ≤ q.size from Nat.le_refl _), List.getD_eq_getElem?_getD, List.getElem?_map, List.getD_eq_getElem?_getD, List.getElem?_eq_getElem (show j - total r < q.data.toList.length by show _ < q.size; omega)]
    rfl
  · rw [if_neg (by omega)]
    exact h j (by simp only [total]; omega) h2

set_option maxRecDepth 100000 in
set_option maxHeartbeats 3200000 in
theorem pen_bytes (w : World) (p : Nat) (l : List ByteArray) (bad : Bool) (h : PenAt w p l bad) (ht : total l < 1099511627776) :
    Calls Tryz.prog 59 #[.pointer (some ⟨p, 0, none⟩)] w fun e w' => e = .returned (.string ⟨(penL l).toArray⟩) ∧ Below w.heap.size w w' := by
  obtain ⟨last, hh, hch⟩ := h
  have c0 := hh.last0
  have hp := hh.lt
  have hs0 := hh.lt
  clear hh
  cases l with
  | nil =>
    obtain rfl : last = none := hch
    clear ht
    go_enter Tryz.func59, Tryz.ntmps59
    go_wp2
    go_ret
    exact ⟨rfl, Below.refl _ _⟩
  | cons q0 r0 =>
    have HCH := Lib.hid hch
    obtain ⟨g, ah, rfl, hg, hb, hr⟩ := hch
    have cg : w.cell? ⟨g, 2, none⟩ = some (.int .i64 (total (q0 :: r0) : Int)) := cell_of_row w g 2 _ _ _ hb
    have hgl : g < w.heap.size := (Array.getElem?_eq_some_iff.1 hb).1
    have HM := Lib.hid (run_make_bytes (total (q0 :: r0)) ht)
    have HT := Lib.hid ht
    have HL := Lib.hid (penL_length (q0 :: r0))
    clear hb hr ht
    generalize hl : (q0 :: r0) = l at *
    have HLL := Lib.hid hl
    clear hl
    generalize hN : total l = N at cg HM HT HL
    have HN := Lib.hid hN
    clear hN
    have hmk := HM.out
    go_enter Tryz.func59, Tryz.ntmps59
    go_wp2_with (fail)
    have HCW := Lib.hid (show Chain w p (some ⟨g, 0, none⟩) l from HCH.out)
    go_loopg [4] l.length (fun m a wr => ∃ (d l' : List ByteArray) (ad : Option Addr) (F : Nat → Value), m = l'.length ∧ a = .pointer ad ∧ l = d ++ l' ∧ Chain w p ad l' ∧ wr.rowIs w.heap.size 5 N F ∧ Filled (penL l) N (total l') F ∧ Below w.heap.size w wr)
    case atStart =>
      exact ⟨[], l, _, _, rfl, rfl, rfl, HCW.out, row_alloc _ rfl rfl, fun j h1 h2 => by rw [HN.out] at h1; omega, (Below.refl _ _).alloc (Nat.le_refl _) _⟩
    case round =>
      obtain ⟨d, l', ad, F, hm, rfl, hdl, hch, hrow, hfil, hbl⟩ := hrel
      cases l' with
      | nil =>
        obtain rfl : ad = none := hch
        have hcv := run_text wr ⟨w.heap.size, 0, none⟩ N N (penL l) (by rw [HL.out]) (fun j u hj => by
          have hjl : j < (penL l).length := by have := (List.getElem?_eq_some_iff.1 hj).1; rwa [bcells_length] at this
          have hjN : j < N := by rw [HL.out] at hjl; exact hjl
          rw [Addr.add_lit, Nat.zero_add, hrow.cell hjN, hfil j (Nat.zero_le _) hjN, ← hj, bcells_get _ _ hjl])
        have HB := Lib.hid hbl
        clear hm hdl hrow hfil hbl hmk
        go_wp2
        go_ret
        exact ⟨rfl, HB.out⟩
      | cons q r =>
        obtain ⟨g1, ah1, rfl, hg1, hb1, hr1⟩ := hch
        have hl1 : g1 < w.heap.size := (Array.getElem?_eq_some_iff.1 hb1).1
        have hbw : wr.heap[g1]? = some (.cells #[.pointer ah1, .string q, .int .i64 (total (q :: r) : Int)] 163 (0, 0)) := (hbl.block g1 hl1).trans hb1
        have k0 : wr.cell? ⟨g1, 0, none⟩ = some (.pointer ah1) := cell_of_row wr g1 0 _ _ _ hbw
        have k1 : wr.cell? ⟨g1, 1, none⟩ = some (.string q) := cell_of_row wr g1 1 _ _ _ hbw
        have k2 : wr.cell? ⟨g1, 2, none⟩ = some (.int .i64 (total (q :: r) : Int)) := cell_of_row wr g1 2 _ _ _ hbw
        have hfn := filled_next d q r N F (by rw [← hdl, HN.out]) (by rw [← hdl]; exact hfil)
        rw [← hdl] at hfn
        have hT : total (q :: r) = q.size + total r := rfl
        have hNd : N = total d + (q.size + total r) := by rw [← HN.out, hdl, total_append]; rfl
        have HREL := Lib.hid (show ∀ F' : Nat → Value, Filled (penL l) N (total r) F' → ∀ wz : World, wz.rowIs w.heap.size 5 N F' → Below w.heap.size w wz → ∃ (d l' : List ByteArray) (ad : Option Addr) (F : Nat → Value), r.length = l'.length ∧ Value.pointer ah1 = .pointer ad ∧ l = d ++ l' ∧ Chain w p ad l' ∧ wz.rowIs w.heap.size 5 N F ∧ Filled (penL l) N (total l') F ∧ Below w.heap.size w wz from
          fun F' hF' wz hrz hbz => ⟨d ++ [q], r, ah1, F', rfl, rfl, by rw [hdl]; simp, hr1, hrz, hF', hbz⟩)
        have hlt : r.length < gk := by rw [hm]; simp
        have HLT := Lib.hid hlt
        generalize total (q :: r) = T at hT k2
        generalize ho : total r = o at hT hNd hfn HREL
        have HF := Lib.hid hfn
        have HTO := Lib.hid hT
        have HROW := Lib.hid hrow
        have HB := Lib.hid hbl
        have hTN : q.size + o ≤ N := by omega
        have HTN := Lib.hid (HT.out)
        have e0 : IntKind.i64.wrap ((T : Int) - (q.size : Int)) = (o : Int) := by
          rw [show (T : Int) - (q.size : Int) = (o : Int) by omega]
          exact IntWalk.i64_in _ (by have := HTN.out; omega)
        have l0 : 0 ≤ (o : Int) := by omega
        have m0 : (o : Int) ≤ (N : Int) := by omega
        have d0 : wr.drew.cell? ⟨g1, 0, none⟩ = some (.pointer ah1) := k0
        have d1 : wr.drew.cell? ⟨g1, 1, none⟩ = some (.string q) := k1
        have d2 : wr.drew.cell? ⟨g1, 2, none⟩ = some (.int .i64 (T : Int)) := k2
        have hcp : (Builtin.copy_ #[92, 9] 3 #[.slice (some ⟨w.heap.size, o, none⟩) (N - o) (N - o), .string q]).run Tryz.prog wr.drew = .ok (goInt (min q.size (N - o) : Nat)) (wr.drew.setRow w.heap.size (vals N (spliced o (pieceCells q (N - o)) F))) :=
          run_copy_str (P := Tryz.prog) wr.drew 92 9 3 5 w.heap.size o (N - o) (N - o) q (pieceCells q (N - o)) 5 N F Tryz.underlying92 (fun _ => by kernel_rfl) (show wr.drew.rowIs w.heap.size 5 N F from HROW.out) rfl (by rw [pieceCells_len q _ (by omega)]; omega) _ rfl
        clear ho hfn hrow hbl hT hNd hfil hdl hm hr1 hb1 hbw hmk c0 cg
        by_cases hno : N = o
        · have hq0 : q.size = 0 := by omega
          subst hno
          have hcz : (Builtin.copy_ #[92, 9] 3 #[.slice (some ⟨w.heap.size, 0, none⟩) 0 0, .string q]).run Tryz.prog wr.drew = .ok (goInt 0) (wr.drew.setRow w.heap.size (vals N F)) := by
            have := run_copy_str (P := Tryz.prog) wr.drew 92 9 3 5 w.heap.size 0 0 0 q [] 5 N F Tryz.underlying92 (fun _ => by kernel_rfl) (show wr.drew.rowIs w.heap.size 5 N F from HROW.out) (by rw [hq0]; rfl) (by simp) 0 (by omega)
            rw [this]
            congr 2
          have dz : (wr.drew.setRow w.heap.size (vals N F)).cell? ⟨g1, 0, none⟩ = some (.pointer ah1) := by
            rw [World.cell?_of_block (w := wr.drew) (setRow_other _ _ _ _ (by show g1 ≠ w.heap.size; omega))]; exact d0
          have HFIN := Lib.hid (HREL.out F (fun j h1 h2 => by omega) (wr.drew.setRow w.heap.size (vals N F)) (row_setRow (show wr.drew.rowIs w.heap.size 5 N F from HROW.out)) (below_setRow' (below_drewN HB.out 1) (Nat.le_refl _) _))
          clear hcp HREL HF HTN hTN
          have hTN2 : T = N := by have := HTO.out; omega
          have HTB := Lib.hid HT.out
          clear HTO e0
          subst hTN2
          have e1 : IntKind.i64.wrap (T : Int) = (T : Int) := IntWalk.i64_in _ (by have := HTB.out; omega)
          have hq1 : ((q.size : Int)) = 0 := by omega
          clear hq0
          go_wp2
          go_still_tail 16, (by kernel_rfl)
          change wpList _ _ _ _ _ wr.drew
          go_wp2
          go_roundg r.length
          case measure => exact HLT.out
          case rel => exact HFIN.out
        · have dz : (wr.drew.setRow w.heap.size (vals N (spliced o (pieceCells q (N - o)) F))).cell? ⟨g1, 0, none⟩ = some (.pointer ah1) := by
            rw [World.cell?_of_block (w := wr.drew) (setRow_other _ _ _ _ (by show g1 ≠ w.heap.size; omega))]; exact d0
          have HFIN := Lib.hid (HREL.out _ HF.out (wr.drew.setRow w.heap.size (vals N (spliced o (pieceCells q (N - o)) F))) (row_setRow (show wr.drew.rowIs w.heap.size 5 N F from HROW.out)) (below_setRow' (below_drewN HB.out 1) (Nat.le_refl _) _))
          go_wp2
          go_still_tail 16, (by kernel_rfl)
          change wpList _ _ _ _ _ wr.drew
          go_wp2
          go_roundg r.length
          case measure => exact HLT.out
          case rel => exact HFIN.out
theorem pen_bytes_nil (w : World) : Calls Tryz.prog 59 #[.pointer none] w fun e w' => e = .returned (.string ⟨#[]⟩) ∧ w = w' := by
  go_enter Tryz.func59, Tryz.ntmps59
  go_wp2
  go_ret
  exact ⟨rfl, rfl⟩
end Go.Proofs.YtlechjpaldpgnaaGreatDoor
namespace Go.Proofs.YtlechjpaldpgnaaGreatDoor
open Go.ChangeShapes Go.WideShapes Go.ChangeAt Go.RowKit Pn

/-- The document's reader stands in block b. -/
def RefAt (w : World) (b : Nat) (r : ByteArray) (bad : Bool) : Prop := w.heap[b]? = some (.cells #[.string r, .bool bad] 143 (0, 0))
namespace RefAt
variable {w w' : World} {b : Nat} {r : ByteArray} {bad : Bool}
theorem lt (h : RefAt w b r bad) : b < w.heap.size := (Array.getElem?_eq_some_iff.1 h).1
theorem rest (h : RefAt w b r bad) : w.cell? ⟨b, 0, none⟩ = some (.string r) := cell_of_row w b 0 _ _ _ h
theorem wrong (h : RefAt w b r bad) : w.cell? ⟨b, 1, none⟩ = some (.bool bad) := cell_of_row w b 1 _ _ _ h
theorem fz (h : RefAt w b r bad) (i : Nat) : w.frozen? ⟨b, i, none⟩ = false := frozen_of_row w b i _ _ h
theorem setRest (h : RefAt w b r bad) (s : ByteArray) : RefAt (w.setCell ⟨b, 0, none⟩ (.string s)) b s bad := heap_setCell_same w b 0 _ _ _ h
theorem setBad (h : RefAt w b r bad) (x : Bool) : RefAt (w.setCell ⟨b, 1, none⟩ (.bool x)) b r x := heap_setCell_same w b 1 _ _ _ h
theorem of_block (h : RefAt w b r bad) (e : w'.heap[b]? = w.heap[b]?) : RefAt w' b r bad := e.trans h
theorem drewN (h : RefAt w b r bad) (n : Nat) : RefAt (w.drewN n) b r bad := h
end RefAt
def RefSays (w : World) (b : Nat) (v : Value) (r : ByteArray) (bad : Bool) (e : Ending) (w' : World) : Prop := e = .returned v ∧ RefAt w' b r bad ∧ Only w w' b

theorem ref_fail (w : World) (b : Nat) (r : ByteArray) (bad : Bool) (h : RefAt w b r bad) :
    Calls Tryz.prog 104 #[.pointer (some ⟨b, 0, none⟩)] w (RefSays w b (.tuple #[]) ⟨#[]⟩ true) := by
  have c0 := h.rest
  have c1 := h.wrong
  have f0 := h.fz 0
  have f1 := h.fz 1
  have H := Lib.hid h
  clear h
  go_enter Tryz.func104, Tryz.ntmps104
  go_wp2
  go_end0
  exact ⟨rfl, (H.out.setBad true).setRest _, ((Only.refl w b).setCell (.inl rfl) _).setCell (.inl rfl) _⟩

set_option maxRecDepth 100000 in
set_option maxHeartbeats 1600000 in
theorem ref_take (w : World) (b : Nat) (r : ByteArray) (bad : Bool) (h : RefAt w b r bad) (hs : Sane r bad) (n : Nat) :
    Calls Tryz.prog 79 #[.pointer (some ⟨b, 0, none⟩), .int .i64 (n : Int)] w (RefSays w b (.string (tkOut r n)) (tkRest r n) (tkBad r bad n)) := by
  have c0 := h.rest
  have c1 := h.wrong
  have f0 := h.fz 0
  have H := Lib.hid h
  clear h
  have h0 : ¬ (n : Int) < 0 := by omega
  have h0' : 0 ≤ (n : Int) := by omega
  cases bad with
  | true =>
    have hr : r = ⟨#[]⟩ := empty_of_size (hs rfl)
    subst hr
    have HO := Lib.hid (show tkOut ⟨#[]⟩ n = ⟨#[]⟩ from empty_of_size (Nat.le_zero.1 (tk_out_size _ _)))
    have HR := Lib.hid (show tkRest ⟨#[]⟩ n = ⟨#[]⟩ from empty_of_size (Nat.le_zero.1 (tk_rest_size _ _)))
    have HB := Lib.hid (show tkBad ⟨#[]⟩ true n = true from rfl)
    clear hs
    go_enter Tryz.func79, Tryz.ntmps79
    go_wp2_with (fail)
    refine (ref_fail w b _ _ H.out).mono ?_
    rintro e w' ⟨rfl, h1, h2⟩
    have H1 := Lib.hid h1
    clear h1
    go_wp2
    go_ret
    rw [HO.out, HR.out, HB.out]
    exact ⟨rfl, H1.out, h2⟩
  | false =>
    clear hs
    by_cases hlt : n ≤ r.size
    · have hi : ¬ (r.size : Int) < (n : Int) := by omega
      have h1 : (n : Int) ≤ (r.size : Int) := by omega
      have HO := Lib.hid (tk_out_yes hlt)
      have HR := Lib.hid (tk_rest_yes hlt)
      have HB := Lib.hid (tk_bad_yes false hlt)
      go_enter Tryz.func79, Tryz.ntmps79
      go_wp2_with (fail)
      go_ret
      rw [HO.out, HR.out, HB.out]
      exact ⟨rfl, H.out.setRest _, (Only.refl w b).setCell (.inl rfl) _⟩
    · have hi : (r.size : Int) < (n : Int) := by omega
      have HO := Lib.hid (tk_out_no (r := r) (n := n) (by omega))
      have HR := Lib.hid (tk_rest_no (r := r) (n := n) (by omega))
      have HB := Lib.hid (tk_bad_no (r := r) (n := n) false (by omega))
      go_enter Tryz.func79, Tryz.ntmps79
      go_wp2_with (fail)
      refine (ref_fail w b _ _ H.out).mono ?_
      rintro e w' ⟨rfl, h1, h2⟩
      have H1 := Lib.hid h1
      clear h1
      go_wp2
      go_ret
      rw [HO.out, HR.out, HB.out]
      exact ⟨rfl, H1.out, h2⟩

theorem le4_sum (l : Nat) (b0 b1 b2 b3 : Int) (hl : (l : Int) = b0 + 256 * b1 + 65536 * b2 + 16777216 * b3) :
    b0 + b1 * 256 + b2 * 65536 + b3 * 16777216 = (l : Int) := by omega
set_option maxRecDepth 100000 in
set_option maxHeartbeats 1600000 in
theorem ref_num (w : World) (b : Nat) (r : ByteArray) (bad : Bool) (h : RefAt w b r bad) (hsn : Sane r bad) (most : Int) :
    Calls Tryz.prog 78 #[.pointer (some ⟨b, 0, none⟩), .int .i64 most] w (RefSays w b (.int .i64 (nmOut r most : Int)) (nmRest r most) (nmBad r bad most)) := by
  have H := Lib.hid h
  have HSN := Lib.hid hsn
  clear h hsn
  by_cases h4 : 4 ≤ r.size
  · have hbf : bad = false := by
      cases bad with
      | false => rfl
      | true => have := HSN.out rfl; omega
    subst hbf
    have hs := size_pos h4 (by omega)
    have hxi : ∀ (k : Nat) (K : Int), k < 4 → K = (k : Int) → ∀ W, (Instr.index 9 (.string (tkOut r 4)) (.int .i64 K)).run Tryz.prog W = .ok (.int .u8 ((byAt r k).toNat : Int)) W := fun k K hk hK W =>
      (index_by (tkOut r 4) k (by omega) K hK W).trans (by rw [tk_out_yes h4, byAt_take _ _ _ hk])
    have x0 := hxi 0 0 (by omega) rfl
    have x1 := hxi 1 1 (by omega) rfl
    have x2 := hxi 2 2 (by omega) rfl
    have x3 := hxi 3 3 (by omega) rfl
    have p0 : 0 ≤ ((byAt r 0).toNat : Int) := by omega
    have p1 : 0 ≤ ((byAt r 1).toNat : Int) := by omega
    have p2 : 0 ≤ ((byAt r 2).toNat : Int) := by omega
    have p3 : 0 ≤ ((byAt r 3).toNat : Int) := by omega
    have q0 : ((byAt r 0).toNat : Int) < 256 := by have := (byAt r 0).toNat_lt; omega
    have q1 : ((byAt r 1).toNat : Int) < 256 := by have := (byAt r 1).toNat_lt; omega
    have q2 : ((byAt r 2).toNat : Int) < 256 := by have := (byAt r 2).toNat_lt; omega
    have q3 : ((byAt r 3).toNat : Int) < 256 := by have := (byAt r 3).toNat_lt; omega
    have hor := le4_sum (le4 r) ((byAt r 0).toNat : Int) ((byAt r 1).toNat : Int) ((byAt r 2).toNat : Int) ((byAt r 3).toNat : Int) (by unfold le4; omega)
    clear hs hxi
    generalize ((byAt r 0).toNat : Int) = b0 at *
    generalize ((byAt r 1).toNat : Int) = b1 at *
    generalize ((byAt r 2).toNat : Int) = b2 at *
    generalize ((byAt r 3).toNat : Int) = b3 at *
    have e1 : IntKind.i64.wrap (b1 * 256) = b1 * 256 := IntWalk.i64_in _ (by omega)
    have e2 : IntKind.i64.wrap (b2 * 65536) = b2 * 65536 := IntWalk.i64_in _ (by omega)
    have e3 : IntKind.i64.wrap (b3 * 16777216) = b3 * 16777216 := IntWalk.i64_in _ (by omega)
    have e4 : IntKind.i64.wrap (b0 + b1 * 256) = b0 + b1 * 256 := IntWalk.i64_in _ (by omega)
    have e5 : IntKind.i64.wrap (b0 + b1 * 256 + b2 * 65536) = b0 + b1 * 256 + b2 * 65536 := IntWalk.i64_in _ (by omega)
    have e6 : IntKind.i64.wrap (b0 + b1 * 256 + b2 * 65536 + b3 * 16777216) = b0 + b1 * 256 + b2 * 65536 + b3 * 16777216 := IntWalk.i64_in _ (by omega)
    have HR4 := Lib.hid (tk_rest_yes h4)
    have HB4 := Lib.hid (tk_bad_yes false h4)
    by_cases hm : (le4 r : Int) ≤ most
    · have HN := Lib.hid (nm_ok h4 hm)
      have hmi : ¬ most < (le4 r : Int) := by omega
      generalize hl : le4 r = l at hor hm hmi
      have HLL := Lib.hid hl
      clear hl
      go_enter Tryz.func78, Tryz.ntmps78
      go_wp2_with (fail)
      refine (ref_take w b r false H.out HSN.out 4).mono ?_
      rintro e w' ⟨rfl, g1, g2⟩
      have c1 := g1.wrong
      rw [HB4.out] at c1
      have G1 := Lib.hid g1
      clear g1
      generalize tkOut r 4 = q at x0 x1 x2 x3 ⊢
      go_wp2
      go_quiet (fail)
      go_wp2
      go_ret
      rw [HN.out |> nm_out_yes, HN.out |> nm_rest_yes, nm_bad_yes false HN.out, HLL.out]
      refine ⟨rfl, ?_, g2.drewN nq⟩
      have := G1.out
      rw [HR4.out, HB4.out] at this
      exact this
    · have HN := Lib.hid (nm_great hm)
      have hmi : most < (le4 r : Int) := by omega
      generalize hl : le4 r = l at hor hm hmi
      clear hl
      go_enter Tryz.func78, Tryz.ntmps78
      go_wp2_with (fail)
      refine (ref_take w b r false H.out HSN.out 4).mono ?_
      rintro e w' ⟨rfl, g1, g2⟩
      have c1 := g1.wrong
      rw [HB4.out] at c1
      have G1 := Lib.hid g1
      clear g1
      generalize tkOut r 4 = q at x0 x1 x2 x3 ⊢
      go_wp2
      go_quiet (fail)
      go_wp2_with (fail)
      refine (ref_fail _ b _ _ (G1.out.drewN nq)).mono ?_
      rintro e w'' ⟨rfl, k1, k2⟩
      have K1 := Lib.hid k1
      clear k1
      go_wp2
      go_ret
      rw [nm_out_no HN.out, nm_rest_no HN.out, nm_bad_no false HN.out]
      exact ⟨rfl, K1.out, (g2.drewN nq).trans k2⟩
  · have HR4 := Lib.hid (tk_rest_no (r := r) (n := 4) (by omega))
    have HB4 := Lib.hid (tk_bad_no (r := r) (n := 4) bad (by omega))
    have HN := Lib.hid (nm_short (most := most) h4)
    go_enter Tryz.func78, Tryz.ntmps78
    go_wp2_with (fail)
    refine (ref_take w b r bad H.out HSN.out 4).mono ?_
    rintro e w' ⟨rfl, g1, g2⟩
    rw [HR4.out, HB4.out] at g1
    have c1 := g1.wrong
    have G1 := Lib.hid g1
    clear g1
    go_wp2
    go_ret
    rw [nm_out_no HN.out, nm_rest_no HN.out, nm_bad_no bad HN.out]
    exact ⟨rfl, G1.out, g2⟩

set_option maxRecDepth 100000 in
set_option maxHeartbeats 800000 in
theorem ref_text (w : World) (b : Nat) (r : ByteArray) (bad : Bool) (h : RefAt w b r bad) (hsn : Sane r bad) (most : Int) :
    Calls Tryz.prog 80 #[.pointer (some ⟨b, 0, none⟩), .int .i64 most] w (RefSays w b (.string (txOut r most)) (txRest r most) (txBad r bad most)) := by
  have H := Lib.hid h
  have HSN := Lib.hid hsn
  have HSM := Lib.hid (nm_sane hsn most)
  clear h hsn
  cases hb : nmBad r bad most with
  | true =>
    have he : nmRest r most = ⟨#[]⟩ := empty_of_size (HSM.out hb)
    have HOut := Lib.hid (show txOut r most = ⟨#[]⟩ by unfold txOut; rw [he]; exact empty_of_size (Nat.le_zero.1 (tk_out_size _ _)))
    have HRest := Lib.hid (show txRest r most = ⟨#[]⟩ from empty_of_size (by have := tk_rest_size (nmRest r most) (nmOut r most); rw [he] at this; unfold txRest; rw [he]; exact Nat.le_zero.1 this))
    have HBad := Lib.hid (show txBad r bad most = true by unfold txBad tkBad; rw [hb]; rfl)
    have HBM := Lib.hid hb
    have HE := Lib.hid he
    clear hb he
    go_enter Tryz.func80, Tryz.ntmps80
    go_wp2_with (fail)
    refine (ref_num w b r bad H.out HSN.out most).mono ?_
    rintro e w1 ⟨rfl, g1, g2⟩
    rw [HBM.out, HE.out] at g1
    have c1 := g1.wrong
    have G1 := Lib.hid g1
    clear g1
    go_wp2
    go_ret
    rw [HOut.out, HRest.out, HBad.out]
    exact ⟨rfl, G1.out, g2⟩
  | false =>
    have HBM := Lib.hid hb
    clear hb
    go_enter Tryz.func80, Tryz.ntmps80
    go_wp2_with (fail)
    refine (ref_num w b r bad H.out HSN.out most).mono ?_
    rintro e w1 ⟨rfl, g1, g2⟩
    have c1 := g1.wrong
    rw [HBM.out] at c1
    have G1 := Lib.hid g1
    clear g1
    go_wp2_with (fail)
    refine (ref_take w1 b _ _ G1.out HSM.out (nmOut r most)).mono ?_
    rintro e w2 ⟨rfl, k1, k2⟩
    have K1 := Lib.hid k1
    clear k1
    go_wp2
    go_ret
    exact ⟨rfl, K1.out, g2.trans k2⟩
end Go.Proofs.YtlechjpaldpgnaaGreatDoor
namespace Go.Proofs.YtlechjpaldpgnaaGreatDoor
open Go.ChangeShapes Go.WideShapes Go.ChangeAt Go.RowKit Pn

/-- The cells that are copied. -/
def dgCells (r : ByteArray) : List Value := ((tkOut r 32).data.toList.take (min (tkOut r 32).size 32)).map fun x => Value.int .u8 (x.toNat : Int)
theorem dgCells_len (r : ByteArray) : (dgCells r).length = min (tkOut r 32).size 32 := by
  unfold dgCells
  rw [List.length_map, List.length_take]
  have : (tkOut r 32).data.toList.length = (tkOut r 32).size := rfl
  omega
theorem dg_spliced (r : ByteArray) : vals 32 (spliced 0 (dgCells r) fun _ => .int .u8 0) = dgV (dgOut r) := by
  refine vals_congr fun j hj => ?_
  unfold spliced
  rw [dgCells_len]
  by_cases h : 32 ≤ r.size
  · have hs := size_pos h (by omega)
    rw [hs, if_pos ⟨by omega, by omega⟩, Nat.sub_zero]
    unfold dgCells dgOut
    rw [if_pos h, hs, Nat.min_self]
    have hl : (tkOut r 32).data.toList.length = 32 := hs
    rw [List.take_of_length_le (by omega), List.getD_eq_getElem?_getD, List.getElem?_map, List.getElem?_eq_getElem (by omega)]
    have : byAt (tkOut r 32) j = byAt r j := by rw [tk_out_yes h, byAt_take _ _ _ hj]
    rw [← this]
    unfold byAt
    rw [List.getD_eq_getElem?_getD, List.getElem?_eq_getElem (by omega)]
    rfl
  · rw [tk_out_no (by omega)]
    rw [if_neg (by show ¬ (0 ≤ j ∧ j < 0 + min 0 32); omega)]
    unfold dgOut
    rw [if_neg h]
    rfl

theorem dg_nil : dgV (dgOut ⟨#[]⟩) = dgV fun _ => 0 := rfl
theorem tk_nil (n : Nat) : tkOut ⟨#[]⟩ n = ⟨#[]⟩ := empty_of_size (Nat.le_zero.1 (tk_out_size _ _))
end Go.Proofs.YtlechjpaldpgnaaGreatDoor
namespace Go.Proofs.YtlechjpaldpgnaaGreatDoor
open Go.ChangeShapes Go.WideShapes Go.ChangeAt Go.RowKit Pn

set_option maxRecDepth 100000 in
set_option maxHeartbeats 1600000 in
theorem refw_num (w : World) (n : Int) (hlo : -9223372036854775808 ≤ n) (hhi : n ≤ 9223372036854775807) :
    Calls Tryz.prog 85 #[.int .i64 n] w fun e w' => e = .returned (.tuple #[.string ⟨(numL n).toArray⟩, .bool (numOk n)]) ∧ Below w.heap.size w w' := by
  have v0 := numF_val n 0
  have v1 := numF_val n 1
  have v2 := numF_val n 2
  have v3 := numF_val n 3
  simp only [Nat.pow_zero, Nat.pow_one, Int.ediv_one, Nat.reducePow, Int.cast_ofNat_Int] at v0 v1 v2 v3
  cases hk : numOk n with
  | true =>
    have hv := numV_ok hk
    rw [hv] at v0 v1 v2 v3
    have hk2 : 0 ≤ n ∧ n ≤ 4294967295 := by unfold numOk at hk; simpa using hk
    have n0 : ¬ n < 0 := by omega
    have n1 : ¬ 4294967295 < n := by omega
    obtain ⟨h0, h1⟩ := hk2
    have V3 := Lib.hid (show ((numF n 3).toNat : Int) = n / 16777216 by omega)
    have V0 := Lib.hid v0
    have V1 := Lib.hid v1
    have V2 := Lib.hid v2
    clear v0 v1 v2 v3 hv hk
    have hcv : ∀ W : World, (∀ j u, (bcells (numL n))[j]? = some u → W.cell? ((⟨w.heap.size, 0, none⟩ : Addr).add j) = some u) → (convert 92 9 (.slice (some ⟨w.heap.size, 0, none⟩) 4 4)).run Tryz.prog W = .ok (.string ⟨(numL n).toArray⟩) W := fun W hW => run_text W _ 4 4 (numL n) (numL_length n).symm hW
    have hcw := hcv (w.alloc (.cells #[.int .u8 (n % 256), .int .u8 (n / 256 % 256), .int .u8 (n / 65536 % 256), .int .u8 (n / 16777216)] 5)) (fun j u hj => by
      rw [Addr.add_lit, Nat.zero_add, cell_of_row _ _ _ _ _ _ (heap_alloc_new w _), ← V0.out, ← V1.out, ← V2.out, ← V3.out, ← hj, four_cells]
      exact List.getElem?_toArray)
    clear hcv
    go_enter Tryz.func85, Tryz.ntmps85
    go_wp2
    go_ret2
    exact ⟨rfl, (Below.refl _ _).alloc (Nat.le_refl _) _⟩
  | false =>
    have hv := numV_no hk
    have hk2 : n < 0 ∨ 4294967295 < n := by
      unfold numOk at hk
      simp only [Bool.and_eq_false_iff, decide_eq_false_iff_not] at hk
      omega
    have HZ := Lib.hid (show (⟨(numL n).toArray⟩ : ByteArray) = ⟨#[0, 0, 0, 0]⟩ by
      unfold numL
      have : ∀ j, numF n j = 0 := fun j => by unfold numF; rw [hv, Nat.zero_div]; rfl
      simp [this, List.range, List.range.loop])
    clear v0 v1 v2 v3 hv hk
    rcases hk2 with n0 | n1
    · go_enter Tryz.func85, Tryz.ntmps85
      go_wp2
      go_ret2
      rw [HZ.out]
      exact ⟨rfl, Below.refl _ _⟩
    · have n0 : ¬ n < 0 := by omega
      go_enter Tryz.func85, Tryz.ntmps85
      go_wp2
      go_ret2
      rw [HZ.out]
      exact ⟨rfl, Below.refl _ _⟩
theorem textL_join (s : ByteArray) : (⟨(numL (s.size : Int)).toArray⟩ : ByteArray) ++ s = ⟨(textL s).toArray⟩ := by
  apply ByteArray.ext
  simp [ByteArray.data_append, textL]
end Go.Proofs.YtlechjpaldpgnaaGreatDoor
