/-
  Package pen's reader: a sum. Conditions: the eye stands in a block of its own.
  Package pen's pen: all bytes that were written. Conditions: the pen stands in a block of its own; fewer than 2^40 bytes.
  The document's own bytes of a number and of a text. Condition: a text of at most a million bytes.
-/
import Derived.Test.YtgdckpldbofgfaaDoorMg3
import Derived.Test.YtgdckpldbofgfaaDoorMg6
import Derived.Deep.RegionWith
import Derived.Laws.MakeOwn
import Derived.Deep.LoopGhost
set_option maxRecDepth 100000
namespace Go.Proofs.YtgdckpldbofgfaaDoor
open Go.ChangeShapes Go.WideShapes Go.ChangeAt Go.RowKit Pn

/-- The cells that are copied. -/
def dgCells (r : ByteArray) : List Value := ((tkOut r 32).data.toList.take (min (tkOut r 32).size 32)).map fun x => Value.int .u8 (x.toNat : Int)
theorem dgCells_len (r : ByteArray) : (dgCells r).length = min (tkOut r 32).size 32 := by
  unfold dgCells
  rw [List.length_map, List.length_take]
  have : (tkOut r 32).data.toList.length = (tkOut r 32).size := rfl
  omega
theorem dg_spliced (r : ByteArray) : vals 32 (spliced 0 (dgCells r) fun _ => .int .u8 0) = dgV (dgOut r) := by
  refine vals_congr fun j hj => ?_
  unfold spliced
  rw [dgCells_len]
  by_cases h : 32 ≤ r.size
  · have hs := size_pos h (by omega)
    rw [hs, if_pos ⟨by omega, by omega⟩, Nat.sub_zero]
    unfold dgCells dgOut
    rw [if_pos h, hs, Nat.min_self]
    have hl : (tkOut r 32).data.toList.length = 32 := hs
    rw [List.take_of_length_le (by omega), List.getD_eq_getElem?_getD, List.getElem?_map, List.getElem?_eq_getElem (by omega)]
    have : byAt (tkOut r 32) j = byAt r j := by rw [tk_out_yes h, byAt_take _ _ _ hj]
    rw [← this]
    unfold byAt
    rw [List.getD_eq_getElem?_getD, List.getElem?_eq_getElem (by omega)]
    rfl
  · rw [tk_out_no (by omega)]
    rw [if_neg (by show ¬ (0 ≤ j ∧ j < 0 + min 0 32); omega)]
    unfold dgOut
    rw [if_neg h]
    rfl

set_option maxRecDepth 100000 in
set_option maxHeartbeats 1600000 in
theorem eye_digest (w : World) (b : Nat) (r : ByteArray) (bad : Bool) (h : EyeAt w b r bad) :
    Calls Tryd.prog 43 #[.pointer (some ⟨b, 0, none⟩)] w (EyeSays w b (.agg (dgV (dgOut r))) (tkRest r 32) (tkBad r bad 32)) := by
  have hbl := h.lt
  have H := Lib.hid h
  clear h
  go_enter Tryd.func43, Tryd.ntmps43
  go_wp2_with (fail)
  refine gen_world (fun wr => Only w wr b ∧ EyeAt wr b r bad ∧ wr.rowIs w.heap.size 24 32 (fun _ => .int .u8 0) ∧ wr.rowIs (w.heap.size + 1) 24 32 (fun _ => .int .u8 0)) ?_ ?_
  · exact ⟨((Only.refl w b).alloc _).alloc _, (H.out.of_block (heap_alloc_old w _ hbl)).of_block (heap_alloc_old _ _ (by simp; omega)), (row_alloc _ rfl (by kernel_rfl)).alloc _, row_alloc _ (by simp) (by kernel_rfl)⟩
  rintro wr ⟨ho, he, h0, h1⟩
  have HO := Lib.hid ho
  have HE := Lib.hid he
  have H0 := Lib.hid h0
  have H1 := Lib.hid h1
  clear ho he h0 h1 H
  have hcp : ∀ W : World, Only wr W b → (Builtin.copy_ #[78, 9] 3 #[.slice (some ⟨w.heap.size + 1, 0, none⟩) 32 32, .string (tkOut r 32)]).run Tryd.prog W = .ok (goInt ((min (tkOut r 32).size 32 : Nat) : Int)) (W.setRow (w.heap.size + 1) (dgV (dgOut r))) := fun W hW => by
    have := run_copy_str (P := Tryd.prog) W 78 9 3 5 (w.heap.size + 1) 0 32 32 (tkOut r 32) (dgCells r) 24 32 (fun _ => .int .u8 0) Tryd.underlying78 (fun _ => by kernel_rfl)
      (hW.row H1.out (by omega)) rfl (by rw [dgCells_len]; omega) _ rfl
    rw [dg_spliced] at this
    exact this
  have HCP := Lib.hid hcp
  clear hcp
  go_region_with ((go_at_call 57; refine (eye_take _ b r bad (HE.out.drewN 1) 32 (by omega)).mono ?_; rintro e w' ⟨rfl, g1, g2⟩; have hcw := HCP.out w' ((Only.refl wr b).drewN 1 |>.trans g2)))
  clear hcw
  have ho3 : Only w w' b := (HO.out.drewN 1).trans g2
  have r1 := row_block (g2.row (show (wr.drewN 1).rowIs (w.heap.size + 1) 24 32 (fun _ => .int .u8 0) from H1.out) (by omega))
  have r0 := g2.row (show (wr.drewN 1).rowIs w.heap.size 24 32 (fun _ => .int .u8 0) from H0.out) (by omega)
  have HX1 := Lib.hid (show (w'.setRow (w.heap.size + 1) (dgV (dgOut r))).heap[w.heap.size + 1]? = some (.cells (dgV (dgOut r)) 24 (0, 0)) from setRow_heap _ _ _ _ _ _ r1)
  have HX0 := Lib.hid (show (w'.setRow (w.heap.size + 1) (dgV (dgOut r))).heap[w.heap.size]? = some (.cells (dgV fun _ => 0) 24 (0, 0)) from row_block (row_setRow_other r0 (by omega)))
  have HI := Lib.hid (dgI (dgOut r))
  have HOo := Lib.hid (dgO (dgOut r))
  have HZ := Lib.hid (dgZ (fun _ => 0) (dgOut r))
  have HE3 := Lib.hid (show EyeAt ((w'.setRow (w.heap.size + 1) (dgV (dgOut r))).setRow w.heap.size (dgV (dgOut r))) b (tkRest r 32) (tkBad r bad 32) from
    (g1.of_block (setRow_other _ _ _ _ (by omega))).of_block (setRow_other _ _ _ _ (by omega)))
  have HO3 := Lib.hid ((ho3.setRow (.inr (by omega)) (dgV (dgOut r)) (g := w.heap.size + 1)).setRow (.inr (Nat.le_refl _)) (dgV (dgOut r)) (g := w.heap.size))
  clear g1 g2 ho3 r1 r0
  go_wp2_with (first
    | (with_reducible refine wpList_load_row rfl 24 _ rfl _ rfl 24 _ (0, 0) _ HX1.out Tryd.underlying24 rfl HI.out ?_)
    | (with_reducible refine wpList_store_row rfl 24 _ _ rfl _ _ rfl rfl 24 _ HX0.out HI.out HZ.out HOo.out ?_))
  refine bodyPost_ret (results_cell_row rfl _ _ _ 24 _ _ _ rfl (setRow_heap _ _ _ _ _ _ HX0.out) Tryd.underlying24 rfl HI.out) rfl ?_
  exact ⟨rfl, HE3.out, HO3.out⟩
theorem dg_nil : dgV (dgOut ⟨#[]⟩) = dgV fun _ => 0 := rfl
theorem tk_nil (n : Nat) : tkOut ⟨#[]⟩ n = ⟨#[]⟩ := empty_of_size (Nat.le_zero.1 (tk_out_size _ _))
set_option maxRecDepth 100000 in
set_option maxHeartbeats 1600000 in
theorem nil_digest (w : World) : Calls Tryd.prog 43 #[.pointer none] w fun e w' => e = .returned (.agg (dgV fun _ => 0)) ∧ Below w.heap.size w w' := by
  go_enter Tryd.func43, Tryd.ntmps43
  go_wp2_with (fail)
  refine gen_world (fun wr => Below w.heap.size w wr ∧ wr.rowIs w.heap.size 24 32 (fun _ => .int .u8 0) ∧ wr.rowIs (w.heap.size + 1) 24 32 (fun _ => .int .u8 0)) ?_ ?_
  · exact ⟨((Below.refl _ _).alloc (Nat.le_refl _) _).alloc (by simp) _, (row_alloc _ rfl (by kernel_rfl)).alloc _, row_alloc _ (by simp) (by kernel_rfl)⟩
  rintro wr ⟨ho, h0, h1⟩
  have HO := Lib.hid ho
  have H0 := Lib.hid h0
  have H1 := Lib.hid h1
  clear ho h0 h1
  have hcp : ∀ W : World, W.rowIs (w.heap.size + 1) 24 32 (fun _ => .int .u8 0) → (Builtin.copy_ #[78, 9] 3 #[.slice (some ⟨w.heap.size + 1, 0, none⟩) 32 32, .string ⟨#[]⟩]).run Tryd.prog W = .ok (goInt 0) (W.setRow (w.heap.size + 1) (dgV fun _ => 0)) := fun W hW => by
    have := run_copy_str (P := Tryd.prog) W 78 9 3 5 (w.heap.size + 1) 0 32 32 (tkOut ⟨#[]⟩ 32) (dgCells ⟨#[]⟩) 24 32 (fun _ => .int .u8 0) Tryd.underlying78 (fun _ => by kernel_rfl)
      hW rfl (by rw [dgCells_len, tk_nil]; show 0 + min 0 32 ≤ 32; omega) _ rfl
    rw [dg_spliced, tk_nil, dg_nil] at this
    exact this
  have HCP := Lib.hid hcp
  clear hcp
  go_region_with ((go_at_call 57; refine (nil_take _ 32).mono ?_; rintro e w' ⟨rfl, rfl⟩; have hcw := HCP.out wr.drew H1.out))
  have r1 := row_block (show wr.drew.rowIs (w.heap.size + 1) 24 32 (fun _ => .int .u8 0) from H1.out)
  have r0 : wr.drew.rowIs w.heap.size 24 32 (fun _ => .int .u8 0) := H0.out
  have hb : Below w.heap.size w wr.drew := below_drewN HO.out 1
  generalize wr.drew = w' at r1 r0 hb ⊢
  have HX1 := Lib.hid (show (w'.setRow (w.heap.size + 1) (dgV fun _ => 0)).heap[w.heap.size + 1]? = some (.cells (dgV fun _ => 0) 24 (0, 0)) from setRow_heap _ _ _ _ _ _ r1)
  have HX0 := Lib.hid (show (w'.setRow (w.heap.size + 1) (dgV fun _ => 0)).heap[w.heap.size]? = some (.cells (dgV fun _ => 0) 24 (0, 0)) from row_block (row_setRow_other r0 (by omega)))
  have HI := Lib.hid (dgI fun _ => 0)
  have HOo := Lib.hid (dgO fun _ => 0)
  have HZ := Lib.hid (dgZ (fun _ => 0) fun _ => 0)
  have HO3 := Lib.hid (below_setRow' (below_setRow' hb (show w.heap.size ≤ w.heap.size + 1 by omega) (dgV fun _ => 0)) (Nat.le_refl _) (dgV fun _ => 0))
  clear r1 r0 hb HO H0 H1 HCP
  go_wp2_with (first
    | (with_reducible refine wpList_load_row rfl 24 _ rfl _ rfl 24 _ (0, 0) _ HX1.out Tryd.underlying24 rfl HI.out ?_)
    | (with_reducible refine wpList_store_row rfl 24 _ _ rfl _ _ rfl rfl 24 _ HX0.out HI.out HZ.out HOo.out ?_))
  refine bodyPost_ret (results_cell_row rfl _ _ _ 24 _ _ _ rfl (setRow_heap _ _ _ _ _ _ HX0.out) Tryd.underlying24 rfl HI.out) rfl ?_
  exact ⟨rfl, HO3.out⟩
end Go.Proofs.YtgdckpldbofgfaaDoor
namespace Go.Proofs.YtgdckpldbofgfaaDoor
open Go.ChangeShapes Go.WideShapes Go.ChangeAt Go.RowKit Pn

theorem made_zero (N : Nat) : madeCells (Value.int .u8 0).cells (N * 1) = vals N fun _ => .int .u8 0 := by
  apply Array.ext (by rw [size_madeCells, vals_size]; omega)
  intro i h1 h2
  have := vals_get N (fun _ => Value.int .u8 0) i (by rwa [vals_size] at h2)
  rw [Array.getElem?_eq_getElem h2] at this
  rw [Option.some.inj this]
  simp [madeCells, Value.cells, Nat.mod_one]
theorem run_make_bytes (N : Nat) (hN : N < 1099511627776) (W : World) :
    (Instr.makeSlice 78 (.int .i64 (N : Int)) (.int .i64 (N : Int))).run Tryd.prog W = .ok (.slice (some ⟨W.heap.size, 0, none⟩) N N) (W.alloc (.cells (vals N fun _ => .int .u8 0) 5)) := by
  obtain ⟨i0, hi, hz0, hz1, hz2⟩ := info_parts infoB
  have h := run_make (P := Tryd.prog) W 78 5 i0 (.int .u8 0) Tryd.underlying78 hi hz0 .i64 .i64 (N : Int) (N : Int) (by omega) (by omega) (by rw [hz2]; omega) (by omega)
  rw [hz1, Int.toNat_natCast, made_zero] at h
  exact h
/-- What the row holds from place o on is what was written. -/
def Filled (L : List UInt8) (N o : Nat) (F : Nat → Value) : Prop := ∀ j, o ≤ j → j < N → F j = .int .u8 ((L.getD j 0).toNat : Int)
def pieceCells (q : ByteArray) (n : Nat) : List Value := (q.data.toList.take (min q.size n)).map fun x => Value.int .u8 (x.toNat : Int)
theorem pieceCells_len (q : ByteArray) (n : Nat) (h : q.size ≤ n) : (pieceCells q n).length = q.size := by
  unfold pieceCells
  have : q.data.toList.length = q.size := rfl
  rw [List.length_map, List.length_take]
  omega
theorem penL_at (d : List ByteArray) (q : ByteArray) (r : List ByteArray) : ∀ j, j < q.size → (penL (d ++ q :: r)).getD (total r + j) 0 = q.data.toList.getD j 0 := by
  have hp : ∀ d : List ByteArray, ∃ m, penL (d ++ q :: r) = penL r ++ (q.data.toList ++ m) := by
    intro d
    induction d with
    | nil => exact ⟨[], by simp [penL]⟩
    | cons a d ih =>
      obtain ⟨m, hm⟩ := ih
      exact ⟨m ++ a.data.toList, by simp only [List.cons_append, penL, hm, List.append_assoc]⟩
  intro j hj
  obtain ⟨m, hm⟩ := hp d
  have hl := penL_length r
  have hq : q.data.toList.length = q.size := rfl
  rw [hm, List.getD_eq_getElem?_getD, List.getD_eq_getElem?_getD, List.getElem?_append_right (by omega), show total r + j - (penL r).length = j by omega, List.getElem?_append_left (by omega)]
theorem total_append (d l : List ByteArray) : total (d ++ l) = total d + total l := by
  induction d with
  | nil => simp [total]
  | cons a d ih => simp only [List.cons_append, total, ih]; omega
theorem filled_next (d : List ByteArray) (q : ByteArray) (r : List ByteArray) (N : Nat) (F : Nat → Value) (hN : N = total (d ++ q :: r)) (h : Filled (penL (d ++ q :: r)) N (total (q :: r)) F) :
    Filled (penL (d ++ q :: r)) N (total r) (spliced (total r) (pieceCells q (N - total r)) F) := by
  have hq : q.size ≤ N - total r := by rw [hN, total_append]; simp only [total]; omega
  intro j h1 h2
  unfold spliced
  rw [pieceCells_len q _ hq]
  by_cases hj : j < total r + q.size
  · rw [if_pos ⟨h1, hj⟩]
    have := penL_at d q r (j - total r) (by omega)
    rw [show total r + (j - total r) = j by omega] at this
    rw [this]
    unfold pieceCells
    rw [Nat.min_eq_left hq, List.take_of_length_le (show q.data.toList.length ≤ q.size from Nat.le_refl _), List.getD_eq_getElem?_getD, List.getElem?_map, List.getD_eq_getElem?_getD, List.getElem?_eq_getElem (show j - total r < q.data.toList.length by show _ < q.size; omega)]
    rfl
  · rw [if_neg (by omega)]
    exact h j (by simp only [total]; omega) h2

set_option maxRecDepth 100000 in
set_option maxHeartbeats 3200000 in
theorem pen_bytes (w : World) (p : Nat) (l : List ByteArray) (bad : Bool) (h : PenAt w p l bad) (ht : total l < 1099511627776) :
    Calls Tryd.prog 39 #[.pointer (some ⟨p, 0, none⟩)] w fun e w' => e = .returned (.string ⟨(penL l).toArray⟩) ∧ Below w.heap.size w w' := by
  obtain ⟨last, hh, hch⟩ := h
  have c0 := hh.last0
  have hp := hh.lt
  have hs0 := hh.lt
  clear hh
  cases l with
  | nil =>
    obtain rfl : last = none := hch
    clear ht
    go_enter Tryd.func39, Tryd.ntmps39
    go_wp2
    go_ret
    exact ⟨rfl, Below.refl _ _⟩
  | cons q0 r0 =>
    have HCH := Lib.hid hch
    obtain ⟨g, ah, rfl, hg, hb, hr⟩ := hch
    have cg : w.cell? ⟨g, 2, none⟩ = some (.int .i64 (total (q0 :: r0) : Int)) := cell_of_row w g 2 _ _ _ hb
    have hgl : g < w.heap.size := (Array.getElem?_eq_some_iff.1 hb).1
    have HM := Lib.hid (run_make_bytes (total (q0 :: r0)) ht)
    have HT := Lib.hid ht
    have HL := Lib.hid (penL_length (q0 :: r0))
    clear hb hr ht
    generalize hl : (q0 :: r0) = l at *
    have HLL := Lib.hid hl
    clear hl
    generalize hN : total l = N at cg HM HT HL
    have HN := Lib.hid hN
    clear hN
    have hmk := HM.out
    go_enter Tryd.func39, Tryd.ntmps39
    go_wp2_with (fail)
    have HCW := Lib.hid (show Chain w p (some ⟨g, 0, none⟩) l from HCH.out)
    go_loopg [4] l.length (fun m a wr => ∃ (d l' : List ByteArray) (ad : Option Addr) (F : Nat → Value), m = l'.length ∧ a = .pointer ad ∧ l = d ++ l' ∧ Chain w p ad l' ∧ wr.rowIs w.heap.size 5 N F ∧ Filled (penL l) N (total l') F ∧ Below w.heap.size w wr)
    case atStart =>
      exact ⟨[], l, _, _, rfl, rfl, rfl, HCW.out, row_alloc _ rfl rfl, fun j h1 h2 => by rw [HN.out] at h1; omega, (Below.refl _ _).alloc (Nat.le_refl _) _⟩
    case round =>
      obtain ⟨d, l', ad, F, hm, rfl, hdl, hch, hrow, hfil, hbl⟩ := hrel
      cases l' with
      | nil =>
        obtain rfl : ad = none := hch
        have hcv := run_text wr ⟨w.heap.size, 0, none⟩ N N (penL l) (by rw [HL.out]) (fun j u hj => by
          have hjl : j < (penL l).length := by have := (List.getElem?_eq_some_iff.1 hj).1; rwa [bcells_length] at this
          have hjN : j < N := by rw [HL.out] at hjl; exact hjl
          rw [Addr.add_lit, Nat.zero_add, hrow.cell hjN, hfil j (Nat.zero_le _) hjN, ← hj, bcells_get _ _ hjl])
        have HB := Lib.hid hbl
        clear hm hdl hrow hfil hbl hmk
        go_wp2
        go_ret
        exact ⟨rfl, HB.out⟩
      | cons q r =>
        obtain ⟨g1, ah1, rfl, hg1, hb1, hr1⟩ := hch
        have hl1 : g1 < w.heap.size := (Array.getElem?_eq_some_iff.1 hb1).1
        have hbw : wr.heap[g1]? = some (.cells #[.pointer ah1, .string q, .int .i64 (total (q :: r) : Int)] 106 (0, 0)) := (hbl.block g1 hl1).trans hb1
        have k0 : wr.cell? ⟨g1, 0, none⟩ = some (.pointer ah1) := cell_of_row wr g1 0 _ _ _ hbw
        have k1 : wr.cell? ⟨g1, 1, none⟩ = some (.string q) := cell_of_row wr g1 1 _ _ _ hbw
        have k2 : wr.cell? ⟨g1, 2, none⟩ = some (.int .i64 (total (q :: r) : Int)) := cell_of_row wr g1 2 _ _ _ hbw
        have hfn := filled_next d q r N F (by rw [← hdl, HN.out]) (by rw [← hdl]; exact hfil)
        rw [← hdl] at hfn
        have hT : total (q :: r) = q.size + total r := rfl
        have hNd : N = total d + (q.size + total r) := by rw [← HN.out, hdl, total_append]; rfl
        have HREL := Lib.hid (show ∀ F' : Nat → Value, Filled (penL l) N (total r) F' → ∀ wz : World, wz.rowIs w.heap.size 5 N F' → Below w.heap.size w wz → ∃ (d l' : List ByteArray) (ad : Option Addr) (F : Nat → Value), r.length = l'.length ∧ Value.pointer ah1 = .pointer ad ∧ l = d ++ l' ∧ Chain w p ad l' ∧ wz.rowIs w.heap.size 5 N F ∧ Filled (penL l) N (total l') F ∧ Below w.heap.size w wz from
          fun F' hF' wz hrz hbz => ⟨d ++ [q], r, ah1, F', rfl, rfl, by rw [hdl]; simp, hr1, hrz, hF', hbz⟩)
        have hlt : r.length < gk := by rw [hm]; simp
        have HLT := Lib.hid hlt
        generalize total (q :: r) = T at hT k2
        generalize ho : total r = o at hT hNd hfn HREL
        have HF := Lib.hid hfn
        have HTO := Lib.hid hT
        have HROW := Lib.hid hrow
        have HB := Lib.hid hbl
        have hTN : q.size + o ≤ N := by omega
        have HTN := Lib.hid (HT.out)
        have e0 : IntKind.i64.wrap ((T : Int) - (q.size : Int)) = (o : Int) := by
          rw [show (T : Int) - (q.size : Int) = (o : Int) by omega]
          exact IntWalk.i64_in _ (by have := HTN.out; omega)
        have l0 : 0 ≤ (o : Int) := by omega
        have m0 : (o : Int) ≤ (N : Int) := by omega
        have d0 : wr.drew.cell? ⟨g1, 0, none⟩ = some (.pointer ah1) := k0
        have d1 : wr.drew.cell? ⟨g1, 1, none⟩ = some (.string q) := k1
        have d2 : wr.drew.cell? ⟨g1, 2, none⟩ = some (.int .i64 (T : Int)) := k2
        have hcp : (Builtin.copy_ #[78, 9] 3 #[.slice (some ⟨w.heap.size, o, none⟩) (N - o) (N - o), .string q]).run Tryd.prog wr.drew = .ok (goInt (min q.size (N - o) : Nat)) (wr.drew.setRow w.heap.size (vals N (spliced o (pieceCells q (N - o)) F))) :=
          run_copy_str (P := Tryd.prog) wr.drew 78 9 3 5 w.heap.size o (N - o) (N - o) q (pieceCells q (N - o)) 5 N F Tryd.underlying78 (fun _ => by kernel_rfl) (show wr.drew.rowIs w.heap.size 5 N F from HROW.out) rfl (by rw [pieceCells_len q _ (by omega)]; omega) _ rfl
        clear ho hfn hrow hbl hT hNd hfil hdl hm hr1 hb1 hbw hmk c0 cg
        by_cases hno : N = o
        · have hq0 : q.size = 0 := by omega
          subst hno
          have hcz : (Builtin.copy_ #[78, 9] 3 #[.slice (some ⟨w.heap.size, 0, none⟩) 0 0, .string q]).run Tryd.prog wr.drew = .ok (goInt 0) (wr.drew.setRow w.heap.size (vals N F)) := by
            have := run_copy_str (P := Tryd.prog) wr.drew 78 9 3 5 w.heap.size 0 0 0 q [] 5 N F Tryd.underlying78 (fun _ => by kernel_rfl) (show wr.drew.rowIs w.heap.size 5 N F from HROW.out) (by rw [hq0]; rfl) (by simp) 0 (by omega)
            rw [this]
            congr 2
          have dz : (wr.drew.setRow w.heap.size (vals N F)).cell? ⟨g1, 0, none⟩ = some (.pointer ah1) := by
            rw [World.cell?_of_block (w := wr.drew) (setRow_other _ _ _ _ (by show g1 ≠ w.heap.size; omega))]; exact d0
          have HFIN := Lib.hid (HREL.out F (fun j h1 h2 => by omega) (wr.drew.setRow w.heap.size (vals N F)) (row_setRow (show wr.drew.rowIs w.heap.size 5 N F from HROW.out)) (below_setRow' (below_drewN HB.out 1) (Nat.le_refl _) _))
          clear hcp HREL HF HTN hTN
          have hTN2 : T = N := by have := HTO.out; omega
          have HTB := Lib.hid HT.out
          clear HTO e0
          subst hTN2
          have e1 : IntKind.i64.wrap (T : Int) = (T : Int) := IntWalk.i64_in _ (by have := HTB.out; omega)
          have hq1 : ((q.size : Int)) = 0 := by omega
          clear hq0
          go_wp2
          go_still_tail 16, (by kernel_rfl)
          change wpList _ _ _ _ _ wr.drew
          go_wp2
          go_roundg r.length
          case measure => exact HLT.out
          case rel => exact HFIN.out
        · have dz : (wr.drew.setRow w.heap.size (vals N (spliced o (pieceCells q (N - o)) F))).cell? ⟨g1, 0, none⟩ = some (.pointer ah1) := by
            rw [World.cell?_of_block (w := wr.drew) (setRow_other _ _ _ _ (by show g1 ≠ w.heap.size; omega))]; exact d0
          have HFIN := Lib.hid (HREL.out _ HF.out (wr.drew.setRow w.heap.size (vals N (spliced o (pieceCells q (N - o)) F))) (row_setRow (show wr.drew.rowIs w.heap.size 5 N F from HROW.out)) (below_setRow' (below_drewN HB.out 1) (Nat.le_refl _) _))
          go_wp2
          go_still_tail 16, (by kernel_rfl)
          change wpList _ _ _ _ _ wr.drew
          go_wp2
          go_roundg r.length
          case measure => exact HLT.out
          case rel => exact HFIN.out
theorem pen_bytes_nil (w : World) : Calls Tryd.prog 39 #[.pointer none] w fun e w' => e = .returned (.string ⟨#[]⟩) ∧ w = w' := by
  go_enter Tryd.func39, Tryd.ntmps39
  go_wp2
  go_ret
  exact ⟨rfl, rfl⟩
end Go.Proofs.YtgdckpldbofgfaaDoor
namespace Go.Proofs.YtgdckpldbofgfaaDoor
open Go.ChangeShapes Go.WideShapes Go.ChangeAt Go.RowKit Pn

set_option maxRecDepth 100000 in
set_option maxHeartbeats 1600000 in
theorem refw_num (w : World) (n : Int) (hlo : -9223372036854775808 ≤ n) (hhi : n ≤ 9223372036854775807) :
    Calls Tryd.prog 40 #[.int .i64 n] w fun e w' => e = .returned (.tuple #[.string ⟨(numL n).toArray⟩, .bool (numOk n)]) ∧ Below w.heap.size w w' := by
  have v0 := numF_val n 0
  have v1 := numF_val n 1
  have v2 := numF_val n 2
  have v3 := numF_val n 3
  simp only [Nat.pow_zero, Nat.pow_one, Int.ediv_one, Nat.reducePow, Int.cast_ofNat_Int] at v0 v1 v2 v3
  cases hk : numOk n with
  | true =>
    have hv := numV_ok hk
    rw [hv] at v0 v1 v2 v3
    have hk2 : 0 ≤ n ∧ n ≤ 4294967295 := by unfold numOk at hk; simpa using hk
    have n0 : ¬ n < 0 := by omega
    have n1 : ¬ 4294967295 < n := by omega
    obtain ⟨h0, h1⟩ := hk2
    have V3 := Lib.hid (show ((numF n 3).toNat : Int) = n / 16777216 by omega)
    have V0 := Lib.hid v0
    have V1 := Lib.hid v1
    have V2 := Lib.hid v2
    clear v0 v1 v2 v3 hv hk
    have hcv : ∀ W : World, (∀ j u, (bcells (numL n))[j]? = some u → W.cell? ((⟨w.heap.size, 0, none⟩ : Addr).add j) = some u) → (convert 78 9 (.slice (some ⟨w.heap.size, 0, none⟩) 4 4)).run Tryd.prog W = .ok (.string ⟨(numL n).toArray⟩) W := fun W hW => run_text W _ 4 4 (numL n) (numL_length n).symm hW
    have hcw := hcv (w.alloc (.cells #[.int .u8 (n % 256), .int .u8 (n / 256 % 256), .int .u8 (n / 65536 % 256), .int .u8 (n / 16777216)] 5)) (fun j u hj => by
      rw [Addr.add_lit, Nat.zero_add, cell_of_row _ _ _ _ _ _ (heap_alloc_new w _), ← V0.out, ← V1.out, ← V2.out, ← V3.out, ← hj, four_cells]
      exact List.getElem?_toArray)
    clear hcv
    go_enter Tryd.func40, Tryd.ntmps40
    go_wp2
    go_ret2
    exact ⟨rfl, (Below.refl _ _).alloc (Nat.le_refl _) _⟩
  | false =>
    have hv := numV_no hk
    have hk2 : n < 0 ∨ 4294967295 < n := by
      unfold numOk at hk
      simp only [Bool.and_eq_false_iff, decide_eq_false_iff_not] at hk
      omega
    have HZ := Lib.hid (show (⟨(numL n).toArray⟩ : ByteArray) = ⟨#[0, 0, 0, 0]⟩ by
      unfold numL
      have : ∀ j, numF n j = 0 := fun j => by unfold numF; rw [hv, Nat.zero_div]; rfl
      simp [this, List.range, List.range.loop])
    clear v0 v1 v2 v3 hv hk
    rcases hk2 with n0 | n1
    · go_enter Tryd.func40, Tryd.ntmps40
      go_wp2
      go_ret2
      rw [HZ.out]
      exact ⟨rfl, Below.refl _ _⟩
    · have n0 : ¬ n < 0 := by omega
      go_enter Tryd.func40, Tryd.ntmps40
      go_wp2
      go_ret2
      rw [HZ.out]
      exact ⟨rfl, Below.refl _ _⟩
theorem textL_join (s : ByteArray) : (⟨(numL (s.size : Int)).toArray⟩ : ByteArray) ++ s = ⟨(textL s).toArray⟩ := by
  apply ByteArray.ext
  simp [ByteArray.data_append, textL]
end Go.Proofs.YtgdckpldbofgfaaDoor
