/-
  Package pen's pen: all bytes that were written. Conditions: the pen stands in a block of its own; fewer than 2^40 bytes.
-/
import Derived.Test.YtiehpaffbaafcaaPenText
import Derived.Test.YtiehpaffbaafcaaShaCopy
import Derived.Laws.MakeOwn
import Derived.Deep.LoopGhost
namespace Go.Proofs.Ytiehpaffbaafcaa
open Go.ChangeShapes Go.WideShapes Go.ChangeAt Go.RowKit Pn

theorem made_zero (N : Nat) : madeCells (Value.int .u8 0).cells (N * 1) = vals N fun _ => .int .u8 0 := by
  apply Array.ext (by rw [size_madeCells, vals_size]; omega)
  intro i h1 h2
  have := vals_get N (fun _ => Value.int .u8 0) i (by rwa [vals_size] at h2)
  rw [Array.getElem?_eq_getElem h2] at this
  rw [Option.some.inj this]
  simp [madeCells, Value.cells, Nat.mod_one]
theorem run_make_bytes (N : Nat) (hN : N < 1099511627776) (W : World) :
    (Instr.makeSlice 53 (.int .i64 (N : Int)) (.int .i64 (N : Int))).run Try.prog W = .ok (.slice (some ⟨W.heap.size, 0, none⟩) N N) (W.alloc (.cells (vals N fun _ => .int .u8 0) 5)) := by
  obtain ⟨i0, hi, hz0, hz1, hz2⟩ := info_parts infoB
  have h := run_make (P := Try.prog) W 53 5 i0 (.int .u8 0) Try.underlying53 hi hz0 .i64 .i64 (N : Int) (N : Int) (by omega) (by omega) (by rw [hz2]; omega) (by omega)
  rw [hz1, Int.toNat_natCast, made_zero] at h
  exact h
/-- What the row holds from place o on is what was written. -/
def Filled (L : List UInt8) (N o : Nat) (F : Nat → Value) : Prop := ∀ j, o ≤ j → j < N → F j = .int .u8 ((L.getD j 0).toNat : Int)
def pieceCells (q : ByteArray) (n : Nat) : List Value := (q.data.toList.take (min q.size n)).map fun x => Value.int .u8 (x.toNat : Int)
theorem pieceCells_len (q : ByteArray) (n : Nat) (h : q.size ≤ n) : (pieceCells q n).length = q.size := by
  unfold pieceCells
  have : q.data.toList.length = q.size := rfl
  rw [List.length_map, List.length_take]
  omega
theorem penL_at (d : List ByteArray) (q : ByteArray) (r : List ByteArray) : ∀ j, j < q.size → (penL (d ++ q :: r)).getD (total r + j) 0 = q.data.toList.getD j 0 := by
  have hp : ∀ d : List ByteArray, ∃ m, penL (d ++ q :: r) = penL r ++ (q.data.toList ++ m) := by
    intro d
    induction d with
    | nil => exact ⟨[], by simp [penL]⟩
    | cons a d ih =>
      obtain ⟨m, hm⟩ := ih
      exact ⟨m ++ a.data.toList, by simp only [List.cons_append, penL, hm, List.append_assoc]⟩
  intro j hj
  obtain ⟨m, hm⟩ := hp d
  have hl := penL_length r
  have hq : q.data.toList.length = q.size := rfl
  rw [hm, List.getD_eq_getElem?_getD, List.getD_eq_getElem?_getD, List.getElem?_append_right (by omega), show total r + j - (penL r).length = j by omega, List.getElem?_append_left (by omega)]
theorem total_append (d l : List ByteArray) : total (d ++ l) = total d + total l := by
  induction d with
  | nil => simp [total]
  | cons a d ih => simp only [List.cons_append, total, ih]; omega
theorem filled_next (d : List ByteArray) (q : ByteArray) (r : List ByteArray) (N : Nat) (F : Nat → Value) (hN : N = total (d ++ q :: r)) (h : Filled (penL (d ++ q :: r)) N (total (q :: r)) F) :
    Filled (penL (d ++ q :: r)) N (total r) (spliced (total r) (pieceCells q (N - total r)) F) := by
  have hq : q.size ≤ N - total r := by rw [hN, total_append]; simp only [total]; omega
  intro j h1 h2
  unfold spliced
  rw [pieceCells_len q _ hq]
  by_cases hj : j < total r + q.size
  · rw [if_pos ⟨h1, hj⟩]
    have := penL_at d q r (j - total r) (by omega)
    rw [show total r + (j - total r) = j by omega] at this
    rw [this]
    unfold pieceCells
    rw [Nat.min_eq_left hq, List.take_of_length_le (show q.data.toList.length ≤ q.size from Nat.le_refl _), List.getD_eq_getElem?_getD, List.getElem?_map, List.getD_eq_getElem?_getD, List.getElem?_eq_getElem (show j - total r < q.data.toList.length by show _ < q.size; omega)]
    rfl
  · rw [if_neg (by omega)]
    exact h j (by simp only [total]; omega) h2

set_option maxRecDepth 100000 in
set_option maxHeartbeats 3200000 in
theorem pen_bytes (w : World) (p : Nat) (l : List ByteArray) (bad : Bool) (h : PenAt w p l bad) (ht : total l < 1099511627776) :
    Calls Try.prog 17 #[.pointer (some ⟨p, 0, none⟩)] w fun e w' => e = .returned (.string ⟨(penL l).toArray⟩) ∧ Below w.heap.size w w' := by
  obtain ⟨last, hh, hch⟩ := h
  have c0 := hh.last0
  have hp := hh.lt
  have hs0 := hh.lt
  clear hh
  cases l with
  | nil =>
    obtain rfl : last = none := hch
    clear ht
    go_enter Try.func17, Try.ntmps17
    go_wp2
    go_ret
    exact ⟨rfl, Below.refl _ _⟩
  | cons q0 r0 =>
    have HCH := Lib.hid hch
    obtain ⟨g, ah, rfl, hg, hb, hr⟩ := hch
    have cg : w.cell? ⟨g, 2, none⟩ = some (.int .i64 (total (q0 :: r0) : Int)) := cell_of_row w g 2 _ _ _ hb
    have hgl : g < w.heap.size := (Array.getElem?_eq_some_iff.1 hb).1
    have HM := Lib.hid (run_make_bytes (total (q0 :: r0)) ht)
    have HT := Lib.hid ht
    have HL := Lib.hid (penL_length (q0 :: r0))
    clear hb hr ht
    generalize hl : (q0 :: r0) = l at *
    have HLL := Lib.hid hl
    clear hl
    generalize hN : total l = N at cg HM HT HL
    have HN := Lib.hid hN
    clear hN
    have hmk := HM.out
    go_enter Try.func17, Try.ntmps17
    go_wp2_with (fail)
    have HCW := Lib.hid (show Chain w p (some ⟨g, 0, none⟩) l from HCH.out)
    go_loopg [4] l.length (fun m a wr => ∃ (d l' : List ByteArray) (ad : Option Addr) (F : Nat → Value), m = l'.length ∧ a = .pointer ad ∧ l = d ++ l' ∧ Chain w p ad l' ∧ wr.rowIs w.heap.size 5 N F ∧ Filled (penL l) N (total l') F ∧ Below w.heap.size w wr)
    case atStart =>
      exact ⟨[], l, _, _, rfl, rfl, rfl, HCW.out, row_alloc _ rfl rfl, fun j h1 h2 => by rw [HN.out] at h1; omega, (Below.refl _ _).alloc (Nat.le_refl _) _⟩
    case round =>
      obtain ⟨d, l', ad, F, hm, rfl, hdl, hch, hrow, hfil, hbl⟩ := hrel
      cases l' with
      | nil =>
        obtain rfl : ad = none := hch
        have hcv := run_text wr ⟨w.heap.size, 0, none⟩ N N (penL l) (by rw [HL.out]) (fun j u hj => by
          have hjl : j < (penL l).length := by have := (List.getElem?_eq_some_iff.1 hj).1; rwa [bcells_length] at this
          have hjN : j < N := by rw [HL.out] at hjl; exact hjl
          rw [Addr.add_lit, Nat.zero_add, hrow.cell hjN, hfil j (Nat.zero_le _) hjN, ← hj, bcells_get _ _ hjl])
        have HB := Lib.hid hbl
        clear hm hdl hrow hfil hbl hmk
        go_wp2
        go_ret
        exact ⟨rfl, HB.out⟩
      | cons q r =>
        obtain ⟨g1, ah1, rfl, hg1, hb1, hr1⟩ := hch
        have hl1 : g1 < w.heap.size := (Array.getElem?_eq_some_iff.1 hb1).1
        have hbw : wr.heap[g1]? = some (.cells #[.pointer ah1, .string q, .int .i64 (total (q :: r) : Int)] 73 (0, 0)) := (hbl.block g1 hl1).trans hb1
        have k0 : wr.cell? ⟨g1, 0, none⟩ = some (.pointer ah1) := cell_of_row wr g1 0 _ _ _ hbw
        have k1 : wr.cell? ⟨g1, 1, none⟩ = some (.string q) := cell_of_row wr g1 1 _ _ _ hbw
        have k2 : wr.cell? ⟨g1, 2, none⟩ = some (.int .i64 (total (q :: r) : Int)) := cell_of_row wr g1 2 _ _ _ hbw
        have hfn := filled_next d q r N F (by rw [← hdl, HN.out]) (by rw [← hdl]; exact hfil)
        rw [← hdl] at hfn
        have hT : total (q :: r) = q.size + total r := rfl
        have hNd : N = total d + (q.size + total r) := by rw [← HN.out, hdl, total_append]; rfl
        have HREL := Lib.hid (show ∀ F' : Nat → Value, Filled (penL l) N (total r) F' → ∀ wz : World, wz.rowIs w.heap.size 5 N F' → Below w.heap.size w wz → ∃ (d l' : List ByteArray) (ad : Option Addr) (F : Nat → Value), r.length = l'.length ∧ Value.pointer ah1 = .pointer ad ∧ l = d ++ l' ∧ Chain w p ad l' ∧ wz.rowIs w.heap.size 5 N F ∧ Filled (penL l) N (total l') F ∧ Below w.heap.size w wz from
          fun F' hF' wz hrz hbz => ⟨d ++ [q], r, ah1, F', rfl, rfl, by rw [hdl]; simp, hr1, hrz, hF', hbz⟩)
        have hlt : r.length < gk := by rw [hm]; simp
        have HLT := Lib.hid hlt
        generalize total (q :: r) = T at hT k2
        generalize ho : total r = o at hT hNd hfn HREL
        have HF := Lib.hid hfn
        have HTO := Lib.hid hT
        have HROW := Lib.hid hrow
        have HB := Lib.hid hbl
        have hTN : q.size + o ≤ N := by omega
        have HTN := Lib.hid (HT.out)
        have e0 : IntKind.i64.wrap ((T : Int) - (q.size : Int)) = (o : Int) := by
          rw [show (T : Int) - (q.size : Int) = (o : Int) by omega]
          exact IntWalk.i64_in _ (by have := HTN.out; omega)
        have l0 : 0 ≤ (o : Int) := by omega
        have m0 : (o : Int) ≤ (N : Int) := by omega
        have d0 : wr.drew.cell? ⟨g1, 0, none⟩ = some (.pointer ah1) := k0
        have d1 : wr.drew.cell? ⟨g1, 1, none⟩ = some (.string q) := k1
        have d2 : wr.drew.cell? ⟨g1, 2, none⟩ = some (.int .i64 (T : Int)) := k2
        have hcp : (Builtin.copy_ #[53, 9] 3 #[.slice (some ⟨w.heap.size, o, none⟩) (N - o) (N - o), .string q]).run Try.prog wr.drew = .ok (goInt (min q.size (N - o) : Nat)) (wr.drew.setRow w.heap.size (vals N (spliced o (pieceCells q (N - o)) F))) :=
          run_copy_str (P := Try.prog) wr.drew 53 9 3 5 w.heap.size o (N - o) (N - o) q (pieceCells q (N - o)) 5 N F Try.underlying53 (fun _ => by kernel_rfl) (show wr.drew.rowIs w.heap.size 5 N F from HROW.out) rfl (by rw [pieceCells_len q _ (by omega)]; omega) _ rfl
        clear ho hfn hrow hbl hT hNd hfil hdl hm hr1 hb1 hbw hmk c0 cg
        by_cases hno : N = o
        · have hq0 : q.size = 0 := by omega
          subst hno
          have hcz : (Builtin.copy_ #[53, 9] 3 #[.slice (some ⟨w.heap.size, 0, none⟩) 0 0, .string q]).run Try.prog wr.drew = .ok (goInt 0) (wr.drew.setRow w.heap.size (vals N F)) := by
            have := run_copy_str (P := Try.prog) wr.drew 53 9 3 5 w.heap.size 0 0 0 q [] 5 N F Try.underlying53 (fun _ => by kernel_rfl) (show wr.drew.rowIs w.heap.size 5 N F from HROW.out) (by rw [hq0]; rfl) (by simp) 0 (by omega)
            rw [this]
            congr 2
          have dz : (wr.drew.setRow w.heap.size (vals N F)).cell? ⟨g1, 0, none⟩ = some (.pointer ah1) := by
            rw [World.cell?_of_block (w := wr.drew) (setRow_other _ _ _ _ (by show g1 ≠ w.heap.size; omega))]; exact d0
          have HFIN := Lib.hid (HREL.out F (fun j h1 h2 => by omega) (wr.drew.setRow w.heap.size (vals N F)) (row_setRow (show wr.drew.rowIs w.heap.size 5 N F from HROW.out)) (below_setRow' (below_drewN HB.out 1) (Nat.le_refl _) _))
          clear hcp HREL HF HTN hTN
          have hTN2 : T = N := by have := HTO.out; omega
          have HTB := Lib.hid HT.out
          clear HTO e0
          subst hTN2
          have e1 : IntKind.i64.wrap (T : Int) = (T : Int) := IntWalk.i64_in _ (by have := HTB.out; omega)
          have hq1 : ((q.size : Int)) = 0 := by omega
          clear hq0
          go_wp2
          go_still_tail 16, (by kernel_rfl)
          change wpList _ _ _ _ _ wr.drew
          go_wp2
          go_roundg r.length
          case measure => exact HLT.out
          case rel => exact HFIN.out
        · have dz : (wr.drew.setRow w.heap.size (vals N (spliced o (pieceCells q (N - o)) F))).cell? ⟨g1, 0, none⟩ = some (.pointer ah1) := by
            rw [World.cell?_of_block (w := wr.drew) (setRow_other _ _ _ _ (by show g1 ≠ w.heap.size; omega))]; exact d0
          have HFIN := Lib.hid (HREL.out _ HF.out (wr.drew.setRow w.heap.size (vals N (spliced o (pieceCells q (N - o)) F))) (row_setRow (show wr.drew.rowIs w.heap.size 5 N F from HROW.out)) (below_setRow' (below_drewN HB.out 1) (Nat.le_refl _) _))
          go_wp2
          go_still_tail 16, (by kernel_rfl)
          change wpList _ _ _ _ _ wr.drew
          go_wp2
          go_roundg r.length
          case measure => exact HLT.out
          case rel => exact HFIN.out
theorem pen_bytes_nil (w : World) : Calls Try.prog 17 #[.pointer none] w fun e w' => e = .returned (.string ⟨#[]⟩) ∧ w = w' := by
  go_enter Try.func17, Try.ntmps17
  go_wp2
  go_ret
  exact ⟨rfl, rfl⟩
end Go.Proofs.Ytiehpaffbaafcaa
