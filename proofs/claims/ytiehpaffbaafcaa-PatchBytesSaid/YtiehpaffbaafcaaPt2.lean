/-
  Package patch: do, and what Apply answers. Conditions: what came stands in a row of its own; the deed can be, and all bytes are 8192 at most.
-/
import Derived.Test.YtiehpaffbaafcaaPt1
import Derived.Test.YtiehpaffbaafcaaPtMem
import Derived.Test.YtiehpaffbaafcaaCutStr
namespace Go.Proofs.Ytiehpaffbaafcaa
open Go.ChangeShapes Go.WideShapes Go.ChangeAt Go.RowKit Pn Pt
namespace Pt

/-- The byte that comes at a place of a deed's own. -/
def atB (b : ByteArray) (o : Deed) (i : Nat) : UInt8 := if o.k = 3 then byAt o.d i + byAt b (o.f.toNat + i) else byAt o.d i
def atL (b : ByteArray) (o : Deed) (n : Nat) : List UInt8 := (List.range n).map (atB b o)
theorem atL_length (b : ByteArray) (o : Deed) (n : Nat) : (atL b o n).length = n := by unfold atL; simp
theorem atL_next (b : ByteArray) (o : Deed) (n : Nat) : atL b o (n + 1) = atL b o n ++ [atB b o n] := by unfold atL; rw [List.range_succ, List.map_append]; rfl
theorem bytes_map (d : ByteArray) : (List.range d.size).map (byAt d) = d.data.toList := by
  have hd : d.data.toList.length = d.size := rfl
  apply List.ext_getElem?
  intro i
  rw [List.getElem?_map]
  by_cases h : i < d.size
  · rw [List.getElem?_range h]
    unfold byAt
    have hl : i < d.data.toList.length := h
    rw [Option.map_some, List.getD_eq_getElem?_getD, List.getElem?_eq_getElem hl]
    rfl
  · rw [List.getElem?_eq_none (by simp; omega), List.getElem?_eq_none (by rw [hd]; omega)]
    rfl
theorem atL_all {b : ByteArray} {o : Deed} (h : o.k ≠ 1) : atL b o o.d.size = comeL b o := by
  unfold comeL atL
  rw [if_neg h]
  by_cases h3 : o.k = 3
  · rw [if_pos h3]
    apply List.map_congr_left
    intro i _
    unfold atB
    rw [if_pos h3]
  · rw [if_neg h3, ← bytes_map]
    apply List.map_congr_left
    intro i _
    unfold atB
    rw [if_neg h3]
theorem pt_less (j m : Nat) (h : j + 1 ≤ m) : (match Value.int .i64 ((j : Int) + 1) with | .int _ k => m - k.toNat | _ => 0) < (match Value.int .i64 (j : Int) with | .int _ k => m - k.toNat | _ => 0) := by
  show m - ((j : Int) + 1).toNat < m - (j : Int).toNat
  omega
theorem add_u8 (x y : UInt8) : ((x.toNat : Int) + (y.toNat : Int)) % 256 = ((x + y).toNat : Int) := by
  have h1 := x.toNat_lt
  have h2 := y.toNat_lt
  rw [UInt8.toNat_add]
  omega
theorem cut_cells (b : ByteArray) (f s : Nat) : Lib.strCells (b.extract f (f + s)) = bcells ((b.data.toList.drop f).take s) := by
  rw [bcells_text]
  congr 1
  rw [ByteArray.data_extract, Array.toList_extract, List.extract_eq_take_drop]
  congr 1
  omega
/-- While a deed is done: what came, the deed, its bytes. -/
structure Dg (w : World) (base : Nat) (o : Deed) (wr : World) (v : Value) (l : List UInt8) : Prop where
  own : OwnT wr base v l
  box : wr.heap[w.heap.size]? = some (boxD 42 o)
  row : Tx.TRow wr (w.heap.size + 1) o.d.data.toList
  ne1 : v.ownBlock ≠ some w.heap.size
  ne2 : v.ownBlock ≠ some (w.heap.size + 1)
  below : Below base w wr
theorem Dg.next {w wr wz : World} {base g cap j : Nat} {o : Deed} {v : Value} {l : List UInt8} {z : UInt8} {ob : Obj} (h : Dg w base o wr v l) (hb : base ≤ w.heap.size) (hl : l.length = j)
    (hown : wz.ownsRow base 5 1 (.slice (some ⟨g, 0, none⟩) (j + 1) cap) (j + 1) (bcells l ++ [.int .u8 (z.toNat : Int)])) (hg : (wr.alloc ob).grownBy wz v.ownBlock) (hat : v.ownBlock = some g ∨ g = (wr.alloc ob).heap.size) :
    Dg w base o wz (.slice (some ⟨g, 0, none⟩) (j + 1) cap) (l ++ [z]) := by
  have hlt := h.row.lt
  have e1 : wz.heap[w.heap.size]? = wr.heap[w.heap.size]? := (hg.block _ (by simp; omega) (fun e => h.ne1 e.symm)).trans (heap_alloc_old _ _ (by omega))
  have e2 : wz.heap[w.heap.size + 1]? = wr.heap[w.heap.size + 1]? := (hg.block _ (by simp; omega) (fun e => h.ne2 e.symm)).trans (heap_alloc_old _ _ hlt)
  have hs : wr.heap.size < (wr.alloc ob).heap.size := by simp
  refine ⟨?_, e1.trans h.box, ?_, ?_, ?_, ?_⟩
  · unfold OwnT
    rw [bcells_append, List.length_append, hl]
    exact hown
  · obtain ⟨cs, lo, hi, hc, r⟩ := h.row
    exact ⟨cs, lo, hi, e2.trans hc, r⟩
  · intro e
    injection e with e
    have e' : g = w.heap.size := e
    rcases hat with hat | hat
    · exact h.ne1 (by rw [hat, e'])
    · omega
  · intro e
    injection e with e
    have e' : g = w.heap.size + 1 := e
    rcases hat with hat | hat
    · exact h.ne2 (by rw [hat, e'])
    · omega
  · have hbs := h.below.size
    exact (h.below.alloc (by omega) ob).grown hg (by simp; omega) (fun i hi => (h.own.lt i hi).1)
end Pt
set_option maxRecDepth 100000 in
set_option maxHeartbeats 6400000 in
theorem pt_do (w : World) (base : Nat) (hbase : base ≤ w.heap.size) (v : Value) (l : List UInt8) (h : OwnT w base v l) (b : ByteArray) (hbs : b.size ≤ 1073741824) (o : Deed) (hg : okD (b.size : Int) o = true) (hl : l.length + numD o ≤ 8192) :
    Calls Try.prog 28 #[v, .string b, dv o] w fun e w' => ∃ v', e = .returned v' ∧ OwnT w' base v' (l ++ comeL b o) ∧ Below base w w' := by
  obtain ⟨i0, hi, hz0, hz1, hz2⟩ := info_parts infoB
  have HI := Lib.hid hi
  have HZ0 := Lib.hid hz0
  have HZ1 := Lib.hid hz1
  have HZ2 := Lib.hid hz2
  have HB0 := Lib.hid hbase
  have HO := Lib.hid h
  have HWY := Lib.hid (way hg)
  have HBB := Lib.hid (show Below base w (w.alloc (boxD 42 o)) from (Below.refl _ _).alloc hbase _)
  have HHB := Lib.hid (show (w.alloc (boxD 42 o)).heap[w.heap.size]? = some (boxD 42 o) from heap_alloc_new w _)
  have HL := Lib.hid hl
  clear hi hz0 hz1 hz2 hbase h hl
  by_cases hk : o.k = 1
  · obtain ⟨hd, hin⟩ : o.d.size = 0 ∧ insZ (b.size : Int) o.f o.s = true := by
      cases HWY.out with
      | copy k d i => exact ⟨d, i⟩
      | lay k f s t => omega
      | add k s t i => omega
    obtain ⟨i1, i2, i3, i4⟩ := ins_iff.1 hin
    have HC := Lib.hid (show comeL b o = (b.data.toList.drop o.f.toNat).take o.s.toNat from if_pos hk)
    have HN := Lib.hid (show numD o = o.s.toNat from by unfold numD; omega)
    have hat := box_at HHB.out
    have HOA := Lib.hid (show OwnT (w.alloc (boxD 42 o)) base v l from HO.out.below ((Below.refl w.heap.size w).alloc (Nat.le_refl _) _) (Nat.le_refl _))
    obtain ⟨k, f, s, d⟩ := o
    simp only at hk i1 i2 i3 i4 HC HN
    subst hk
    obtain ⟨F, rfl⟩ : ∃ F : Nat, f = (F : Int) := ⟨f.toNat, by omega⟩
    obtain ⟨n, rfl⟩ : ∃ n : Nat, s = (n : Int) := ⟨s.toNat, by omega⟩
    have hcut := str_cut b F (F + n) (F : Int) ((F : Int) + (n : Int)) rfl (by omega) (by omega) (by omega)
    have e1 : IntKind.i64.wrap ((F : Int) + (n : Int)) = (F : Int) + (n : Int) := IntWalk.i64_in _ (by omega)
    have HCC := Lib.hid (cut_cells b F n)
    have hsz : (b.extract F (F + n)).size = n := by rw [extract_size _ _ _ (by omega)]; omega
    have HLN := Lib.hid (show l.length + n ≤ 8192 by have := HL.out; have := HN.out; rw [Int.toNat_natCast] at this; omega)
    simp only [Int.toNat_natCast] at HC
    generalize b.extract F (F + n) = q at hcut HCC hsz
    have HSZ := Lib.hid hsz
    obtain ⟨c0, c1, c2, c3⟩ := hat
    unfold dv
    clear hsz hin hg
    go_enter Try.func28, Try.ntmps28
    go_wp2_with (at_builtin; refine Lib.wpList_append_own_string _ rfl (.tmp 12) (.tmp 21) 53 9 rfl base 5 i0 Try.underlying53 Try.underlying9 HI.out HZ0.out HZ1.out HZ2.out v l.length (bcells l) rfl HOA.out q rfl (by have := HLN.out; rw [HSZ.out]; unfold maxLen; omega) (by have := HLN.out; rw [HSZ.out]; omega) (by have := HB0.out; simp; omega) ?_; intro v' w2 hown hgr _; have HOW := Lib.hid hown; have HGR := Lib.hid hgr; clear hown hgr)
    refine bodyPost_ret (results_tmp rfl _ _ _) rfl ?_
    refine ⟨v', rfl, ?_, HBB.out.grown HGR.out (by have := HB0.out; simp; omega) (fun i hi => (HOA.out.lt i hi).1)⟩
    have := HOW.out
    rw [HCC.out, ← bcells_append, HSZ.out] at this
    have hlc : (l ++ ((b.data.toList.drop F).take n)).length = l.length + n := by
      rw [List.length_append, ← bcells_length ((b.data.toList.drop F).take n), ← HCC.out, Lib.strCells_length, HSZ.out]
    rw [HC.out]
    unfold OwnT
    rw [hlc]
    exact this
  · have hs0 : o.s = 0 := by
      cases HWY.out with
      | copy k d i => exact absurd k hk
      | lay k f s t => exact s
      | add k s t i => exact s
    have HD := Lib.hid (show o.d.size ≤ 8192 by
      cases HWY.out with
      | copy k d i => omega
      | lay k f s t => exact (tel_iff.1 t).2
      | add k s t i => exact (tel_iff.1 t).2)
    have HIN := Lib.hid (show o.k = 3 → 0 ≤ o.f ∧ o.f + (o.d.size : Int) ≤ (b.size : Int) from fun h3 => by
      cases HWY.out with
      | copy k d i => omega
      | lay k f s t => omega
      | add k s t i =>
        have := ins_iff.1 i
        omega)
    have HALL := Lib.hid (atL_all (b := b) hk)
    have HLN := Lib.hid (show l.length + o.d.size ≤ 8192 by have := HL.out; unfold numD at this; omega)
    have HFX := Lib.hid (show ∀ W v', Tx.TRow W (w.heap.size + 1) o.d.data.toList → (w.alloc (boxD 42 o)).grownBy W none → v' = v → Dg w base o W v' (l ++ atL b o 0) from fun W v' hr hgr hv => by
      subst hv
      have hb1 : Below (w.alloc (boxD 42 o)).heap.size (w.alloc (boxD 42 o)) W := (Below.refl _ _).grown hgr (Nat.le_refl _) (fun k hk => by cases hk)
      have hlt := HO.out.lt
      refine ⟨?_, (hb1.block _ (by simp)).trans HHB.out, hr, fun e => ?_, fun e => ?_, HBB.out.trans (hb1.mono (by have := HB0.out; simp; omega))⟩
      · rw [show atL b o 0 = [] from rfl, List.append_nil]
        exact (HO.out.below ((Below.refl w.heap.size w).alloc (Nat.le_refl _) _) (Nat.le_refl _)).below hb1 (Nat.le_refl _)
      · have := (hlt _ e).2; omega
      · have := (hlt _ e).2; omega)
    have hat := box_at HHB.out
    obtain ⟨c0, c1, c2, c3⟩ := hat
    have k1 : (o.k == 1) = false := beq_eq_false_iff_ne.2 hk
    have HL8 := Lib.hid (show o.d.data.toList.length = o.d.size from rfl)
    have HBY := Lib.hid (fun j => show byAt o.d j = o.d.data.toList.getD j 0 from rfl)
    have HAT := Lib.hid (fun j (hn : ¬ o.k = 3) => show atB b o j = byAt o.d j from if_neg hn)
    have HAT3 := Lib.hid (fun j (hn : o.k = 3) => show atB b o j = byAt o.d j + byAt b (o.f.toNat + j) from if_pos hn)
    unfold dv
    clear hg hs0
    generalize hL8 : o.d.data.toList = L8 at HL8 HBY HFX
    have HQ8 := Lib.hid hL8
    go_enter Try.func28, Try.ntmps28
    go_wp2_with (refine Tx.wpList_bytes rfl (.tmp 24) rfl o.d rfl L8 HQ8.out ?_; intro cap w2 hrow hgr; have HRW := Lib.hid hrow; have HGR := Lib.hid hgr; clear hrow hgr)
    clear c0 c1 c2 c3 hL8
    have HS := Lib.hid (HFX.out _ _ (by simpa using HRW.out) HGR.out rfl)
    go_loopw [0, 27] (fun x i wr => ∃ (j : Nat) (G : Option Addr) (cg : Nat), i = .int .i64 (j : Int) ∧ j ≤ o.d.size ∧ x = .slice G (l.length + j) cg ∧ Dg w base o wr x (l ++ atL b o j)) (fun _ i _ => match i with | .int _ k => o.d.size - k.toNat | _ => 0)
    case atStart =>
      obtain ⟨G, cg, hv⟩ := HO.out.slice
      exact ⟨0, G, cg, rfl, Nat.zero_le _, hv, HS.out⟩
    case round =>
      clear HS HFX
      obtain ⟨j, G, cg, rfl, hj, rfl, hdg⟩ := hrel
      have HDG := Lib.hid hdg
      have hat := box_at hdg.box
      obtain ⟨c0, c1, c2, c3⟩ := hat
      have HJL := Lib.hid (show (l ++ atL b o j).length = l.length + j by rw [List.length_append, atL_length])
      have x2 : 0 ≤ (j : Int) := by omega
      by_cases hlt : j < o.d.size
      · have x0 : (j : Int) < (L8.length : Int) := by have := HL8.out; omega
        have x1 : decide ((j : Int) < (L8.length : Int)) = true := decide_eq_true x0
        have c8 := hdg.row.cell (j := j) (by have := HL8.out; rw [HQ8.out]; omega)
        rw [HQ8.out, ← HBY.out] at c8
        have HJ := Lib.hid (show j + 1 ≤ o.d.size by omega)
        have HNX := Lib.hid (show ∀ (wz : World) (g cap : Nat), wz.ownsRow base 5 1 (.slice (some ⟨g, 0, none⟩) (l.length + j + 1) cap) (l.length + j + 1) (bcells (l ++ atL b o j) ++ [.int .u8 ((atB b o j).toNat : Int)]) → ∀ ob, (wr.alloc ob).grownBy wz (Value.slice G (l.length + j) cg).ownBlock → ((Value.slice G (l.length + j) cg).ownBlock = some g ∨ g = (wr.alloc ob).heap.size) → Dg w base o wz (.slice (some ⟨g, 0, none⟩) (l.length + j + 1) cap) (l ++ atL b o (j + 1)) from fun wz g cap h1 ob h2 h3 => by
          rw [atL_next, ← List.append_assoc]
          exact Dg.next HDG.out HB0.out HJL.out h1 h2 h3)
        have HOW := Lib.hid (show wr.ownsRow base 5 1 (.slice G (l.length + j) cg) (l.length + j) (bcells (l ++ atL b o j)) from by
          have := HDG.out.own
          unfold OwnT at this
          rw [HJL.out] at this
          exact this)
        clear hdg hj
        by_cases hk3 : o.k = 3
        · have k3 : (o.k == 3) = true := beq_iff_eq.2 hk3
          obtain ⟨h0, h1⟩ := HIN.out hk3
          have e1 := IntWalk.wrap64_in (o.f + (j : Int)) (by omega)
          have hx := fun W => index_by b (o.f.toNat + j) (by omega) (o.f + (j : Int)) (by omega) W
          have HZ := Lib.hid (HAT3.out j hk3)
          have e8 := add_u8 (byAt o.d j) (byAt b (o.f.toNat + j))
          rw [← HZ.out] at e8
          generalize atB b o j = z at HNX e8
          generalize byAt b (o.f.toNat + j) = z2 at hx e8
          generalize byAt o.d j = z1 at c8 e8
          clear h0 h1 hk3
          go_wp2_with (at_builtin; refine wpList_append_lies _ rfl (.tmp 43) (.tmp 45) 53 rfl base 5 i0 _ 1 1 Try.underlying53 HI.out HZ0.out HZ1.out HZ2.out rfl (by omega) (.slice G (l.length + j) cg) (l.length + j) _ rfl (HOW.out.alloc _) ⟨wr.heap.size, 0, none⟩ 1 1 [.int .u8 (z.toNat : Int)] rfl rfl (one_srcT wr z.toNat) (one_oneT z.toNat) (by omega) (by have := HLN.out; unfold maxLen; omega) (by have := HLN.out; omega) (by have h1 := HDG.out.below.size; have h2 := HB0.out; simp; omega) _ rfl ?_; intro gz cap2 wz hownz hgrow hatz hltz; have HND := Lib.hid (HNX.out wz gz cap2 hownz _ hgrow hatz); clear hownz hgrow hatz hltz)
          try rw [IntWalk.wrap64_in ((j : Int) + 1) (by have := HD.out; have := HJ.out; omega)]
          exact ⟨⟨j + 1, _, cap2, rfl, HJ.out, rfl, HND.out⟩, pt_less j o.d.size HJ.out⟩
        · have k3 : (o.k == 3) = false := beq_eq_false_iff_ne.2 hk3
          have HZ := Lib.hid (HAT.out j hk3)
          rw [← HZ.out] at c8
          generalize atB b o j = z at HNX c8
          go_wp2_with (at_builtin; refine wpList_append_lies _ rfl (.tmp 43) (.tmp 45) 53 rfl base 5 i0 _ 1 1 Try.underlying53 HI.out HZ0.out HZ1.out HZ2.out rfl (by omega) (.slice G (l.length + j) cg) (l.length + j) _ rfl (HOW.out.alloc _) ⟨wr.heap.size, 0, none⟩ 1 1 [.int .u8 (z.toNat : Int)] rfl rfl (one_srcT wr z.toNat) (one_oneT z.toNat) (by omega) (by have := HLN.out; unfold maxLen; omega) (by have := HLN.out; omega) (by have h1 := HDG.out.below.size; have h2 := HB0.out; simp; omega) _ rfl ?_; intro gz cap2 wz hownz hgrow hatz hltz; have HND := Lib.hid (HNX.out wz gz cap2 hownz _ hgrow hatz); clear hownz hgrow hatz hltz)
          try rw [IntWalk.wrap64_in ((j : Int) + 1) (by have := HD.out; have := HJ.out; omega)]
          exact ⟨⟨j + 1, _, cap2, rfl, HJ.out, rfl, HND.out⟩, pt_less j o.d.size HJ.out⟩
      · have hje : j = o.d.size := by omega
        subst hje
        have x0 : ¬ ((o.d.size : Nat) : Int) < (L8.length : Int) := by have := HL8.out; omega
        have x1 : decide (((o.d.size : Nat) : Int) < (L8.length : Int)) = false := decide_eq_false x0
        go_wp2_with (fail)
        refine bodyPost_ret (results_tmp rfl _ _ _) rfl ?_
        refine ⟨_, rfl, ?_, HDG.out.below⟩
        rw [← HALL.out]
        exact HDG.out.own
end Go.Proofs.Ytiehpaffbaafcaa
