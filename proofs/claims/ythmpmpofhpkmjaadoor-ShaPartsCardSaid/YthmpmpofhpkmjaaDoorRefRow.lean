/-
  A row of bytes of one's own, to which one byte more is appended: of whatever origin, '[]byte(s)' too. No program's function here.
-/
import Derived.Test.YthmpmpofhpkmjaaDoorRefBlock2
import Derived.Test.YthmpmpofhpkmjaaDoorShaBytes
import Derived.Lib.ConvBytes
import Derived.Laws.AppendOwn
namespace Go.Proofs.YthmpmpofhpkmjaaDoor
open Go.ChangeShapes Go.WideShapes Go.ChangeAt Go.RowKit Sh

/-- The slice v owns the bytes l; of its row nothing within is frozen. -/
def BRow (w : World) (base : Nat) (v : Value) (l : List UInt8) : Prop :=
  ∃ g cap cur fz, v = .slice (some ⟨g, 0, none⟩) l.length cap ∧ base ≤ g ∧ w.heap[g]? = some (.cells cur 5 fz) ∧ (fz = (0, 0) ∨ fz.1 = cap) ∧ l.length ≤ cap ∧ cap ≤ maxLen ∧ cur.size = cap ∧
    ∀ j, j < l.length → cur[j]? = some (.int .u8 ((byteAt l j).toNat : Int))
namespace BRow
variable {w : World} {base : Nat} {v : Value} {l : List UInt8}
theorem cell {g cap : Nat} (h : BRow w base (.slice (some ⟨g, 0, none⟩) l.length cap) l) (j : Nat) (hj : j < l.length) : w.cell? ⟨g, j, none⟩ = some (.int .u8 ((byteAt l j).toNat : Int)) := by
  obtain ⟨g', cap', cur, fz, hv, _, hg, _, _, _, _, hc⟩ := h
  injection hv with h1 _ _
  injection h1 with h1
  injection h1 with h1 _ _
  subst h1
  rw [cell_of_row w g j cur _ fz hg]
  exact hc j hj
theorem form (h : BRow w base v l) : ∃ g cap, v = .slice (some ⟨g, 0, none⟩) l.length cap ∧ base ≤ g ∧ g < w.heap.size ∧ BRow w base (.slice (some ⟨g, 0, none⟩) l.length cap) l := by
  obtain ⟨g, cap, cur, fz, rfl, hb, hg, r⟩ := h
  exact ⟨g, cap, rfl, hb, (Array.getElem?_eq_some_iff.1 hg).1, g, cap, cur, fz, rfl, hb, hg, r⟩
theorem kept {w' : World} {row : Option Nat} (h : BRow w base v l) (hg : w.grownBy w' row) (hne : v.ownBlock ≠ row ∨ row = none) : BRow w' base v l := by
  obtain ⟨g, cap, cur, fz, rfl, hb, hgg, r⟩ := h
  refine ⟨g, cap, cur, fz, rfl, hb, ?_, r⟩
  rw [hg.block g (Array.getElem?_eq_some_iff.1 hgg).1 (by rcases hne with h | h
                                                          · simpa [Value.ownBlock] using h
                                                          · rw [h]; simp)]
  exact hgg
theorem alloc (h : BRow w base v l) (o : Obj) : BRow (w.alloc o) base v l := h.kept (World.grownBy_alloc w o none) (.inr rfl)
theorem drew (h : BRow w base v l) : BRow w.drew base v l := h
theorem drewN (h : BRow w base v l) (n : Nat) : BRow (w.drewN n) base v l := h
theorem below {w' : World} (h : BRow w base v l) (hb : Below w.heap.size w w') : BRow w' base v l := by
  obtain ⟨g, cap, cur, fz, rfl, hbs, hgg, r⟩ := h
  exact ⟨g, cap, cur, fz, rfl, hbs, (hb.block g (Array.getElem?_eq_some_iff.1 hgg).1).trans hgg, r⟩
/-- '[]byte(s)'. -/
theorem ofText (w : World) (s : ByteArray) (hs : s.size ≤ maxLen) (hb : base ≤ w.heap.size) : BRow (Lib.bytesWorld w 5 s) base (.slice (some ⟨w.heap.size, 0, none⟩) s.size (grownCap w s.size 0 5)) s.data.toList := by
  have hge := grownCap_ge w s.size 0 5
  have hsz : (Lib.bytesCells w 5 s).size = grownCap w s.size 0 5 := by
    unfold Lib.bytesCells
    have : s.data.size = s.size := rfl
    simp
    omega
  refine ⟨w.heap.size, _, _, _, rfl, hb, Lib.bytesWorld_at_new w _ s, .inr ?_, ?_, grownCap_le_maxLen w _ _ _ hs, hsz, ?_⟩
  · exact hsz
  · exact hge
  · intro j hj
    have := Lib.bytesWorld_cell w 5 s j hj
    rw [cell_of_row _ _ j _ _ _ (Lib.bytesWorld_at_new w _ s)] at this
    exact this
/-- One byte more. -/
theorem run_more (h : BRow w base v l) (hl : l.length < 1000000) (hbase : base ≤ w.heap.size) (ab c : Nat) (x : UInt8) (hx : w.cell? ⟨ab, 0, none⟩ = some (.int .u8 (x.toNat : Int))) (ty : TypeId) :
    ∃ v' w', (Builtin.append_ #[55, 55] ty #[v, .slice (some ⟨ab, 0, none⟩) 1 c]).run Tryd.prog w = .ok v' w' ∧ BRow w' base v' (l ++ [x]) ∧ w.grownBy w' v.ownBlock := by
  obtain ⟨g, cap, cur, fz, rfl, hb, hg, hfz, hcap, hmax, hsz, hc⟩ := h
  obtain ⟨i0, hi, hz0, hz1, hz2⟩ := info_parts info5
  have hnews : ∀ j u, [Value.int .u8 (x.toNat : Int)][j]? = some u → w.cell? ((⟨ab, 0, none⟩ : Addr).add j) = some u := by
    intro j u hj
    match j, hj with
    | 0, hj => simp at hj; subst hj; simpa [Addr.add] using hx
  have hbyte : ∀ j, j < (l ++ [x]).length → byteAt (l ++ [x]) j = if j < l.length then byteAt l j else x := by
    intro j hj
    unfold byteAt
    simp only [List.getD_eq_getElem?_getD, List.getElem?_append]
    split
    · rfl
    · have : j - l.length = 0 := by simp at hj; omega
      rw [this]; rfl
  by_cases hroom : l.length + 1 ≤ cap
  · have hcell : w.cell? ⟨g, l.length, none⟩ = cur[l.length]? := cell_of_row w g l.length cur _ fz hg
    have hfr : w.frozen? ⟨g, l.length, none⟩ = false := by
      unfold World.frozen?
      simp only [hg]
      rcases hfz with rfl | h1
      · simp
      · simp; omega
    have hsome : cur[l.length]? = some (cur[l.length]'(by omega)) := Array.getElem?_eq_getElem _
    refine ⟨.slice (some ⟨g, 0, none⟩) (l.length + 1) cap, w.setCell ⟨g, l.length, none⟩ (.int .u8 (x.toNat : Int)), ?_, ?_, ?_⟩
    · have hf := run_firstCells_some (P := Tryd.prog) w i0.size 1 ⟨ab, 0, none⟩ 1 c [Value.int .u8 (x.toNat : Int)] (by rw [hz1]; rfl) hnews
      rw [hz1] at hf
      have hst : (storeCells ⟨g, l.length, none⟩ [Value.int .u8 (x.toNat : Int)]).run Tryd.prog w = .ok () (w.setCell ⟨g, l.length, none⟩ (.int .u8 (x.toNat : Int))) := by
        have h0 := hcell.trans hsome
        simp [storeCells, run_store_int, stored, h0, hfr, Addr.add]
      simp [Builtin.append_, run_underlying Tryd.underlying55, sizeOf, typeInfo, hi, Builtin.lenOf, hroom, hf, Addr.add_lit, hz1, hst]
    · have he := setCell_eq_setRow w g l.length cur _ fz (.int .u8 (x.toNat : Int)) hg
      refine ⟨g, cap, cur.setIfInBounds l.length (.int .u8 (x.toNat : Int)), fz, by simp, hb, ?_, hfz, by simpa using hroom, hmax, by simpa using hsz, fun j hj => ?_⟩
      · rw [he]; exact setRow_heap w g cur _ _ fz hg
      · rw [hbyte j hj, Array.getElem?_setIfInBounds]
        by_cases e : l.length = j
        · rw [if_pos e, if_pos (show l.length < cur.size by omega), if_neg (show ¬ j < l.length by omega)]
        · rw [if_neg e]
          have hj' : j < l.length := by simp at hj; omega
          rw [if_pos hj']
          exact hc j hj'
    · exact ⟨rfl, rfl, rfl, by simp, fun k _ hk => heap_setCell_other w _ k _ (fun e => hk (by simp [Value.ownBlock, e]))⟩
  · have hold : ∀ j u, (l.map fun b => Value.int .u8 (b.toNat : Int))[j]? = some u → w.cell? ((⟨g, 0, none⟩ : Addr).add j) = some u := by
      intro j u hu
      have hj : j < l.length := by
        have := (List.getElem?_eq_some_iff.1 hu).1
        simpa using this
      rw [Addr.add_lit, Nat.zero_add, cell_of_row w g j cur _ fz hg, hc j hj, ← hu]
      simp [byteAt, hj]
    have hlc : l.length = cap := by omega
    have hr := run_append_grow (P := Tryd.prog) w 55 ty 5 i0 _ Tryd.underlying55 hi hz0 ⟨g, 0, none⟩ l.length cap (l.map fun b => Value.int .u8 (b.toNat : Int)) (by rw [hz1]; simp) hold ⟨ab, 0, none⟩ 1 c [Value.int .u8 (x.toNat : Int)] (by rw [hz1]; rfl) hnews (by omega) (by omega) (growslice_fits (by omega) (by rw [hz2]; omega))
    have hge := grownCap_ge w (l.length + 1) cap 5
    refine ⟨_, _, hr, ⟨w.heap.size, grownCap w (l.length + 1) cap 5, _, (0, 0), by simp, hbase, heap_alloc_new w.drew _, .inl rfl, by simpa using hge, grownCap_le_maxLen w _ _ _ (by unfold maxLen; omega), ?_, fun j hj => ?_⟩, ⟨rfl, rfl, rfl, by simp, fun k hk _ => heap_alloc_old w.drew _ hk⟩⟩
    · simp [size_zeroCells, Value.cells]
      omega
    · have hj2 : j < l.length + 1 := by simpa using hj
      rw [hbyte j hj, Array.getElem?_append_left (by simp; omega)]
      by_cases e : j < l.length
      · rw [if_pos e, Array.getElem?_append_left (by simpa using e)]
        simp [byteAt, e]
      · have e2 : j = l.length := by omega
        rw [if_neg e, Array.getElem?_append_right (by simp; omega)]
        simp [e2]
/-- .. for the walk: 'go_wp2_with (at_builtin; refine BRow.wpList_more rfl S X rfl HROW .. ?_)'. -/
theorem wpList_more {ops : Array Oper} {rest : List Oper} {o : Oper} {a : Act} {Q : Exit → Act → World → Prop} (hgd : o.guard = none) (s x : Operand)
    (ho : o.op = .call { callee := .builtin .append, args := #[s, x], argTypes := #[55, 55] })
    (hs : a.eval s = v) (h : BRow w base v l) (hl : l.length < 1000000) (hbase : base ≤ w.heap.size) (ab c : Nat) (y : UInt8) (hx : a.eval x = .slice (some ⟨ab, 0, none⟩) 1 c) (hy : w.cell? ⟨ab, 0, none⟩ = some (.int .u8 (y.toNat : Int)))
    (hK : ∀ g cap w', BRow w' base (.slice (some ⟨g, 0, none⟩) (l.length + 1) cap) (l ++ [y]) → w.grownBy w' v.ownBlock → wpList Tryd.prog ops Q rest (a.put o.dst (.slice (some ⟨g, 0, none⟩) (l.length + 1) cap)) w') : wpList Tryd.prog ops Q (o :: rest) a w := by
  refine wpList_plain hgd fun K hK' => ?_
  obtain ⟨v', w', hrun, h1, h2⟩ := h.run_more hl hbase ab c y hy o.type
  obtain ⟨g, cap, rfl, _, _, _⟩ := h1.form
  simp only [List.length_append, List.length_cons, List.length_nil, Nat.zero_add] at h1 hrun
  unfold Oper.wp
  simp [execOp, ho, resolve, invoke, builtin, hs, hx, hrun, Result.andThen]
  exact hK' _ _ (hK g cap w' h1 h2)
/-- A row that the call made: nothing that was there ahead of it is touched. -/
theorem grown {w0 w' : World} (h : BRow w base v l) (hb : Below base w0 w) (hg : w.grownBy w' v.ownBlock) (hbase : base ≤ w.heap.size) : Below base w0 w' := by
  obtain ⟨g, cap, rfl, hbg, _, _⟩ := h.form
  exact hb.grown hg hbase (fun k hk => by simp [Value.ownBlock] at hk; omega)
/-- '[]byte(s)' in the walk: the world is new, the row one's own. -/
theorem wpList_text {ops : Array Oper} {rest : List Oper} {o : Oper} {a : Act} {Q : Exit → Act → World → Prop} {base : Nat} {w : World} (hgd : o.guard = none) (x : Operand) (ho : o.op = .convert 9 55 x)
    (q : ByteArray) (hx : a.eval x = .string q) (hq : q.size ≤ maxLen) (hbase : base ≤ w.heap.size) (l : List UInt8) (hl : q.data.toList = l)
    (hK : ∀ g cap w', BRow w' base (.slice (some ⟨g, 0, none⟩) l.length cap) l → w.grownBy w' none → wpList Tryd.prog ops Q rest (a.put o.dst (.slice (some ⟨g, 0, none⟩) l.length cap)) w') : wpList Tryd.prog ops Q (o :: rest) a w := by
  subst hl
  refine wpList_plain hgd fun K hK' => ?_
  have hrun := Lib.run_convert_string_bytes (P := Tryd.prog) w 9 55 5 q Tryd.underlying9 Tryd.underlying55 Tryd.underlying5
  have hg : w.grownBy (Lib.bytesWorld w 5 q) none := ⟨by unfold Lib.bytesWorld World.freeze; split <;> rfl, by unfold Lib.bytesWorld World.freeze; split <;> rfl, by unfold Lib.bytesWorld World.freeze; split <;> rfl, by rw [Lib.bytesWorld_size]; omega, fun k hk _ => Lib.bytesWorld_at_old w _ q k hk⟩
  unfold Oper.wp
  simp [execOp, ho, hx, hrun, Result.andThen]
  exact hK' _ _ (hK _ _ _ (ofText w q hq hbase) hg)
end BRow
/-- A slice's length. -/
def lenV : Value → Nat
  | .slice _ n _ => n
  | _ => 0
end Go.Proofs.YthmpmpofhpkmjaaDoor
