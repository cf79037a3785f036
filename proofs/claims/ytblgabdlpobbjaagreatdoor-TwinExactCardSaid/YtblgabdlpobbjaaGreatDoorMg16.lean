/-
  A row of bytes of one's own, to which one byte more is appended: of whatever origin, '[]byte(s)' too. No program's function here.
  The document's own sums: Of: the walk. Condition: at most a hundred thousand bytes.
  The document's own answer for sealed texts: Size, Bytes. Condition: texts of at most 100000 bytes.
  The document's own answer for sealed texts: Get. Condition: from one to 4096 sectors.
-/
import Derived.Test.YtblgabdlpobbjaaGreatDoorMg15
import Derived.Test.YtblgabdlpobbjaaGreatDoorMg4
import Derived.Test.YtblgabdlpobbjaaGreatDoorMg7
import Derived.Test.YtblgabdlpobbjaaGreatDoorMg10
import Derived.Test.YtblgabdlpobbjaaGreatDoorMg2
import Derived.Test.YtblgabdlpobbjaaGreatDoorMg6
import Derived.Lib.ConvBytes
import Derived.Laws.AppendOwn
import Derived.BigQuiet
set_option maxRecDepth 100000
namespace Go.Proofs.YtblgabdlpobbjaaGreatDoor
open Go.ChangeShapes Go.WideShapes Go.ChangeAt Go.RowKit Sh

/-- The slice v owns the bytes l; of its row nothing within is frozen. -/
def BRow (w : World) (base : Nat) (v : Value) (l : List UInt8) : Prop :=
  ∃ g cap cur fz, v = .slice (some ⟨g, 0, none⟩) l.length cap ∧ base ≤ g ∧ w.heap[g]? = some (.cells cur 5 fz) ∧ (fz = (0, 0) ∨ fz.1 = cap) ∧ l.length ≤ cap ∧ cap ≤ maxLen ∧ cur.size = cap ∧
    ∀ j, j < l.length → cur[j]? = some (.int .u8 ((byteAt l j).toNat : Int))
namespace BRow
variable {w : World} {base : Nat} {v : Value} {l : List UInt8}
theorem cell {g cap : Nat} (h : BRow w base (.slice (some ⟨g, 0, none⟩) l.length cap) l) (j : Nat) (hj : j < l.length) : w.cell? ⟨g, j, none⟩ = some (.int .u8 ((byteAt l j).toNat : Int)) := by
  obtain ⟨g', cap', cur, fz, hv, _, hg, _, _, _, _, hc⟩ := h
  injection hv with h1 _ _
  injection h1 with h1
  injection h1 with h1 _ _
  subst h1
  rw [cell_of_row w g j cur _ fz hg]
  exact hc j hj
theorem form (h : BRow w base v l) : ∃ g cap, v = .slice (some ⟨g, 0, none⟩) l.length cap ∧ base ≤ g ∧ g < w.heap.size ∧ BRow w base (.slice (some ⟨g, 0, none⟩) l.length cap) l := by
  obtain ⟨g, cap, cur, fz, rfl, hb, hg, r⟩ := h
  exact ⟨g, cap, rfl, hb, (Array.getElem?_eq_some_iff.1 hg).1, g, cap, cur, fz, rfl, hb, hg, r⟩
theorem kept {w' : World} {row : Option Nat} (h : BRow w base v l) (hg : w.grownBy w' row) (hne : v.ownBlock ≠ row ∨ row = none) : BRow w' base v l := by
  obtain ⟨g, cap, cur, fz, rfl, hb, hgg, r⟩ := h
  refine ⟨g, cap, cur, fz, rfl, hb, ?_, r⟩
  rw [hg.block g (Array.getElem?_eq_some_iff.1 hgg).1 (by rcases hne with h | h
                                                          · simpa [Value.ownBlock] using h
                                                          · rw [h]; simp)]
  exact hgg
theorem alloc (h : BRow w base v l) (o : Obj) : BRow (w.alloc o) base v l := h.kept (World.grownBy_alloc w o none) (.inr rfl)
theorem drew (h : BRow w base v l) : BRow w.drew base v l := h
theorem drewN (h : BRow w base v l) (n : Nat) : BRow (w.drewN n) base v l := h
theorem below {w' : World} (h : BRow w base v l) (hb : Below w.heap.size w w') : BRow w' base v l := by
  obtain ⟨g, cap, cur, fz, rfl, hbs, hgg, r⟩ := h
  exact ⟨g, cap, cur, fz, rfl, hbs, (hb.block g (Array.getElem?_eq_some_iff.1 hgg).1).trans hgg, r⟩
/-- '[]byte(s)'. -/
theorem ofText (w : World) (s : ByteArray) (hs : s.size ≤ maxLen) (hb : base ≤ w.heap.size) : BRow (Lib.bytesWorld w 5 s) base (.slice (some ⟨w.heap.size, 0, none⟩) s.size (grownCap w s.size 0 5)) s.data.toList := by
  have hge := grownCap_ge w s.size 0 5
  have hsz : (Lib.bytesCells w 5 s).size = grownCap w s.size 0 5 := by
    unfold Lib.bytesCells
    have : s.data.size = s.size := rfl
    simp
    omega
  refine ⟨w.heap.size, _, _, _, rfl, hb, Lib.bytesWorld_at_new w _ s, .inr ?_, ?_, grownCap_le_maxLen w _ _ _ hs, hsz, ?_⟩
  · exact hsz
  · exact hge
  · intro j hj
    have := Lib.bytesWorld_cell w 5 s j hj
    rw [cell_of_row _ _ j _ _ _ (Lib.bytesWorld_at_new w _ s)] at this
    exact this
/-- One byte more. -/
theorem run_more (h : BRow w base v l) (hl : l.length < 1000000) (hbase : base ≤ w.heap.size) (ab c : Nat) (x : UInt8) (hx : w.cell? ⟨ab, 0, none⟩ = some (.int .u8 (x.toNat : Int))) (ty : TypeId) :
    ∃ v' w', (Builtin.append_ #[40, 40] ty #[v, .slice (some ⟨ab, 0, none⟩) 1 c]).run Tryz.prog w = .ok v' w' ∧ BRow w' base v' (l ++ [x]) ∧ w.grownBy w' v.ownBlock := by
  obtain ⟨g, cap, cur, fz, rfl, hb, hg, hfz, hcap, hmax, hsz, hc⟩ := h
  obtain ⟨i0, hi, hz0, hz1, hz2⟩ := info_parts info5
  have hnews : ∀ j u, [Value.int .u8 (x.toNat : Int)][j]? = some u → w.cell? ((⟨ab, 0, none⟩ : Addr).add j) = some u := by
    intro j u hj
    match j, hj with
    | 0, hj => simp at hj; subst hj; simpa [Addr.add] using hx
  have hbyte : ∀ j, j < (l ++ [x]).length → byteAt (l ++ [x]) j = if j < l.length then byteAt l j else x := by
    intro j hj
    unfold byteAt
    simp only [List.getD_eq_getElem?_getD, List.getElem?_append]
    split
    · rfl
    · have : j - l.length = 0 := by simp at hj; omega
      rw [this]; rfl
  by_cases hroom : l.length + 1 ≤ cap
  · have hcell : w.cell? ⟨g, l.length, none⟩ = cur[l.length]? := cell_of_row w g l.length cur _ fz hg
    have hfr : w.frozen? ⟨g, l.length, none⟩ = false := by
      unfold World.frozen?
      simp only [hg]
      rcases hfz with rfl | h1
      · simp
      · simp; omega
    have hsome : cur[l.length]? = some (cur[l.length]'(by omega)) := Array.getElem?_eq_getElem _
    refine ⟨.slice (some ⟨g, 0, none⟩) (l.length + 1) cap, w.setCell ⟨g, l.length, none⟩ (.int .u8 (x.toNat : Int)), ?_, ?_, ?_⟩
    · have hf := run_firstCells_some (P := Tryz.prog) w i0.size 1 ⟨ab, 0, none⟩ 1 c [Value.int .u8 (x.toNat : Int)] (by rw [hz1]; rfl) hnews
      rw [hz1] at hf
      have hst : (storeCells ⟨g, l.length, none⟩ [Value.int .u8 (x.toNat : Int)]).run Tryz.prog w = .ok () (w.setCell ⟨g, l.length, none⟩ (.int .u8 (x.toNat : Int))) := by
        have h0 := hcell.trans hsome
        simp [storeCells, run_store_int, stored, h0, hfr, Addr.add]
      simp [Builtin.append_, run_underlying Tryz.underlying40, sizeOf, typeInfo, hi, Builtin.lenOf, hroom, hf, Addr.add_lit, hz1, hst]
    · have he := setCell_eq_setRow w g l.length cur _ fz (.int .u8 (x.toNat : Int)) hg
      refine ⟨g, cap, cur.setIfInBounds l.length (.int .u8 (x.toNat : Int)), fz, by simp, hb, ?_, hfz, by simpa using hroom, hmax, by simpa using hsz, fun j hj => ?_⟩
      · rw [he]; exact setRow_heap w g cur _ _ fz hg
      · rw [hbyte j hj, Array.getElem?_setIfInBounds]
        by_cases e : l.length = j
        · rw [if_pos e, if_pos (show l.length < cur.size by omega), if_neg (show ¬ j < l.length by omega)]
        · rw [if_neg e]
          have hj' : j < l.length := by simp at hj; omega
          rw [if_pos hj']
          exact hc j hj'
    · exact ⟨rfl, rfl, rfl, by simp, fun k _ hk => heap_setCell_other w _ k _ (fun e => hk (by simp [Value.ownBlock, e]))⟩
  · have hold : ∀ j u, (l.map fun b => Value.int .u8 (b.toNat : Int))[j]? = some u → w.cell? ((⟨g, 0, none⟩ : Addr).add j) = some u := by
      intro j u hu
      have hj : j < l.length := by
        have := (List.getElem?_eq_some_iff.1 hu).1
        simpa using this
      rw [Addr.add_lit, Nat.zero_add, cell_of_row w g j cur _ fz hg, hc j hj, ← hu]
      simp [byteAt, hj]
    have hlc : l.length = cap := by omega
    have hr := run_append_grow (P := Tryz.prog) w 40 ty 5 i0 _ Tryz.underlying40 hi hz0 ⟨g, 0, none⟩ l.length cap (l.map fun b => Value.int .u8 (b.toNat : Int)) (by rw [hz1]; simp) hold ⟨ab, 0, none⟩ 1 c [Value.int .u8 (x.toNat : Int)] (by rw [hz1]; rfl) hnews (by omega) (by omega) (growslice_fits (by omega) (by rw [hz2]; omega))
    have hge := grownCap_ge w (l.length + 1) cap 5
    refine ⟨_, _, hr, ⟨w.heap.size, grownCap w (l.length + 1) cap 5, _, (0, 0), by simp, hbase, heap_alloc_new w.drew _, .inl rfl, by simpa using hge, grownCap_le_maxLen w _ _ _ (by unfold maxLen; omega), ?_, fun j hj => ?_⟩, ⟨rfl, rfl, rfl, by simp, fun k hk _ => heap_alloc_old w.drew _ hk⟩⟩
    · simp [size_zeroCells, Value.cells]
      omega
    · have hj2 : j < l.length + 1 := by simpa using hj
      rw [hbyte j hj, Array.getElem?_append_left (by simp; omega)]
      by_cases e : j < l.length
      · rw [if_pos e, Array.getElem?_append_left (by simpa using e)]
        simp [byteAt, e]
      · have e2 : j = l.length := by omega
        rw [if_neg e, Array.getElem?_append_right (by simp; omega)]
        simp [e2]
/-- .. for the walk: 'go_wp2_with (at_builtin; refine BRow.wpList_more rfl S X rfl HROW .. ?_)'. -/
theorem wpList_more {ops : Array Oper} {rest : List Oper} {o : Oper} {a : Act} {Q : Exit → Act → World → Prop} (hgd : o.guard = none) (s x : Operand)
    (ho : o.op = .call { callee := .builtin .append, args := #[s, x], argTypes := #[40, 40] })
    (hs : a.eval s = v) (h : BRow w base v l) (hl : l.length < 1000000) (hbase : base ≤ w.heap.size) (ab c : Nat) (y : UInt8) (hx : a.eval x = .slice (some ⟨ab, 0, none⟩) 1 c) (hy : w.cell? ⟨ab, 0, none⟩ = some (.int .u8 (y.toNat : Int)))
    (hK : ∀ g cap w', BRow w' base (.slice (some ⟨g, 0, none⟩) (l.length + 1) cap) (l ++ [y]) → w.grownBy w' v.ownBlock → wpList Tryz.prog ops Q rest (a.put o.dst (.slice (some ⟨g, 0, none⟩) (l.length + 1) cap)) w') : wpList Tryz.prog ops Q (o :: rest) a w := by
  refine wpList_plain hgd fun K hK' => ?_
  obtain ⟨v', w', hrun, h1, h2⟩ := h.run_more hl hbase ab c y hy o.type
  obtain ⟨g, cap, rfl, _, _, _⟩ := h1.form
  simp only [List.length_append, List.length_cons, List.length_nil, Nat.zero_add] at h1 hrun
  unfold Oper.wp
  simp [execOp, ho, resolve, invoke, builtin, hs, hx, hrun, Result.andThen]
  exact hK' _ _ (hK g cap w' h1 h2)
/-- A row that the call made: nothing that was there ahead of it is touched. -/
theorem grown {w0 w' : World} (h : BRow w base v l) (hb : Below base w0 w) (hg : w.grownBy w' v.ownBlock) (hbase : base ≤ w.heap.size) : Below base w0 w' := by
  obtain ⟨g, cap, rfl, hbg, _, _⟩ := h.form
  exact hb.grown hg hbase (fun k hk => by simp [Value.ownBlock] at hk; omega)
/-- '[]byte(s)' in the walk: the world is new, the row one's own. -/
theorem wpList_text {ops : Array Oper} {rest : List Oper} {o : Oper} {a : Act} {Q : Exit → Act → World → Prop} {base : Nat} {w : World} (hgd : o.guard = none) (x : Operand) (ho : o.op = .convert 9 40 x)
    (q : ByteArray) (hx : a.eval x = .string q) (hq : q.size ≤ maxLen) (hbase : base ≤ w.heap.size) (l : List UInt8) (hl : q.data.toList = l)
    (hK : ∀ g cap w', BRow w' base (.slice (some ⟨g, 0, none⟩) l.length cap) l → w.grownBy w' none → wpList Tryz.prog ops Q rest (a.put o.dst (.slice (some ⟨g, 0, none⟩) l.length cap)) w') : wpList Tryz.prog ops Q (o :: rest) a w := by
  subst hl
  refine wpList_plain hgd fun K hK' => ?_
  have hrun := Lib.run_convert_string_bytes (P := Tryz.prog) w 9 40 5 q Tryz.underlying9 Tryz.underlying40 Tryz.underlying5
  have hg : w.grownBy (Lib.bytesWorld w 5 q) none := ⟨by unfold Lib.bytesWorld World.freeze; split <;> rfl, by unfold Lib.bytesWorld World.freeze; split <;> rfl, by unfold Lib.bytesWorld World.freeze; split <;> rfl, by rw [Lib.bytesWorld_size]; omega, fun k hk _ => Lib.bytesWorld_at_old w _ q k hk⟩
  unfold Oper.wp
  simp [execOp, ho, hx, hrun, Result.andThen]
  exact hK' _ _ (hK _ _ _ (ofText w q hq hbase) hg)
end BRow
/-- A slice's length. -/
def lenV : Value → Nat
  | .slice _ n _ => n
  | _ => 0
end Go.Proofs.YtblgabdlpobbjaaGreatDoor
namespace Go.Proofs.YtblgabdlpobbjaaGreatDoor
open Go.ChangeShapes Go.WideShapes Go.ChangeAt Go.RowKit Sh

/-- What holds while the bytes grow: nothing that was there has turned, the answer's row is empty, v owns m. -/
structure Ow (w wr : World) (v : Value) (m : List UInt8) : Prop where
  below : Below w.heap.size w wr
  size : w.heap.size + 1 ≤ wr.heap.size
  res : wr.rowIs w.heap.size 50 32 (fun _ => .int .u8 0)
  row : BRow wr (w.heap.size + 1) v m
theorem Ow.more {w wr w' : World} {v v' : Value} {m m' : List UInt8} (h : Ow w wr v m) (o : Obj) (hg : (wr.alloc o).grownBy w' v.ownBlock) (hr : BRow w' (w.heap.size + 1) v' m') : Ow w w' v' m' := by
  have hs := h.size
  obtain ⟨g, cap, rfl, hbg, hlt, _⟩ := h.row.form
  have hk : ∀ k, (Value.slice (some ⟨g, 0, none⟩) m.length cap).ownBlock = some k → w.heap.size ≤ k := fun k hk => by simp [Value.ownBlock] at hk; omega
  have hres := h.res.alloc o
  refine ⟨(h.below.alloc (by omega) o).grown hg (by simp; omega) hk, ?_, ?_, hr⟩
  · have := hg.size; simp at this; omega
  · obtain ⟨c, hc, r⟩ := hres
    refine ⟨c, ?_, r⟩
    rw [hg.block w.heap.size (by simp; omega) (by simp [Value.ownBlock]; omega)]
    exact hc

/-- What holds while the blocks go in: the bytes are there, the eight words lie in a row of their own. -/
structure Hw (w wr : World) (v : Value) (m : List UInt8) (g : Nat) (s : St) : Prop where
  ow : Ow w wr v m
  hrow : wr.rowIs g 88 8 (st6 s)
  apart : w.heap.size < g ∧ ∀ k, v.ownBlock = some k → k < g
theorem Hw.drew {w wr : World} {v : Value} {m : List UInt8} {g : Nat} {s : St} (h : Hw w wr v m g s) : Hw w wr.drew v m g s :=
  ⟨⟨below_drewN h.ow.below 1, h.ow.size, h.ow.res, h.ow.row⟩, h.hrow, h.apart⟩
theorem Hw.below {w wr w' : World} {v : Value} {m : List UInt8} {g : Nat} {s : St} (h : Hw w wr v m g s) (hb : Below wr.heap.size wr w') : Hw w w' v m g s := by
  have hs := h.ow.size
  have hl := h.hrow.lt
  exact ⟨⟨h.ow.below.trans (hb.mono (by omega)), by have := hb.size; omega, h.ow.res.of_block (hb.block _ (by omega)), h.ow.row.below hb⟩, h.hrow.of_block (hb.block _ hl), h.apart⟩
theorem Hw.put {w wr : World} {v : Value} {m : List UInt8} {g : Nat} {s : St} (h : Hw w wr v m g s) (s' : St) : Hw w (wr.setRow g (vals 8 (st6 s'))) v m g s' := by
  have ha := h.apart
  refine ⟨⟨below_setRow' h.ow.below (by omega) _, by simpa using h.ow.size, row_setRow_other h.ow.res (by omega), ?_⟩, row_setRow h.hrow, ha⟩
  obtain ⟨g', cap, cur, fz, rfl, hb, hg, r⟩ := h.ow.row
  have := ha.2 g' rfl
  exact ⟨g', cap, cur, fz, rfl, hb, (setRow_other wr g g' _ (by omega)).trans hg, r⟩

/-- The k-th block of a text. -/
def blk (m : List UInt8) (k : Nat) : ByteArray := ⟨((List.range 64).map fun j => byteAt m (64 * k + j)).toArray⟩
theorem blk_size (m : List UInt8) (k : Nat) : (blk m k).size = 64 := by unfold blk; simp [ByteArray.size]
theorem blk_mixed (m : List UInt8) (k : Nat) (s : St) : mixed s (byteAt (blk m k).data.toList) = mixed s (fun j => byteAt m (64 * k + j)) := by
  apply mixed_congr
  intro i hi
  unfold blk
  simp [byteAt, hi]
theorem hw_cells {w wr : World} {g cap n : Nat} {m : List UInt8} {gx : Nat} {s : St} (h : Hw w wr (.slice (some ⟨g, 0, none⟩) n cap) m gx s) : n = m.length ∧ n ≤ cap ∧ ∀ j, j < m.length → wr.cell? ⟨g, j, none⟩ = some (.int .u8 ((byteAt m j).toNat : Int)) := by
  obtain ⟨g', cap', cur, fz, e, hb, hg, hfz, hc, r⟩ := h.ow.row
  injection e with e1 e2 e3
  injection e1 with e1
  injection e1 with e1 _ _
  subst e1
  refine ⟨e2, by omega, fun j hj => ?_⟩
  rw [cell_of_row wr g j cur _ fz hg]
  exact r.2.2 j hj

/-- What holds while the answer's bytes are made: the words are there, the first n bytes too. -/
structure Od (w wr : World) (gx go : Nat) (s : St) (n : Nat) : Prop where
  below : Below w.heap.size w wr
  res : wr.rowIs w.heap.size 50 32 (fun _ => .int .u8 0)
  hrow : wr.rowIs gx 88 8 (st6 s)
  out : wr.rowIs go 50 32 (fun j => .int .u8 (if j < n then ((sumByte s j).toNat : Int) else 0))
  apart : w.heap.size < gx ∧ gx < go
theorem Od.put {w wr : World} {gx go : Nat} {s : St} {n : Nat} (h : Od w wr gx go s n) {x : Int} (hx : x = ((sumByte s n).toNat : Int)) : Od w (wr.setCell ⟨go, n, none⟩ (.int .u8 x)) gx go s (n + 1) := by
  have ha := h.apart
  refine ⟨h.below.setCell (by show w.heap.size ≤ go; omega) _, h.res.setOther (by show w.heap.size ≠ go; omega) _, h.hrow.setOther (by show gx ≠ go; omega) _, (h.out.set n _).congr fun j _ => ?_, ha⟩
  by_cases e : j = n
  · subst e; rw [if_pos rfl, hx, if_pos (by omega)]
  · rw [if_neg e]
    by_cases hlt : j < n
    · rw [if_pos hlt, if_pos (by omega)]
    · rw [if_neg hlt, if_neg (by omega)]
theorem sum_byte6 (s : St) (n : Nat) : t6 (zx (s.at (n / 4))) / 2 ^ (24 - 8 * (n % 4)) % 256 = ((sumByte s n).toNat : Int) := by
  unfold sumByte
  rw [tn_zx, UInt8.toNat_ofNat']
  unfold tn
  simp
theorem hi32 : ∀ f, (Tryz.prog.info? 50).map (·.size) = some (vals 32 f).size := fun f => info_vals f (by kernel_rfl)

theorem be8_take (n m : Nat) (h : m < 8) : (be8 n).take (m + 1) = (be8 n).take m ++ [UInt8.ofNat (n / 2 ^ (8 * (7 - m)))] := by
  rw [List.take_add_one]
  congr 1
  unfold be8
  rw [List.getElem?_map, List.getElem?_range h]
  rfl
theorem count_byte (n m : Nat) : (8 * (n : Int)) / 2 ^ (8 * (7 - m)) % 256 = (((UInt8.ofNat (8 * n / 2 ^ (8 * (7 - m)))).toNat : Nat) : Int) := by
  rw [UInt8.toNat_ofNat']
  simp

set_option maxRecDepth 100000 in
set_option maxHeartbeats 1600000 in
theorem refOf_any (q : ByteArray) (w : World) (hq : q.size < 100000) :
    Calls Tryz.prog 32 #[.string q] w fun e w' => e = .returned (.agg (digV q.data.toList)) ∧ Below w.heap.size w w' := by
  obtain ⟨l, hl⟩ : ∃ l, q.data.toList = l := ⟨_, rfl⟩
  have hll : l.length = q.size := by rw [← hl]; rfl
  have e0 : IntKind.i64.wrap (8 * (q.size : Int)) = 8 * (q.size : Int) := IntWalk.i64_in _ (by omega)
  have e1 : IntKind.u64.wrap (8 * (q.size : Int)) = 8 * (q.size : Int) := by rw [wrap_u64']; omega
  have HQ := Lib.hid hq
  have HL := Lib.hid hl
  have HLL := Lib.hid hll
  rw [hl]
  clear hl hll hq
  go_enter Tryz.func32, Tryz.ntmps32
  go_wp2_with (first
    | (refine BRow.wpList_text (base := w.heap.size + 1) rfl (.tmp 14) rfl q rfl (by have := HQ.out; unfold maxLen; omega) (by simp) l HL.out ?_; intro g cap w1 hrow hgr)
    | (at_builtin; refine BRow.wpList_more (base := w.heap.size + 1) rfl (.tmp 16) (.tmp 17) rfl rfl (hrow.alloc _) (by have := HQ.out; have := HLL.out; omega) (by have := hgr.size; simp at this ⊢; omega) w1.heap.size 1 128 rfl (by simp) ?_; intro g2 cap2 w2 hrow2 hgr2; clear e0 e1))
  have hO : Ow w w2 (.slice (some ⟨g2, 0, none⟩) (l.length + 1) cap2) (l ++ [128]) := by
    have hs1 := hgr.size
    have h1 : Ow w w1 (.slice (some ⟨g, 0, none⟩) l.length cap) l := by
      refine ⟨((Below.refl _ _).alloc (Nat.le_refl _) _).grown hgr (by simp) (fun k hk => by cases hk), by simpa using hs1, ?_, hrow⟩
      obtain ⟨c, hc, r⟩ := row_alloc (w := w) (t := 50) (n := 32) (f := fun _ => .int .u8 0) w.heap.size rfl rfl
      refine ⟨c, ?_, r⟩
      rw [hgr.block w.heap.size (by simp) (by simp)]
      exact hc
    exact h1.more _ hgr2 hrow2
  clear hrow hgr hrow2 hgr2
  go_loopw [4] (fun v wr => ∃ (z g cap : Nat), z ≤ zeros l.length ∧ v = .slice (some ⟨g, 0, none⟩) (l.length + 1 + z) cap ∧ Ow w wr v (l ++ [128] ++ List.replicate z 0)) (fun v _ => zeros l.length + l.length + 1 - lenV v)
  case atStart => exact ⟨0, g2, cap2, Nat.zero_le _, rfl, by simpa using hO⟩
  case round =>
    clear hO
    obtain ⟨z, g, cap, hz, rfl, hO⟩ := hrel
    by_cases hlt : z < zeros l.length
    · have ht : (((l.length : Int) + 1 + (z : Int)) % 64 != 56) = true := by unfold zeros at hlt hz; rw [bne_iff_ne]; omega
      go_wp2_with (at_builtin; refine BRow.wpList_more (base := w.heap.size + 1) rfl (.tmp 23) (.tmp 24) rfl rfl (hO.row.alloc _) (by have := HQ.out; have := HLL.out; unfold zeros at hlt; simp; omega) (by have := hO.size; simp; omega) wr.heap.size 1 0 rfl (by simp) ?_; intro g5 cap5 w5 hrow5 hgr5)
      go_roundw
      case rel =>
        refine ⟨z + 1, g5, cap5, by omega, by simp; omega, ?_⟩
        have h := hO.more _ hgr5 hrow5
        have e : l ++ [128] ++ List.replicate z 0 ++ [(0 : UInt8)] = l ++ [128] ++ List.replicate (z + 1) 0 := by rw [List.replicate_succ']; simp
        rw [e] at h
        simpa using h
      case measure => simp [lenV]; omega
    · have HZ := Lib.hid (show z = zeros l.length by omega)
      have ht : (((l.length : Int) + 1 + (z : Int)) % 64 != 56) = false := by
        have := HZ.out; unfold zeros at this
        have h : ((l.length : Int) + 1 + (z : Int)) % 64 = 56 := by omega
        rw [h]; rfl
      go_wp2
      go_loopw [4, 5] (fun v i wr => ∃ (m g cap : Nat), m ≤ 8 ∧ i = .int .i64 (7 - (m : Int)) ∧ v = .slice (some ⟨g, 0, none⟩) (l.length + 1 + z + m) cap ∧ Ow w wr v (l ++ [128] ++ List.replicate z 0 ++ (be8 (8 * l.length)).take m)) (fun _ i _ => (intOf i + 1).toNat)
      case atStart => exact ⟨0, g, cap, Nat.zero_le _, rfl, rfl, by simpa using hO⟩
      case round =>
        clear hO hz hlt ht
        obtain ⟨m, g3, cap3, hm, rfl, rfl, hO⟩ := hrel
        by_cases hlt : m < 8
        · have ht : (0 : Int) ≤ 7 - (m : Int) := by omega
          have e0 : IntKind.i64.wrap (8 * (7 - (m : Int))) = 8 * (7 - (m : Int)) := IntWalk.i64_in _ (by omega)
          have l0 : 0 ≤ 8 * (7 - (m : Int)) := by omega
          have m0 : 8 * (7 - (m : Int)) < 64 := by omega
          have n0 : (8 * (7 - (m : Int))).toNat = 8 * (7 - m) := by omega
          have HB := Lib.hid (show (8 * (q.size : Int)) / 2 ^ (8 * (7 - m)) % 256 = (((UInt8.ofNat (8 * l.length / 2 ^ (8 * (7 - m)))).toNat : Nat) : Int) by rw [← HLL.out]; exact count_byte _ _)
          have HE := Lib.hid (be8_take (8 * l.length) m hlt)
          go_wp2_with (at_builtin; refine BRow.wpList_more (base := w.heap.size + 1) rfl (.tmp 30) (.tmp 36) rfl rfl (hO.row.alloc _) (by have := HQ.out; have := HLL.out; have := HZ.out; unfold zeros at this; simp; omega) (by have := hO.size; simp; omega) wr.heap.size 1 (UInt8.ofNat (8 * l.length / 2 ^ (8 * (7 - m)))) rfl (by rw [← HB.out]; simp) ?_; intro g5 cap5 w5 hrow5 hgr5)
          go_roundw
          case rel =>
            refine ⟨m + 1, g5, cap5, by omega, by go_num, by simp [be8_length]; omega, ?_⟩
            have h := hO.more _ hgr5 hrow5
            have e : l ++ [128] ++ List.replicate z 0 ++ (be8 (8 * l.length)).take m ++ [UInt8.ofNat (8 * l.length / 2 ^ (8 * (7 - m)))] = l ++ [128] ++ List.replicate z 0 ++ (be8 (8 * l.length)).take (m + 1) := by rw [HE.out]; simp
            rw [e] at h
            simpa using h
          case measure => simp [intOf]; omega
        · have HM := Lib.hid (show m = 8 by omega)
          have hP : Ow w wr (.slice (some ⟨g3, 0, none⟩) (l.length + 1 + z + m) cap3) (padded l) := by
            have e1 := HM.out
            have e2 := HZ.out
            subst e1
            have e : l ++ [128] ++ List.replicate z 0 ++ (be8 (8 * l.length)).take 8 = padded l := by
              unfold padded
              rw [← e2, List.take_of_length_le (by rw [be8_length]; exact Nat.le_refl _)]
            rw [e] at hO
            exact hO
          clear hO
          have HPL := Lib.hid (show (padded l).length = l.length + 1 + z + m by rw [padded_length, ← HZ.out, HM.out]; omega)
          go_wp2_with (fail)
          have hH : ∀ c, c = vals 8 (st6 iv) → Hw w (wr.alloc (.cells c 88)) (.slice (some ⟨g3, 0, none⟩) (l.length + 1 + z + m) cap3) (padded l) wr.heap.size iv := fun c hc => by
            have hs := hP.size
            refine ⟨⟨hP.below.alloc (by omega) _, by simp; omega, hP.res.alloc _, hP.row.alloc _⟩, row_alloc _ rfl hc, by omega, fun k hk => ?_⟩
            obtain ⟨g', cap', e, hb, hlt, _⟩ := hP.row.form
            injection e with e _ _
            simp [Value.ownBlock] at hk
            injection e with e
            injection e with e _ _
            omega
          refine gen_world (fun wx => Hw w wx (.slice (some ⟨g3, 0, none⟩) (l.length + 1 + z + m) cap3) (padded l) wr.heap.size iv) (hH _ (by kernel_rfl)) ?_
          have hgl : wr.heap.size = wr.heap.size := rfl
          clear hH hP hlt hm hgl
          intro wx hH
          generalize hgx : wr.heap.size = gx at hH ⊢
          obtain ⟨N, hN⟩ : ∃ N, (padded l).length = 64 * N := ⟨(padded l).length / 64, by have := padded_mod l; omega⟩
          have hNb : N < 10000 := by have := padded_length l; have := HQ.out; have := HLL.out; unfold zeros at *; omega
          have HN := Lib.hid hN
          have hpl := HPL.out
          rw [hN] at hpl
          have HPN := Lib.hid hpl
          clear hN hpl hgx
          go_loopw [7] (fun i wr => ∃ k : Nat, k ≤ N ∧ i = .int .i64 (64 * (k : Int)) ∧ Hw w wr (.slice (some ⟨g3, 0, none⟩) (l.length + 1 + z + m) cap3) (padded l) gx (blocks (byteAt (padded l)) k)) (fun i _ => 64 * N - (intOf i).toNat)
          case atStart => exact ⟨0, Nat.zero_le _, rfl, hH⟩
          case round =>
            clear hH
            obtain ⟨k, hk, rfl, hH⟩ := hrel
            have HT := Lib.hid (show blocks (byteAt (padded l)) (k + 1) = mixed (blocks (byteAt (padded l)) k) (fun j => byteAt (padded l) (64 * k + j)) from rfl)
            have HS := Lib.hid (show k = N → sumSt l = blocks (byteAt (padded l)) k from fun e => by unfold sumSt; rw [HN.out, e]; congr 1; omega)
            generalize blocks (byteAt (padded l)) k = s at HT HS hH ⊢
            by_cases hlt : k < N
            · obtain ⟨hln, hlc, hcell⟩ := hw_cells hH
              have hp := HPN.out
              have ht : 64 * (k : Int) < (l.length : Int) + 1 + (z : Int) + (m : Int) := by omega
              have e0 : IntKind.i64.wrap (64 * (k : Int) + 64) = 64 * (k : Int) + 64 := IntWalk.i64_in _ (by omega)
              have l0 : 0 ≤ 64 * (k : Int) := by omega
              have l1 : 64 * (k : Int) ≤ 64 * (k : Int) + 64 := by omega
              have l2 : 64 * (k : Int) + 64 ≤ (cap3 : Int) := by omega
              have n0 : (64 * (k : Int)).toNat = 64 * k := by omega
              have n1 : (64 * (k : Int) + 64).toNat = 64 * k + 64 := by omega
              have c0 : wr.cell? ⟨gx, 0, none⟩ = some (.int .u64 (t6 (zx s.a))) := hH.hrow.cell (i := 0) (by omega)
              have c1 : wr.cell? ⟨gx, 1, none⟩ = some (.int .u64 (t6 (zx s.b))) := hH.hrow.cell (i := 1) (by omega)
              have c2 : wr.cell? ⟨gx, 2, none⟩ = some (.int .u64 (t6 (zx s.c))) := hH.hrow.cell (i := 2) (by omega)
              have c3 : wr.cell? ⟨gx, 3, none⟩ = some (.int .u64 (t6 (zx s.d))) := hH.hrow.cell (i := 3) (by omega)
              have c4 : wr.cell? ⟨gx, 4, none⟩ = some (.int .u64 (t6 (zx s.e))) := hH.hrow.cell (i := 4) (by omega)
              have c5 : wr.cell? ⟨gx, 5, none⟩ = some (.int .u64 (t6 (zx s.f))) := hH.hrow.cell (i := 5) (by omega)
              have c6 : wr.cell? ⟨gx, 6, none⟩ = some (.int .u64 (t6 (zx s.g))) := hH.hrow.cell (i := 6) (by omega)
              have c7 : wr.cell? ⟨gx, 7, none⟩ = some (.int .u64 (t6 (zx s.h))) := hH.hrow.cell (i := 7) (by omega)
              have hconv : ∀ c, (convert 40 9 (.slice (some ⟨g3, 64 * k, none⟩) 64 c)).run Tryz.prog wr.drew = .ok (.string (blk (padded l) k)) wr.drew := fun c =>
                run_bytes_string wr.drew ⟨g3, 64 * k, none⟩ 64 c (fun j => byteAt (padded l) (64 * k + j)) (fun j hj => by rw [Addr.add_lit]; exact hcell _ (by have := HN.out; omega))
              have hconv' := hconv
              unfold World.drew at hconv'
              have hne : ¬ cap3 = 64 * k := by omega
              clear hp hcell hln hlc
              go_wp2
              go_still_tail 7, (by kernel_rfl)
              change wpList _ _ _ _ _ wr.drew
              have hH2 := hH.drew
              clear hH hconv hconv' hne c0 c1 c2 c3 c4 c5 c6 c7 e0 l0 l1 l2 n0 n1
              generalize wr.drew = wb at hH2 ⊢
              go_wp2_with (fail)
              refine (block_any s (blk (padded l) k) _ (blk_size _ _)).mono ?_
              rintro e w5 ⟨rfl, hb5⟩
              have hH3 := hH2.below hb5
              clear hH2 hb5
              rw [blk_mixed, ← HT.out]
              have H1 := Lib.hid (row_block hH3.hrow)
              have HO := Lib.hid (st6_one (blocks (byteAt (padded l)) (k + 1)))
              have HZ8 := Lib.hid (show (vals 8 (st6 s)).size = (vals 8 (st6 (blocks (byteAt (padded l)) (k + 1)))).size by rw [vals_size, vals_size])
              have hH4 := hH3.put (blocks (byteAt (padded l)) (k + 1))
              have HH := Lib.hid hH4
              clear hH3 hH4
              go_wp2_with (with_reducible refine wpList_store_row rfl 88 _ _ rfl _ _ rfl rfl 88 _ H1.out (hi8 _) HZ8.out HO.out ?_)
              go_roundw
              case rel => exact ⟨k + 1, by omega, by go_num, HH.out⟩
              case measure => simp [intOf]; omega
            · have HE := Lib.hid (HS.out (show k = N by omega))
              have ht : (l.length : Int) + 1 + (z : Int) + (m : Int) ≤ 64 * (k : Int) := by have := HPN.out; omega
              have hz32 : (vals 32 fun _ => Value.int .u8 0).all (·.oneCell') = true := vals_one fun _ => rfl
              have HZ32 := Lib.hid hz32
              have HB32 := Lib.hid (show Tryz.prog.built 50 [] = some (vals 32 fun _ => .int .u8 0) by kernel_rfl)
              have HNW := Lib.hid (show ∀ o, (wr.alloc o).heap[wr.heap.size]? = some o from fun o => heap_alloc_new wr o)
              have hD : ∀ c, Od w ((wr.alloc (.cells c 50)).setRow wr.heap.size (vals 32 fun _ => .int .u8 0)) gx wr.heap.size s 0 := fun c => by
                have hs := hH.ow.size
                have hl := hH.hrow.lt
                have ha := hH.apart
                refine ⟨below_setRow' (hH.ow.below.alloc (by omega) _) (by omega) _, row_setRow_other (hH.ow.res.alloc _) (by omega), row_setRow_other (hH.hrow.alloc _) (by omega), (row_of_block (setRow_heap _ _ c _ _ _ (heap_alloc_new wr _))).congr fun j _ => ?_, by omega, hl⟩
                rw [if_neg (Nat.not_lt_zero j)]
              have HD := Lib.hid hD
              clear hD hz32
              go_wp2_with (first
                | (refine wpList_build_to rfl 50 #[] rfl [] rfl _ HB32.out ?_)
                | (with_reducible refine wpList_store_row rfl 50 _ _ rfl _ _ rfl rfl 50 _ (HNW.out _) (hi32 _) ?_ HZ32.out ?_))
              · rw [vals_size]; rfl
              refine gen_world (fun wx => Od w wx gx wr.heap.size s 0) (HD.out _) ?_
              clear HD HNW HB32 HZ32 hH ht
              intro wy hD
              generalize wr.heap.size = go at hD ⊢
              go_loopw [9] (fun i wx => ∃ n : Nat, n ≤ 32 ∧ i = .int .i64 n ∧ Od w wx gx go s n) (fun i _ => 32 - (intOf i).toNat)
              case atStart => exact ⟨0, by omega, rfl, hD⟩
              case round =>
                clear hD
                obtain ⟨n, hn, rfl, hD⟩ := hrel
                by_cases hlt : n < 32
                · have c0 : wr.cell? ⟨gx, n / 4, none⟩ = some (.int .u64 (t6 (zx (s.at (n / 4))))) := hD.hrow.cell (i := n / 4) (by omega)
                  have HB := Lib.hid (sum_byte6 s n)
                  have l0 : 0 ≤ (n : Int) / 4 := by omega
                  have m0 : (n : Int) / 4 < 8 := by omega
                  have n0 : ((n : Int) / 4).toNat = n / 4 := by omega
                  have e0 : IntKind.i64.wrap (8 * ((n : Int) % 4)) = 8 * ((n : Int) % 4) := IntWalk.i64_in _ (by omega)
                  have e1 : IntKind.i64.wrap (24 - 8 * ((n : Int) % 4)) = 24 - 8 * ((n : Int) % 4) := IntWalk.i64_in _ (by omega)
                  have l1 : 0 ≤ 24 - 8 * ((n : Int) % 4) := by omega
                  have m1 : 24 - 8 * ((n : Int) % 4) < 64 := by omega
                  have n1 : (24 - 8 * ((n : Int) % 4)).toNat = 24 - 8 * (n % 4) := by omega
                  have lk : 0 ≤ (n : Int) := by omega
                  have mk : (n : Int) < 32 := by omega
                  have r0 := hD.out.cell hlt
                  have f0 := hD.out.frozen n
                  go_wp2
                  go_roundw
                  case rel => exact ⟨n + 1, by omega, by go_num, hD.put HB.out⟩
                  case measure => simp [intOf]; omega
                · have HN32 := Lib.hid (show n = 32 by omega)
                  have hout : wr.rowIs go 50 32 (fun j => .int .u8 ((sumByte (sumSt l) j).toNat : Int)) := hD.out.congr fun j hj => by rw [if_pos (by have := HN32.out; omega), HE.out]
                  have hbl := below_setRow' hD.below (Nat.le_refl _) (vals 32 fun j => .int .u8 ((sumByte (sumSt l) j).toNat : Int))
                  have H1 := Lib.hid (row_block hout)
                  have H2 := Lib.hid (row_block hD.res)
                  have H3 := Lib.hid (row_block (row_setRow (g := fun j => .int .u8 ((sumByte (sumSt l) j).toNat : Int)) hD.res))
                  have HZo := Lib.hid (show (vals 32 fun _ => Value.int .u8 0).size = (vals 32 fun j => Value.int .u8 ((sumByte (sumSt l) j).toNat : Int)).size by rw [vals_size, vals_size])
                  have HO2 := Lib.hid (show (vals 32 fun j => Value.int .u8 ((sumByte (sumSt l) j).toNat : Int)).all (·.oneCell') = true from vals_one fun _ => rfl)
                  have HBL := Lib.hid hbl
                  clear hD hout hbl
                  go_wp2_with (first
                    | (with_reducible refine wpList_load_row rfl 50 _ rfl _ rfl 50 _ _ _ H1.out Tryz.underlying50 rfl (hi32 _) ?_)
                    | (with_reducible refine wpList_store_row rfl 50 _ _ rfl _ _ rfl rfl 50 _ H2.out (hi32 _) HZo.out HO2.out ?_))
                  refine bodyPost_ret (results_cell_row rfl _ _ _ 50 _ _ _ rfl H3.out Tryz.underlying50 rfl (hi32 _)) rfl ?_
                  exact ⟨rfl, HBL.out⟩
end Go.Proofs.YtblgabdlpobbjaaGreatDoor
namespace Go.Proofs.YtblgabdlpobbjaaGreatDoor
open Go.ChangeShapes Go.WideShapes Go.ChangeAt Go.RowKit Pn Dk Sl

/-- A part of a text, by both its ends. -/
theorem run_cut (q : ByteArray) (i j : Nat) (I J : Int) (hI : I = (i : Int)) (hJ : J = (j : Int)) (h1 : i ≤ j) (h2 : j ≤ q.size) (W : World) : (Instr.slice 9 (.string q) (some (.int .i64 I)) (some (.int .i64 J)) none).run Tryz.prog W = .ok (.string (q.extract i j)) W := by
  subst hI hJ
  have := run_slice_string (P := Tryz.prog) W 9 q .i64 .i64 (i : Int) (j : Int) Tryz.underlying9 (by omega) (by omega) (by omega)
  simpa using this
theorem run_cut0 (q : ByteArray) (j : Nat) (J : Int) (hJ : J = (j : Int)) (h2 : j ≤ q.size) (W : World) : (Instr.slice 9 (.string q) none (some (.int .i64 J)) none).run Tryz.prog W = .ok (.string (q.extract 0 j)) W := by
  subst hJ
  have := run_slice_string_to_if (P := Tryz.prog) W 9 q .i64 (j : Int) Tryz.underlying9
  rw [if_pos ⟨by omega, by omega⟩] at this
  simpa using this
theorem retI6 {a b : Int} (h : a = b) : Ending.returned (.int .i64 a) = .returned (.int .i64 b) := by rw [h]
theorem ref6_size (w : World) (s : ByteArray) (hs : s.size ≤ 1099511627776) :
    Calls Tryz.prog 30 #[.string s] w fun e w' => e = .returned (.int .i64 (szN s.size : Int)) ∧ w = w' := by
  have l0 : 0 ≤ (s.size : Int) := by omega
  have l1 : (s.size : Int) ≤ 1099511627776 := by omega
  go_enter Tryz.func30, Tryz.ntmps30
  go_wp2
  go_ret
  exact ⟨retI6 (by unfold szN; omega), rfl⟩
namespace Sl
/-- Sectors, one behind the other. -/
def catB (n : Nat) (L : List UInt8) : Nat → ByteArray
  | 0 => ⟨#[]⟩
  | k + 1 => catB n L k ++ secS (secF n L k)
theorem catB_size (n : Nat) (L : List UInt8) : ∀ k, (catB n L k).size = 32 * k
  | 0 => rfl
  | k + 1 => by
    unfold catB
    rw [ByteArray.size_append, catB_size n L k, secS_size]
    omega
theorem catB_next (n : Nat) (L : List UInt8) (k sz : Nat) (hL : L.length = 28 * sz) (hk : k < sz) : catB n L k ++ (⟨L.toArray⟩ : ByteArray).extract (28 * k) (28 * k + 28) ++ ⟨(numL (n : Int)).toArray⟩ = catB n L (k + 1) := by
  have e : (⟨L.toArray⟩ : ByteArray).extract (28 * k) (28 * k + 28) ++ ⟨(numL (n : Int)).toArray⟩ = secS (secF n L k) := by
    apply ByteArray.ext
    apply Array.toList_inj.1
    rw [ByteArray.data_append, Array.toList_append, ByteArray.data_extract, Array.toList_extract, List.extract_eq_take_drop]
    show List.take (28 * k + 28 - 28 * k) (List.drop (28 * k) L) ++ numL (n : Int) = (List.range 32).map (secF n L k)
    rw [Nat.add_sub_cancel_left]
    apply List.ext_getElem?
    intro j
    have hl : ((L.drop (28 * k)).take 28).length = 28 := by rw [List.length_take, List.length_drop]; omega
    by_cases h28 : j < 28
    · rw [List.getElem?_append_left (by omega), List.getElem?_take_of_lt h28, List.getElem?_drop, List.getElem?_map, List.getElem?_range (by omega)]
      show _ = some (secF n L k j)
      unfold secF
      rw [if_pos h28, List.getD_eq_getElem?_getD, List.getElem?_eq_getElem (by omega)]
      rfl
    · rw [List.getElem?_append_right (by omega), hl]
      by_cases h32 : j < 32
      · rw [List.getElem?_map, List.getElem?_range h32]
        show _ = some (secF n L k j)
        unfold secF numL
        rw [if_neg h28, List.getElem?_map, List.getElem?_range (by omega)]
        rfl
      · rw [List.getElem?_eq_none (by rw [numL_length]; omega), List.getElem?_eq_none (by rw [List.length_map, List.length_range]; omega)]
  rw [ByteArray.append_assoc, e]
  rfl
/-- A text with bytes 0 behind it. -/
def padB (s : ByteArray) (z : Nat) : ByteArray := ⟨(textL s ++ List.replicate z 0).toArray⟩
theorem padB_zero (s : ByteArray) : padB s 0 = ⟨(textL s).toArray⟩ := by unfold padB; simp
theorem padB_next (s : ByteArray) (z : Nat) : padB s z ++ ⟨#[0]⟩ = padB s (z + 1) := by
  apply ByteArray.ext
  unfold padB
  rw [ByteArray.data_append, List.replicate_succ']
  simp
theorem padB_size (s : ByteArray) (z : Nat) : (padB s z).size = 4 + s.size + z := by
  unfold padB
  show (textL s ++ List.replicate z 0).toArray.size = _
  rw [List.size_toArray, List.length_append, textL_length, List.length_replicate]
theorem padB_body (s : ByteArray) : (padB s (28 * szN s.size - 36 - s.size)).data.toList = bodyL s := rfl
theorem ref_seal (s : ByteArray) : (⟨(digL (sumF (bodyL s))).toArray⟩ : ByteArray) ++ padB s (28 * szN s.size - 36 - s.size) = ⟨(sealL s).toArray⟩ := by
  apply ByteArray.ext
  unfold padB sealL
  rw [ByteArray.data_append]
  show (digL _).toArray ++ (bodyL s).toArray = _
  rw [List.append_toArray]
end Sl
theorem ref6_bytes_not (w : World) (n : Int) (s : ByteArray) (hs : s.size ≤ maxLen) (h : (decide (1 ≤ n) && (decide (n ≤ 2147483647) && decide (s.size ≤ 1024))) = false) :
    Calls Tryz.prog 12 #[.int .i64 n, .string s] w fun e w' => e = .returned (.tuple #[.string ⟨#[]⟩, .bool false]) ∧ w = w' := by
  unfold maxLen at hs
  by_cases h1 : n < 1
  · have t1 : decide (n < 1) = true := decide_eq_true h1
    go_enter Tryz.func12, Tryz.ntmps12
    go_wp2
    refine bodyPost_ret (results_tmp2 rfl _ _ _) rfl ?_
    exact ⟨rfl, rfl⟩
  have t1 : decide (n < 1) = false := decide_eq_false h1
  by_cases h2 : 2147483647 < n
  · have t2 : decide (2147483647 < n) = true := decide_eq_true h2
    go_enter Tryz.func12, Tryz.ntmps12
    go_wp2
    refine bodyPost_ret (results_tmp2 rfl _ _ _) rfl ?_
    exact ⟨rfl, rfl⟩
  have t2 : decide (2147483647 < n) = false := decide_eq_false h2
  have h3 : 1024 < s.size := by
    rw [decide_eq_true (show 1 ≤ n by omega), decide_eq_true (show n ≤ 2147483647 by omega), Bool.true_and, Bool.true_and, decide_eq_false_iff_not] at h
    omega
  have h3i : (1024 : Int) < (s.size : Int) := by omega
  have t3 : decide ((1024 : Int) < (s.size : Int)) = true := decide_eq_true h3i
  clear h
  go_enter Tryz.func12, Tryz.ntmps12
  go_wp2
  refine bodyPost_ret (results_tmp2 rfl _ _ _) rfl ?_
  exact ⟨rfl, rfl⟩
set_option maxRecDepth 100000 in
set_option maxHeartbeats 3200000 in
theorem ref6_bytes (w : World) (n : Nat) (s : ByteArray) (h1 : 1 ≤ n) (h2 : n ≤ 2147483647) (hs : s.size ≤ 1024) :
    Calls Tryz.prog 12 #[.int .i64 (n : Int), .string s] w fun e w' => e = .returned (.tuple #[.string (catB n (sealL s) (szN s.size)), .bool true]) ∧ Below w.heap.size w w' := by
  obtain ⟨N, hN⟩ : ∃ N, N = 28 * szN s.size - 36 - s.size := ⟨_, rfl⟩
  have hle := szN_le s.size
  have hlt := szN_lt s.size
  have hmx := szN_max s.size hs
  have hL := sealL_length s
  have y1 : ¬ (n : Int) < 1 := by omega
  have y2 : ¬ (2147483647 : Int) < (n : Int) := by omega
  have y3 : ¬ (1024 : Int) < (s.size : Int) := by omega
  have t1 : decide ((n : Int) < 1) = false := decide_eq_false y1
  have t2 : decide ((2147483647 : Int) < (n : Int)) = false := decide_eq_false y2
  have t3 : decide ((1024 : Int) < (s.size : Int)) = false := decide_eq_false y3
  have HTX := Lib.hid (refw_text · s (by omega))
  have HOF := Lib.hid (show ∀ W, Calls Tryz.prog 32 #[.string (padB s N)] W fun e w' => e = .returned (.agg (dgV (sumF (bodyL s)))) ∧ Below W.heap.size W w' from fun W => by
    have := refOf_any (padB s N) W (by rw [padB_size]; omega)
    rw [hN, padB_body] at this
    rw [hN]
    exact this)
  have HNU := Lib.hid (refw_num · (n : Int) (by omega) (by omega))
  have HCAT := Lib.hid (show (⟨(digL (sumF (bodyL s))).toArray⟩ : ByteArray) ++ padB s N = ⟨(sealL s).toArray⟩ by rw [hN]; exact ref_seal s)
  have HSL := Lib.hid hL
  have HSZ := Lib.hid (And.intro hle (And.intro hlt (And.intro hmx hN)))
  have HSS := Lib.hid hs
  clear h1 h2 hL hN hle hlt hmx y1 y2 y3
  go_enter Tryz.func12, Tryz.ntmps12
  go_wp2_with (fail)
  clear t1 t2 t3
  refine (HTX.out w).mono ?_
  rintro e w1 ⟨rfl, b1⟩
  rw [← padB_zero]
  have B1 := Lib.hid b1
  clear b1 HTX
  go_wp2_with (fail)
  go_loopw [6] (fun v wr => ∃ z : Nat, z ≤ N ∧ v = .string (padB s z) ∧ Below w.heap.size w wr) (fun v _ => match v with | .string q => N + 4 + s.size - q.size | _ => 0)
  case atStart => exact ⟨0, Nat.zero_le _, rfl, B1.out⟩
  case round =>
    clear B1
    obtain ⟨z, hz, rfl, hb⟩ := hrel
    have HB := Lib.hid hb
    clear hb
    have hps := padB_size s z
    have hps1 := padB_size s (z + 1)
    have HNX := Lib.hid (padB_next s z)
    obtain ⟨hle, hlt, hmx, hN⟩ := HSZ.out
    by_cases hzn : z < N
    · have e1 : (((padB s z).size : Int) + 32).tmod 28 = ((((padB s z).size + 32) % 28 : Nat) : Int) := by
        rw [Int.tmod_eq_emod_of_nonneg (by omega)]; omega
      have e2 : ((((padB s z).size : Int) + 32) % 28 != 0) = true := bne_iff_ne.2 (by rw [hps]; omega)
      have bz : ((padB s z).size : Int) ≤ 2000 := by rw [hps]; have := HSS.out; omega
      have ns : ¬ 9223372036854775807 < (padB s z).size + (⟨#[0]⟩ : ByteArray).size := by rw [hps, show (⟨#[0]⟩ : ByteArray).size = 1 from rfl]; have := HSS.out; omega
      have HME := Lib.hid (show N + 4 + s.size - (padB s (z + 1)).size < N + 4 + s.size - (padB s z).size by rw [hps, hps1]; omega)
      clear hle hlt hmx hN hps hps1 e1
      generalize padB s z = q at e2 bz ns HNX HME ⊢
      go_wp2_with (fail)
      rw [HNX.out]
      exact ⟨⟨z + 1, by omega, rfl, HB.out⟩, HME.out⟩
    · have hze : z = N := by omega
      subst hze
      have e2 : ((((padB s z).size : Int) + 32) % 28 != 0) = false := by
        rw [bne_eq_false_iff_eq, hps]; omega
      have bz : ((padB s z).size : Int) ≤ 2000 := by rw [hps]; have := HSS.out; omega
      have HPS := Lib.hid (show (padB s z).size ≤ 2000 by rw [hps]; have := HSS.out; omega)
      have HBL := Lib.hid (show (digL (sumF (bodyL s))).length = 32 from digL_length _)
      clear hle hlt hmx hN hps hps1 HNX hz hzn
      generalize padB s z = q at e2 bz HCAT HOF HPS ⊢
      generalize bodyL s = bl at HCAT HOF HBL
      generalize hLL : sealL s = L at HCAT HSL
      have HLL := Lib.hid hLL
      clear hLL
      generalize sumF bl = F at HCAT HOF HBL
      go_wp2_with (fail)
      refine (HOF.out wr).mono ?_
      rintro e w3 ⟨rfl, b3⟩
      have B3 := Lib.hid (HB.out.trans (b3.mono HB.out.size))
      clear b3 HB HOF
      have HX0 := Lib.hid (show ∀ old, (w3.alloc (.cells old 50)).heap[w3.heap.size]? = some (.cells old 50 (0, 0)) from fun old => heap_alloc_new w3 _)
      have HIF := Lib.hid (show (Tryz.prog.info? 50).map (·.size) = some (dgV F).size from hi32 _)
      have HOo := Lib.hid (dgO F)
      have hcv : ∀ W : World, W.heap[w3.heap.size]? = some (.cells (dgV F) 50 (0, 0)) → (convert 40 9 (.slice (some ⟨w3.heap.size, 0, none⟩) 32 32)).run Tryz.prog W = .ok (.string ⟨(digL F).toArray⟩) W := fun W hW => run_text W _ 32 32 (digL F) (digL_length F).symm fun j u hj => by
        rw [Addr.add_lit, Nat.zero_add, cell_of_row _ _ _ _ _ _ hW, ← hj, dig_cells, Array.getElem?_toList]
      have HCV := Lib.hid hcv
      clear hcv
      go_upto_region 7 with (with_reducible refine wpList_store_row rfl 50 _ _ rfl _ (dgV F) rfl rfl 50 _ (HX0.out _) HIF.out ?_ HOo.out ?_)
      · unfold dgV
        rw [vals_size]
        rfl
      refine gen_world (fun W => W.heap[w3.heap.size]? = some (.cells (dgV F) 50 (0, 0)) ∧ Below w.heap.size w W) ⟨setRow_heap _ _ _ _ _ _ (HX0.out _), below_setRow' (B3.out.alloc B3.out.size _) B3.out.size _⟩ ?_
      rintro w4 ⟨h4, b4⟩
      have hcv := HCV.out w4 h4
      have B4 := Lib.hid b4
      have ns : ¬ 9223372036854775807 < (⟨(digL F).toArray⟩ : ByteArray).size + q.size := by
        have h32 : (⟨(digL F).toArray⟩ : ByteArray).size = 32 := by show (digL F).toArray.size = 32; rw [List.size_toArray, digL_length]
        rw [h32]
        have := HPS.out
        omega
      clear h4 b4 B3 HCV HX0 HIF HOo
      generalize (⟨(digL F).toArray⟩ : ByteArray) = dd at hcv ns HCAT
      go_wp2_with (fail)
      rw [HCAT.out]
      refine (HNU.out w4).mono ?_
      rintro e w5 ⟨rfl, b5⟩
      have B5 := Lib.hid (B4.out.trans (b5.mono B4.out.size))
      clear b5 B4 hcv ns HCAT e2 bz HNU HPS
      obtain ⟨_, _, hmx, _⟩ := HSZ.out
      clear HSZ HSS
      generalize hZZ : szN s.size = sz at HSL hmx
      have HZZ := Lib.hid hZZ
      clear hZZ
      have HLS := Lib.hid (show (⟨L.toArray⟩ : ByteArray).size = 28 * sz by rw [← HSL.out]; exact List.size_toArray ..)
      have HC := Lib.hid (fun k (hk : k < sz) => catB_next n L k sz HSL.out hk)
      have HCS := Lib.hid (catB_size n L)
      have hn4 : (⟨(numL (n : Int)).toArray⟩ : ByteArray).size = 4 := by show (numL (n : Int)).toArray.size = 4; rw [List.size_toArray, numL_length]
      have HN4 := Lib.hid hn4
      clear hn4
      generalize (⟨(numL (n : Int)).toArray⟩ : ByteArray) = nm at HC HN4 ⊢
      generalize (⟨L.toArray⟩ : ByteArray) = al at HLS HC ⊢
      go_wp2_with (fail)
      go_loopw [10, 11] (fun v i wr => ∃ k j : Nat, j = 28 * k ∧ k ≤ sz ∧ v = .string (catB n L k) ∧ i = .int .i64 (j : Int) ∧ Below w.heap.size w wr) (fun _ i _ => match i with | .int _ k => 28 * sz - k.toNat | _ => 0)
      case atStart => exact ⟨0, 0, rfl, Nat.zero_le _, rfl, rfl, B5.out⟩
      case round =>
        clear B5
        obtain ⟨k, j, hj, hk, rfl, rfl, hb⟩ := hrel
        have HB := Lib.hid hb
        clear hb
        have hls := HLS.out
        by_cases hlt : k < sz
        · have z0 : (j : Int) < (al.size : Int) := by omega
          have z1 : decide ((j : Int) < (al.size : Int)) = true := decide_eq_true z0
          have z2 : 0 ≤ (j : Int) := by omega
          have z3 : (j : Int) + 28 ≤ (al.size : Int) := by omega
          have z4 : (j : Int) ≤ 2000 := by omega
          have hcs := HCS.out k
          have ex : (al.extract j (j + 28)).size = 28 := by rw [ByteArray.size_extract]; omega
          have s1 : ¬ 9223372036854775807 < (catB n L k).size + (al.extract j (j + 28)).size := by omega
          have s2 : ¬ 9223372036854775807 < (catB n L k).size + (al.extract j (j + 28)).size + nm.size := by have := HN4.out; omega
          have HCK := Lib.hid (show catB n L k ++ al.extract j (j + 28) ++ nm = catB n L (k + 1) by rw [hj]; exact HC.out k hlt)
          have HJ := Lib.hid hj
          have HLT := Lib.hid hlt
          have hcut := run_cut al j (j + 28) (j : Int) ((j : Int) + 28) rfl rfl (by omega) (by omega)
          clear hls hcs ex hlt hj hk HC HCS HLS
          generalize al.extract j (j + 28) = pc at hcut s1 s2 HCK
          generalize hq : catB n L k = q at s1 s2 HCK ⊢
          clear hq
          go_wp2_with (fail)
          rw [HCK.out]
          exact ⟨⟨k + 1, j + 28, by have := HJ.out; omega, HLT.out, rfl, by rw [show ((j + 28 : Nat) : Int) = (j : Int) + 28 by omega], HB.out⟩, by show 28 * sz - ((j : Int) + 28).toNat < 28 * sz - ((j : Int)).toNat; have := HLT.out; have := HJ.out; omega⟩
        · have hke : k = sz := by omega
          subst hke
          have z0 : ¬ (j : Int) < (al.size : Int) := by omega
          have z1 : decide ((j : Int) < (al.size : Int)) = false := decide_eq_false z0
          have z5 : decide (j < al.size) = false := decide_eq_false (by omega)
          have z6 : ¬ j < al.size := by omega
          clear hls HC HCS HLS hlt hj z0
          generalize hq : catB n L k = q
          have HQ := Lib.hid hq
          clear hq
          go_wp2_with (fail)
          refine bodyPost_ret (results_tmp2 rfl _ _ _) rfl ?_
          exact ⟨by rw [HLL.out, HZZ.out, HQ.out]; rfl, HB.out⟩
end Go.Proofs.YtblgabdlpobbjaaGreatDoor
namespace Go.Proofs.YtblgabdlpobbjaaGreatDoor
open Go.ChangeShapes Go.WideShapes Go.ChangeAt Go.RowKit Pn Dk Sl

namespace Sl
theorem img_cut (m : Nat) (F : Nat → UInt8) (a k : Nat) (h : a + k ≤ m * 32) : (imgS m F).extract a (a + k) = ⟨((List.range k).map fun j => F (a + j)).toArray⟩ := by
  apply ByteArray.ext
  apply Array.toList_inj.1
  rw [ByteArray.data_extract, Array.toList_extract, List.extract_eq_take_drop, Nat.add_sub_cancel_left]
  show List.take k (List.drop a ((List.range (m * 32)).map F)) = (List.range k).map fun j => F (a + j)
  apply List.ext_getElem?
  intro j
  by_cases hj : j < k
  · rw [List.getElem?_take_of_lt hj, List.getElem?_drop, List.getElem?_map, List.getElem?_map, List.getElem?_range hj, List.getElem?_range (by omega)]
    rfl
  · rw [List.getElem?_eq_none (by rw [List.length_take]; omega), List.getElem?_eq_none (by simpa using hj)]
/-- A sector's last four bytes. -/
def fourB (g : Nat → UInt8) : ByteArray := ⟨#[g 28, g 29, g 30, g 31]⟩
theorem img_four (m : Nat) (F : Nat → UInt8) (i : Nat) (h : i < m) : (imgS m F).extract (i * 32 + 28) (i * 32 + 28 + 4) = fourB (sect F i) := by
  rw [img_cut m F _ 4 (by omega)]
  unfold fourB sect
  simp [List.range, List.range.loop, Nat.add_assoc]
theorem img_len (m : Nat) (F : Nat → UInt8) (h : 2 ≤ m) : (imgS m F).extract 36 (36 + 4) = ⟨#[sect F 1 4, sect F 1 5, sect F 1 6, sect F 1 7]⟩ := by
  rw [img_cut m F _ 4 (by omega)]
  unfold sect
  simp [List.range, List.range.loop]
theorem img_head (m : Nat) (F : Nat → UInt8) (i : Nat) (h : i < m) : (imgS m F).extract (i * 32) (i * 32 + 28) = ⟨((List.range 28).map (sect F i)).toArray⟩ := img_cut m F _ 28 (by omega)
/-- What the first k sectors have of a text's bytes. -/
def jnB (rd : Nat → Nat → UInt8) (k : Nat) : ByteArray := ⟨(jnL rd 0 k).toArray⟩
theorem jnB_next (rd : Nat → Nat → UInt8) (k : Nat) : jnB rd k ++ ⟨((List.range 28).map (rd k)).toArray⟩ = jnB rd (k + 1) := by
  apply ByteArray.ext
  unfold jnB
  rw [ByteArray.data_append]
  show (jnL rd 0 k).toArray ++ _ = (jnL rd 0 k ++ (List.range 28).map (rd (0 + k))).toArray
  rw [Nat.zero_add, List.append_toArray]
theorem jnB_size (rd : Nat → Nat → UInt8) (k : Nat) : (jnB rd k).size = 28 * k := by
  show (jnL rd 0 k).toArray.size = _
  rw [List.size_toArray, jnL_length]
theorem four_same {g h : Nat → UInt8} (e : fourB g = fourB h) : numG g = numG h := by
  have e1 : (#[g 28, g 29, g 30, g 31] : Array UInt8) = #[h 28, h 29, h 30, h 31] := congrArg ByteArray.data e
  simp only [Array.mk.injEq, List.cons.injEq, and_true] at e1
  unfold numG
  rw [e1.1, e1.2.1, e1.2.2.1, e1.2.2.2]
theorem four_num {g h : Nat → UInt8} (h1 : 1 ≤ numG h) (e : numG g = numG h) : fourB g = fourB h := by
  have a := fun j hj => (num_bytes (g := g) (by omega) j hj)
  have b := fun j hj => (num_bytes (g := h) h1 j hj)
  unfold fourB
  rw [show g 28 = _ from a 0 (by omega), show g 29 = _ from a 1 (by omega), show g 30 = _ from a 2 (by omega), show g 31 = _ from a 3 (by omega), show h 28 = _ from b 0 (by omega), show h 29 = _ from b 1 (by omega), show h 30 = _ from b 2 (by omega), show h 31 = _ from b 3 (by omega), e]
theorem text_cut (rd : Nat → Nat → UInt8) : (jnB rd (szN (lenV rd 0))).extract 36 (36 + lenV rd 0) = textG rd 0 := by
  apply ByteArray.ext
  apply Array.toList_inj.1
  rw [ByteArray.data_extract, Array.toList_extract, List.extract_eq_take_drop, Nat.add_sub_cancel_left]
  rfl
theorem textG_len (rd : Nat → Nat → UInt8) : (textG rd 0).size = lenV rd 0 := by
  have := szN_le (lenV rd 0)
  show (((allG rd 0).drop 36).take (lenV rd 0)).toArray.size = _
  rw [List.size_toArray, List.length_take, List.length_drop]
  unfold allG
  rw [jnL_length]
  omega
/-- Sectors of one text are the text's sectors. -/
theorem cat_img (m num sz : Nat) (F : Nat → UInt8) (L : List UInt8) (h1 : 1 ≤ num) (hL : L.length = 28 * sz) (hm : sz ≤ m) (hn : ∀ i, i < sz → numG (sect F i) = num) :
    catB num L sz = (imgS m F).extract 0 (sz * 32) ↔ jnL (sect F) 0 sz = L := by
  have hc : ∀ k, k ≤ sz → (∀ i, i < k → ∀ j, j < 32 → secF num L i j = sect F i j) → catB num L k = (imgS m F).extract 0 (k * 32) := by
    intro k
    induction k with
    | zero =>
      intro _ _
      rw [Nat.zero_mul, show (0 : Nat) = 0 + 0 from rfl, img_cut m F 0 0 (by omega)]
      rfl
    | succ k ih =>
      intro hk h
      unfold catB
      rw [ih (by omega) fun i hi => h i (by omega), secS_congr (h k (by omega))]
      have e0 := img_cut m F 0 (k * 32) (by omega)
      have e1 := img_cut m F 0 ((k + 1) * 32) (by omega)
      rw [Nat.zero_add] at e0 e1
      rw [e0, e1]
      apply ByteArray.ext
      apply Array.toList_inj.1
      rw [ByteArray.data_append, Array.toList_append]
      show ((List.range (k * 32)).map fun j => F (0 + j)) ++ (List.range 32).map (sect F k) = (List.range ((k + 1) * 32)).map fun j => F (0 + j)
      rw [Nat.succ_mul, List.range_add, List.map_append, List.map_map]
      congr 1
      exact List.map_congr_left fun j _ => by show F (k * 32 + j) = F (0 + (k * 32 + j)); rw [Nat.zero_add]
  have hcg : ∀ k, k ≤ sz → ∀ i j, i < k → j < 32 → (catB num L k).data.toList.getD (i * 32 + j) 0 = secF num L i j := by
    intro k
    induction k with
    | zero => intro _ i j h; omega
    | succ k ih =>
      intro hk i j hi hj
      have hl : (catB num L k).data.toList.length = 32 * k := catB_size num L k
      show ((catB num L k ++ secS (secF num L k)).data.toList).getD _ 0 = _
      rw [ByteArray.data_append, Array.toList_append, List.getD_eq_getElem?_getD]
      by_cases he : i = k
      · subst he
        rw [List.getElem?_append_right (by omega), hl, show i * 32 + j - 32 * i = j by omega]
        show (((List.range 32).map (secF num L i))[j]?).getD 0 = _
        simp [hj]
      · rw [List.getElem?_append_left (by omega), ← List.getD_eq_getElem?_getD]
        exact ih (by omega) i j (by omega) hj
  constructor
  · intro e
    refine jnL_eq (sect F) 0 L sz hL fun i hi j hj => ?_
    have h2 := hcg sz (Nat.le_refl _) i j hi (by omega)
    have e1 := img_cut m F 0 (sz * 32) (by omega)
    rw [Nat.zero_add] at e1
    rw [e, e1] at h2
    have h3 : (((List.range (sz * 32)).map fun j => F (0 + j)).getD (i * 32 + j) 0) = secF num L i j := h2
    rw [List.getD_eq_getElem?_getD, List.getElem?_map, List.getElem?_range (by omega)] at h3
    have h4 : F (0 + (i * 32 + j)) = secF num L i j := h3
    unfold secF at h4
    rw [if_pos hj, Nat.zero_add] at h4
    rw [Nat.zero_add]
    exact h4
  · intro e
    refine hc sz (Nat.le_refl _) fun i hi j hj => ?_
    unfold secF
    by_cases h28 : j < 28
    · rw [if_pos h28, ← e, jnL_get (sect F) 0 sz i j hi h28, Nat.zero_add]
    · rw [if_neg h28]
      have := num_bytes (g := sect F i) (by rw [hn i hi]; exact h1) (j - 28) (by omega)
      rw [hn i hi, show 28 + (j - 28) = j by omega] at this
      exact this.symm
end Sl
theorem nm_four6 (a b c d : UInt8) (most : Nat) : nmOut ⟨#[a, b, c, d]⟩ (most : Int) = if vN a b c d ≤ most then vN a b c d else 0 := by
  have e : le4 ⟨#[a, b, c, d]⟩ = vN a b c d := rfl
  unfold nmOut nmOk
  rw [e, decide_eq_true (show 4 ≤ (⟨#[a, b, c, d]⟩ : ByteArray).size from Nat.le_refl 4), Bool.true_and]
  by_cases h : vN a b c d ≤ most
  · rw [if_pos h, if_pos (decide_eq_true (by omega))]
  · rw [if_neg h, if_neg (by rw [decide_eq_true_iff]; omega)]
theorem nm_bad6 (a b c d : UInt8) (most : Nat) : nmBad ⟨#[a, b, c, d]⟩ false (most : Int) = decide (most < vN a b c d) := by
  have e : le4 ⟨#[a, b, c, d]⟩ = vN a b c d := rfl
  unfold nmBad nmOk
  rw [e, decide_eq_true (show 4 ≤ (⟨#[a, b, c, d]⟩ : ByteArray).size from Nat.le_refl 4), Bool.true_and, Bool.false_or]
  by_cases h : vN a b c d ≤ most
  · rw [decide_eq_true (show (vN a b c d : Int) ≤ (most : Int) by omega), decide_eq_false (by omega)]
    rfl
  · rw [decide_eq_false (show ¬ (vN a b c d : Int) ≤ (most : Int) by omega), decide_eq_true (by omega)]
    rfl
theorem texts_diff6 {s q : ByteArray} (h : s ≠ q) : (s.toList == q.toList) = false := by
  rw [beq_eq_false_iff_ne, ByteArray.toList_eq, ByteArray.toList_eq]
  exact fun e => h (ByteArray.ext (Array.ext' e))
theorem ok_false {rd : Nat → Nat → UInt8} {n p : Nat} (h : okG rd n p = false) : getR rd n p = (⟨#[]⟩, 0, 5) := by
  unfold getR
  rw [if_neg (by rw [h]; exact Bool.false_ne_true)]
def RefGot (w : World) (R : ByteArray × Nat × Nat) (e : Ending) (w' : World) : Prop := e = .returned (.tuple #[.string R.1, .int .i64 (R.2.1 : Int), .int .i64 (R.2.2 : Int)]) ∧ Below w.heap.size w w'
theorem ref_got_no {w w' : World} {R : ByteArray × Nat × Nat} (h : R = (⟨#[]⟩, 0, 5)) (hb : Below w.heap.size w w') : RefGot w R (.returned (.tuple #[.string ⟨#[]⟩, .int .i64 0, .int .i64 5])) w' := by
  rw [h]
  exact ⟨rfl, hb⟩
set_option maxRecDepth 100000 in
set_option maxHeartbeats 6400000 in
theorem ref6_get (w : World) (m : Nat) (F : Nat → UInt8) (hm1 : 1 ≤ m) (hm : m ≤ 4096) :
    Calls Tryz.prog 29 #[.string (imgS m F)] w (RefGot w (getR (sect F) m 0)) := by
  have hsz := imgS_size m F
  rcases Decidable.em (¬ 2 ≤ m) with h2 | h2
  · have z0 : ((imgS m F).size : Int) < 64 := by omega
    have z1 : decide (((imgS m F).size : Int) < 64) = true := decide_eq_true z0
    have HO := Lib.hid (show getR (sect F) m 0 = (⟨#[]⟩, 0, 5) from ok_false (by
      rw [Bool.eq_false_iff]
      intro ho
      have := ((jnOk_iff _ _ _ _ _).1 ((okG_iff _ _ _).1 ho).2.1 1 (by omega)).1
      omega))
    clear h2 hsz
    generalize imgS m F = q at z0 z1
    go_enter Tryz.func29, Tryz.ntmps29
    go_wp2_with (fail)
    refine bodyPost_ret (results_tmp3 rfl _ _ _) rfl ?_
    exact ref_got_no HO.out (Below.refl _ _)
  replace h2 := Decidable.not_not.1 h2
  have z0 : ¬ ((imgS m F).size : Int) < 64 := by omega
  have z1 : decide (((imgS m F).size : Int) < 64) = false := decide_eq_false z0
  have hc1 := run_cut (imgS m F) 28 32 28 32 rfl rfl (by omega) (by omega)
  rw [show (imgS m F).extract 28 32 = fourB (sect F 0) from img_four m F 0 (by omega)] at hc1
  have hc2 := run_cut (imgS m F) 36 40 36 40 rfl rfl (by omega) (by omega)
  rw [show (imgS m F).extract 36 40 = _ from img_len m F h2] at hc2
  have HC3 := Lib.hid (fun (i : Nat) (hi : i < m) => show ∀ W, (Instr.slice 9 (.string (imgS m F)) (some (.int .i64 (32 * (i : Int) + 28))) (some (.int .i64 (32 * (i : Int) + 32))) none).run Tryz.prog W = .ok (.string (fourB (sect F i))) W from fun W => by
    rw [← img_four m F i hi]
    exact run_cut (imgS m F) (i * 32 + 28) (i * 32 + 28 + 4) _ _ (by omega) (by omega) (by omega) (by omega) W)
  have HC4 := Lib.hid (fun (i : Nat) (hi : i < m) => show ∀ W, (Instr.slice 9 (.string (imgS m F)) (some (.int .i64 (32 * (i : Int)))) (some (.int .i64 (32 * (i : Int) + 28))) none).run Tryz.prog W = .ok (.string ⟨((List.range 28).map (sect F i)).toArray⟩) W from fun W => by
    rw [← img_head m F i hi]
    exact run_cut (imgS m F) (i * 32) (i * 32 + 28) _ _ (by omega) (by omega) (by omega) (by omega) W)
  have hm4 : ((imgS m F).size : Int) ≤ 131072 := by omega
  have HSZ := Lib.hid hsz
  have HM := Lib.hid (And.intro h2 hm)
  clear hsz h2 hm hm1
  generalize hv : vN (sect F 0 28) (sect F 0 29) (sect F 0 30) (sect F 0 31) = v
  have HF0 := Lib.hid (show ∀ W b, RefAt W b (fourB (sect F 0)) false → Calls Tryz.prog 50 #[.pointer (some ⟨b, 0, none⟩), .int .i64 2147483647] W (RefSays W b (.int .i64 ((if v ≤ 2147483647 then v else 0 : Nat) : Int)) (nmRest (fourB (sect F 0)) 2147483647) (decide (2147483647 < v))) from fun W b hb => by
    have := ref_num W b _ false hb (fun h => by cases h) 2147483647
    rw [show nmOut (fourB (sect F 0)) 2147483647 = _ from nm_four6 _ _ _ _ 2147483647, show nmBad (fourB (sect F 0)) false 2147483647 = _ from nm_bad6 _ _ _ _ 2147483647, hv] at this
    exact this)
  have HF1 := Lib.hid (show ∀ W b, RefAt W b ⟨#[sect F 1 4, sect F 1 5, sect F 1 6, sect F 1 7]⟩ false → Calls Tryz.prog 50 #[.pointer (some ⟨b, 0, none⟩), .int .i64 1024] W (RefSays W b (.int .i64 ((if Sl.lenV (sect F) 0 ≤ 1024 then Sl.lenV (sect F) 0 else 0 : Nat) : Int)) (nmRest ⟨#[sect F 1 4, sect F 1 5, sect F 1 6, sect F 1 7]⟩ 1024) (decide (1024 < Sl.lenV (sect F) 0))) from fun W b hb => by
    have := ref_num W b _ false hb (fun h => by cases h) 1024
    rw [show nmOut ⟨#[sect F 1 4, sect F 1 5, sect F 1 6, sect F 1 7]⟩ 1024 = _ from nm_four6 _ _ _ _ 1024, show nmBad ⟨#[sect F 1 4, sect F 1 5, sect F 1 6, sect F 1 7]⟩ false 1024 = _ from nm_bad6 _ _ _ _ 1024] at this
    exact this)
  have HNG := Lib.hid (show numG (sect F 0) = if v ≤ 2147483647 then v else 0 by unfold numG; rw [hv])
  clear hv
  by_cases hv1 : 1 ≤ numG (sect F 0)
  · have hv2 : v ≤ 2147483647 := by
      have := HNG.out
      by_cases h : v ≤ 2147483647
      · exact h
      · rw [if_neg h] at this; omega
    have hvn : numG (sect F 0) = v := by rw [HNG.out, if_pos hv2]
    have hv3 : 1 ≤ v := by omega
    have hF0 := HF0.out
    rw [if_pos hv2, decide_eq_false (show ¬ 2147483647 < v by omega)] at hF0
    clear HF0
    have HF0 := Lib.hid hF0
    clear hF0
    have v1 : 1 ≤ (v : Int) := by omega
    have v2 : ¬ (v : Int) < 1 := by omega
    have v3 : decide ((v : Int) < 1) = false := decide_eq_false v2
    have HV := Lib.hid (And.intro hvn (And.intro hv3 hv2))
    clear hv1 hvn hv3 hv2 HNG
    rcases Decidable.em (¬ Sl.lenV (sect F) 0 ≤ 1024) with hl | hl
    · have HO := Lib.hid (ok_false (rd := sect F) (n := m) (p := 0) (by
        rw [Bool.eq_false_iff]
        intro ho
        exact hl ((okG_iff _ _ _).1 ho).2.2.1))
      have hF1 := HF1.out
      rw [if_neg hl, decide_eq_true (show 1024 < Sl.lenV (sect F) 0 by omega)] at hF1
      clear HF1
      have HF1 := Lib.hid hF1
      clear hF1 HC3 HC4 HM HSZ hl
      generalize imgS m F = q at hc1 hc2 z0 z1 hm4
      generalize fourB (sect F 0) = fb at hc1 HF0
      generalize (⟨#[sect F 1 4, sect F 1 5, sect F 1 6, sect F 1 7]⟩ : ByteArray) = lb at hc2 HF1
      go_enter Tryz.func29, Tryz.ntmps29
      go_wp2_with (fail)
      refine (HF0.out _ w.heap.size (heap_alloc_new w _)).mono ?_
      rintro e w1 ⟨rfl, h1, o1⟩
      have c1 := h1.wrong
      have B1 := Lib.hid (((Below.refl w.heap.size w).alloc (Nat.le_refl _) _).trans (o1.below (Nat.le_refl _) (by simp)))
      clear h1 o1 HF0
      go_wp2_with (fail)
      refine (HF1.out _ w1.heap.size (heap_alloc_new w1 _)).mono ?_
      rintro e w2 ⟨rfl, h2, o2⟩
      have c2 := h2.wrong
      have B2 := Lib.hid ((B1.out.alloc B1.out.size _).trans (o2.below (B := w.heap.size) B1.out.size (by have := B1.out.size; simp; omega)))
      clear h2 o2 HF1 c1 B1
      go_wp2_with (fail)
      refine bodyPost_ret (results_tmp3 rfl _ _ _) rfl ?_
      exact ref_got_no HO.out B2.out
    replace hl := Decidable.not_not.1 hl
    have hF1 := HF1.out
    rw [if_pos hl, decide_eq_false (show ¬ 1024 < Sl.lenV (sect F) 0 by omega)] at hF1
    clear HF1
    have HF1 := Lib.hid hF1
    clear hF1
    have hzl := szN_max _ hl
    have es1 : ((Sl.lenV (sect F) 0 : Int) + 36 + 27) / 28 = (szN (Sl.lenV (sect F) 0) : Int) := by unfold szN; omega
    have ln1 : (Sl.lenV (sect F) 0 : Int) ≤ 1024 := by omega
    have hs32 : 32 * (szN (Sl.lenV (sect F) 0) : Int) ≤ 2000 := by omega
    by_cases hbig : m < szN (Sl.lenV (sect F) 0)
    · have HO := Lib.hid (ok_false (rd := sect F) (n := m) (p := 0) (by
        rw [Bool.eq_false_iff]
        intro ho
        have := ((jnOk_iff _ _ _ _ _).1 ((okG_iff _ _ _).1 ho).2.2.2 m hbig).1
        omega))
      have b1 : ((imgS m F).size : Int) < 32 * (szN (Sl.lenV (sect F) 0) : Int) := by have := HSZ.out; omega
      have b2 : decide (((imgS m F).size : Int) < 32 * (szN (Sl.lenV (sect F) 0) : Int)) = true := decide_eq_true b1
      clear HC3 HC4 HM HSZ hl hbig hzl
      generalize imgS m F = q at hc1 hc2 z0 z1 hm4 b1 b2
      generalize fourB (sect F 0) = fb at hc1 HF0
      generalize (⟨#[sect F 1 4, sect F 1 5, sect F 1 6, sect F 1 7]⟩ : ByteArray) = lb at hc2 HF1
      generalize szN (Sl.lenV (sect F) 0) = sz at es1 hs32 b1 b2
      generalize Sl.lenV (sect F) 0 = ln at HF1 es1 ln1
      go_enter Tryz.func29, Tryz.ntmps29
      go_wp2_with (fail)
      refine (HF0.out _ w.heap.size (heap_alloc_new w _)).mono ?_
      rintro e w1 ⟨rfl, h1, o1⟩
      have c1 := h1.wrong
      have B1 := Lib.hid (((Below.refl w.heap.size w).alloc (Nat.le_refl _) _).trans (o1.below (Nat.le_refl _) (by simp)))
      clear h1 o1 HF0
      go_wp2_with (fail)
      refine (HF1.out _ w1.heap.size (heap_alloc_new w1 _)).mono ?_
      rintro e w2 ⟨rfl, h2, o2⟩
      have c2 := h2.wrong
      have B2 := Lib.hid ((B1.out.alloc B1.out.size _).trans (o2.below (B := w.heap.size) B1.out.size (by have := B1.out.size; simp; omega)))
      clear h2 o2 HF1 c1 B1
      go_wp2_with (fail)
      refine bodyPost_ret (results_tmp3 rfl _ _ _) rfl ?_
      exact ref_got_no HO.out B2.out
    have b1 : ¬ ((imgS m F).size : Int) < 32 * (szN (Sl.lenV (sect F) 0) : Int) := by have := HSZ.out; omega
    have b2 : decide (((imgS m F).size : Int) < 32 * (szN (Sl.lenV (sect F) 0) : Int)) = false := decide_eq_false b1
    have hsm : szN (Sl.lenV (sect F) 0) ≤ m := by omega
    have h2z := szN_two (Sl.lenV (sect F) 0)
    have hle := szN_le (Sl.lenV (sect F) 0)
    have HFIN := Lib.hid (show ∀ W, Below w.heap.size w W → jnOk (sect F) m 0 v (szN (Sl.lenV (sect F) 0)) = true → (allG (sect F) 0 = sealL (textG (sect F) 0) → RefGot w (getR (sect F) m 0) (.returned (.tuple #[.string (textG (sect F) 0), .int .i64 (v : Int), .int .i64 0])) W) ∧ (allG (sect F) 0 ≠ sealL (textG (sect F) 0) → RefGot w (getR (sect F) m 0) (.returned (.tuple #[.string ⟨#[]⟩, .int .i64 0, .int .i64 6])) W) from fun W hW hj => by
      have ho : okG (sect F) m 0 = true := by
        rw [okG_iff, HV.out.1]
        refine ⟨HV.out.2.1, ?_, hl, hj⟩
        exact (jnOk_iff _ _ _ _ _).2 fun i hi => (jnOk_iff _ _ _ _ _).1 hj i (by omega)
      constructor
      · intro he
        have : getR (sect F) m 0 = (textG (sect F) 0, v, 0) := by unfold getR; rw [if_pos ho, if_pos he, HV.out.1]
        rw [this]
        exact ⟨rfl, hW⟩
      · intro he
        have : getR (sect F) m 0 = (⟨#[]⟩, 0, 6) := by unfold getR; rw [if_pos ho, if_neg he]
        rw [this]
        exact ⟨rfl, hW⟩)
    have HNO := Lib.hid (show ∀ W k, Below w.heap.size w W → k < szN (Sl.lenV (sect F) 0) → numG (sect F k) ≠ v → RefGot w (getR (sect F) m 0) (.returned (.tuple #[.string ⟨#[]⟩, .int .i64 0, .int .i64 5])) W from fun W k hW hk hne => ref_got_no (ok_false (by
      rw [Bool.eq_false_iff]
      intro ho
      have := ((jnOk_iff _ _ _ _ _).1 ((okG_iff _ _ _).1 ho).2.2.2 k hk).2
      rw [Nat.zero_add, HV.out.1] at this
      exact hne this)) hW)
    have HJN := Lib.hid (show ∀ k, k < szN (Sl.lenV (sect F) 0) → numG (sect F k) = v → jnOk (sect F) m 0 v k = true → jnOk (sect F) m 0 v (k + 1) = true from fun k hk hn hj => jnOk_next _ _ _ _ k hj (by omega) (by rw [Nat.zero_add]; exact hn))
    have H3 := Lib.hid (fun k (hk : k < szN (Sl.lenV (sect F) 0)) => HC3.out k (by omega))
    have H4 := Lib.hid (fun k (hk : k < szN (Sl.lenV (sect F) 0)) => HC4.out k (by omega))
    have HB := Lib.hid (jnB_next (sect F))
    have HBS := Lib.hid (jnB_size (sect F))
    have HSM := Lib.hid (fun k => show numG (sect F k) = v → fourB (sect F k) = fourB (sect F 0) from fun h => four_num (by rw [HV.out.1]; exact HV.out.2.1) (h.trans HV.out.1.symm))
    have HDF := Lib.hid (fun k => show numG (sect F k) ≠ v → fourB (sect F k) ≠ fourB (sect F 0) from fun h e => h ((four_same e).trans HV.out.1))
    have HTX := Lib.hid (text_cut (sect F))
    have HTL := Lib.hid (textG_len (sect F))
    have HBY := Lib.hid (fun W => ref6_bytes W v (textG (sect F) 0) HV.out.2.1 HV.out.2.2 (by rw [textG_len]; exact hl))
    have HCI := Lib.hid (show (jnOk (sect F) m 0 v (szN (Sl.lenV (sect F) 0)) = true) → (catB v (sealL (textG (sect F) 0)) (szN (textG (sect F) 0).size) = (imgS m F).extract 0 (szN (Sl.lenV (sect F) 0) * 32) ↔ allG (sect F) 0 = sealL (textG (sect F) 0)) from fun hj => by
      rw [textG_len]
      exact cat_img m v _ F _ HV.out.2.1 (by rw [sealL_length, textG_len]) hsm (fun i hi => by have := ((jnOk_iff _ _ _ _ _).1 hj i hi).2; rwa [Nat.zero_add] at this))
    have hc5 := run_cut0 (imgS m F) (szN (Sl.lenV (sect F) 0) * 32) (32 * (szN (Sl.lenV (sect F) 0) : Int)) (by omega) (by have := HSZ.out; omega)
    have hc6 := run_cut (jnB (sect F) (szN (Sl.lenV (sect F) 0))) 36 (36 + Sl.lenV (sect F) 0) 36 (36 + (Sl.lenV (sect F) 0 : Int)) rfl (by omega) (by omega) (by rw [jnB_size]; omega)
    rw [HTX.out] at hc6
    clear HC3 HC4 HM hl hbig HSZ hle HV HTX HTL
    generalize (⟨#[sect F 1 4, sect F 1 5, sect F 1 6, sect F 1 7]⟩ : ByteArray) = lb at hc2 HF1
    generalize fourB (sect F 0) = fb at hc1 HF0 HSM HDF
    generalize imgS m F = q at hc1 hc2 z0 z1 hm4 b1 b2 H3 H4 HCI hc5
    generalize szN (Sl.lenV (sect F) 0) = sz at es1 hs32 b1 b2 hsm h2z hzl HFIN HNO HJN H3 H4 HCI hc5 hc6
    generalize Sl.lenV (sect F) 0 = ln at HF1 es1 ln1 hc6
    go_enter Tryz.func29, Tryz.ntmps29
    go_wp2_with (fail)
    refine (HF0.out _ w.heap.size (heap_alloc_new w _)).mono ?_
    rintro e w1 ⟨rfl, h1, o1⟩
    have c1 := h1.wrong
    have B1 := Lib.hid (((Below.refl w.heap.size w).alloc (Nat.le_refl _) _).trans (o1.below (Nat.le_refl _) (by simp)))
    clear h1 o1 HF0
    go_wp2_with (fail)
    refine (HF1.out _ w1.heap.size (heap_alloc_new w1 _)).mono ?_
    rintro e w2 ⟨rfl, h2, o2⟩
    have c2 := h2.wrong
    have B2 := Lib.hid ((B1.out.alloc B1.out.size _).trans (o2.below (B := w.heap.size) B1.out.size (by have := B1.out.size; simp; omega)))
    clear h2 o2 HF1 c1 B1
    go_wp2_with (fail)
    rw [es1]
    clear c2 z0 z1 b1 b2 es1 hc2
    go_loopw [10, 11] (fun vb vi wr => ∃ k : Nat, k ≤ sz ∧ vb = .string (jnB (sect F) k) ∧ vi = .int .i64 (k : Int) ∧ jnOk (sect F) m 0 v k = true ∧ Below w.heap.size w wr) (fun _ vi _ => match vi with | .int _ k => sz - k.toNat | _ => 0)
    case atStart => exact ⟨0, Nat.zero_le _, rfl, rfl, rfl, B2.out⟩
    case round =>
      clear B2
      obtain ⟨k, hk, rfl, rfl, hok, hb⟩ := hrel
      have HOK := Lib.hid hok
      have HBL := Lib.hid hb
      clear hok hb
      have y2 : 0 ≤ (k : Int) := by omega
      by_cases hlt : k < sz
      · have y0 : (k : Int) < (sz : Int) := by omega
        have y1 : decide ((k : Int) < (sz : Int)) = true := decide_eq_true y0
        have e1 : IntKind.i64.wrap (32 * (k : Int)) = 32 * (k : Int) := IntWalk.i64_in _ (by omega)
        have e2 : IntKind.i64.wrap (32 * (k : Int) + 28) = 32 * (k : Int) + 28 := IntWalk.i64_in _ (by omega)
        have e3 : IntKind.i64.wrap (32 * (k : Int) + 32) = 32 * (k : Int) + 32 := IntWalk.i64_in _ (by omega)
        have e4 : 0 ≤ 32 * (k : Int) := by omega
        have e5 : 32 * (k : Int) ≤ 2000 := by omega
        have hs3 := H3.out k hlt
        have hs4 := H4.out k hlt
        have HLT := Lib.hid hlt
        by_cases hnum : numG (sect F k) = v
        · have hsm2 := HSM.out k hnum
          have t1 : ((fourB (sect F k)).toList == fb.toList) = true := by rw [hsm2]; exact beq_self_eq_true _
          have HN := Lib.hid (HJN.out k hlt hnum HOK.out)
          have HJB := Lib.hid (HB.out k)
          have hjs := HBS.out k
          have h28 : (⟨((List.range 28).map (sect F k)).toArray⟩ : ByteArray).size = 28 := by show ((List.range 28).map (sect F k)).toArray.size = 28; simp
          have ns : ¬ 9223372036854775807 < (jnB (sect F) k).size + (⟨((List.range 28).map (sect F k)).toArray⟩ : ByteArray).size := by omega
          clear hnum hsm2 hlt hjs h28 H3 H4 HSM HDF hk
          generalize fourB (sect F k) = fk at hs3 t1
          generalize (⟨((List.range 28).map (sect F k)).toArray⟩ : ByteArray) = pc at hs4 ns HJB
          generalize hjb : jnB (sect F) k = jb at ns HJB ⊢
          clear hjb
          go_wp2_with (fail)
          go_quiet (fail)
          go_wp2_with (fail)
          rw [HJB.out]
          exact ⟨⟨k + 1, HLT.out, rfl, rfl, HN.out, below_drewN HBL.out _⟩, by show sz - ((k : Int) + 1).toNat < sz - (k : Int).toNat; have := HLT.out; omega⟩
        · have t1 : ((fourB (sect F k)).toList == fb.toList) = false := texts_diff6 (HDF.out k hnum)
          have HX := Lib.hid (fun W hW => HNO.out W k hW hlt hnum)
          clear hnum hlt H3 H4 HSM HDF hk hs4 HNO HJN HFIN
          generalize fourB (sect F k) = fk at hs3 t1
          generalize jnB (sect F) k = jb
          go_wp2_with (fail)
          go_quiet (fail)
          go_wp2_with (fail)
          refine bodyPost_ret (results_tmp3 rfl _ _ _) rfl ?_
          exact HX.out _ (below_drewN HBL.out _)
      · have hke : k = sz := by omega
        subst hke
        have y0 : ¬ (k : Int) < (k : Int) := by omega
        have y1 : decide ((k : Int) < (k : Int)) = false := decide_eq_false y0
        have hfin := fun W hW => HFIN.out W hW HOK.out
        have hci := HCI.out HOK.out
        by_cases hsum : allG (sect F) 0 = sealL (textG (sect F) 0)
        · have HX := Lib.hid (fun W hW => (hfin W hW).1 hsum)
          have hcc := hci.2 hsum
          have t1 : ((catB v (sealL (textG (sect F) 0)) (szN (textG (sect F) 0).size)).toList == (q.extract 0 (k * 32)).toList) = true := by rw [hcc]; exact beq_self_eq_true _
          clear hfin hci hsum hcc hlt H3 H4 HSM HDF HNO HJN HFIN HCI hc1 hk
          generalize q.extract 0 (k * 32) = qq at hc5 t1
          generalize catB v (sealL (textG (sect F) 0)) (szN (textG (sect F) 0).size) = cc at HBY t1
          generalize textG (sect F) 0 = tx at HBY HX hc6
          generalize jnB (sect F) k = jb at hc6 ⊢
          go_wp2_with (fail)
          refine (HBY.out wr).mono ?_
          rintro e w5 ⟨rfl, b5⟩
          have B5 := Lib.hid (HBL.out.trans (b5.mono HBL.out.size))
          clear b5 HBY
          go_wp2_with (fail)
          refine bodyPost_ret (results_tmp3 rfl _ _ _) rfl ?_
          exact HX.out _ B5.out
        · have HX := Lib.hid (fun W hW => (hfin W hW).2 hsum)
          have t1 : ((catB v (sealL (textG (sect F) 0)) (szN (textG (sect F) 0).size)).toList == (q.extract 0 (k * 32)).toList) = false := texts_diff6 (fun e => hsum (hci.1 e))
          clear hfin hci hsum hlt H3 H4 HSM HDF HNO HJN HFIN HCI hc1 hk
          generalize q.extract 0 (k * 32) = qq at hc5 t1
          generalize catB v (sealL (textG (sect F) 0)) (szN (textG (sect F) 0).size) = cc at HBY t1
          generalize textG (sect F) 0 = tx at HBY HX hc6
          generalize jnB (sect F) k = jb at hc6 ⊢
          go_wp2_with (fail)
          refine (HBY.out wr).mono ?_
          rintro e w5 ⟨rfl, b5⟩
          have B5 := Lib.hid (HBL.out.trans (b5.mono HBL.out.size))
          clear b5 HBY
          go_wp2_with (fail)
          refine bodyPost_ret (results_tmp3 rfl _ _ _) rfl ?_
          exact HX.out _ B5.out
  · have hg : okG (sect F) m 0 = false := by
      rw [Bool.eq_false_iff]
      intro ho
      exact hv1 ((okG_iff _ _ _).1 ho).1
    by_cases hv2 : v ≤ 2147483647
    · have hv0 : v = 0 := by have := HNG.out; rw [if_pos hv2] at this; omega
      subst hv0
      have hF0 := HF0.out
      rw [if_pos hv2, decide_eq_false (show ¬ 2147483647 < 0 by omega)] at hF0
      have HF0 := Lib.hid hF0
      clear hF0
      have HO := Lib.hid (ok_false hg)
      have HF := HF0
      clear HF0 HF1 HC3 HC4 HM hc2 hg hv1 hv2 HNG
      generalize imgS m F = q at hc1 z0 z1 hm4
      generalize fourB (sect F 0) = fb at hc1 HF
      go_enter Tryz.func29, Tryz.ntmps29
      go_wp2_with (fail)
      refine (HF.out _ w.heap.size (heap_alloc_new w _)).mono ?_
      rintro e w1 ⟨rfl, h1, o1⟩
      have c1 := h1.wrong
      have B1 := Lib.hid (((Below.refl w.heap.size w).alloc (Nat.le_refl _) _).trans (o1.below (Nat.le_refl _) (by simp)))
      clear h1 o1 HF
      go_wp2_with (fail)
      refine bodyPost_ret (results_tmp3 rfl _ _ _) rfl ?_
      exact ref_got_no HO.out B1.out
    · have hF0 := HF0.out
      rw [if_neg hv2, decide_eq_true (show 2147483647 < v by omega)] at hF0
      have HF0 := Lib.hid hF0
      clear hF0
      have HO := Lib.hid (ok_false hg)
      have HF := HF0
      clear HF0 HF1 HC3 HC4 HM hc2 hg hv1 hv2 HNG
      generalize imgS m F = q at hc1 z0 z1 hm4
      generalize fourB (sect F 0) = fb at hc1 HF
      go_enter Tryz.func29, Tryz.ntmps29
      go_wp2_with (fail)
      refine (HF.out _ w.heap.size (heap_alloc_new w _)).mono ?_
      rintro e w1 ⟨rfl, h1, o1⟩
      have c1 := h1.wrong
      have B1 := Lib.hid (((Below.refl w.heap.size w).alloc (Nat.le_refl _) _).trans (o1.below (Nat.le_refl _) (by simp)))
      clear h1 o1 HF
      go_wp2_with (fail)
      refine bodyPost_ret (results_tmp3 rfl _ _ _) rfl ?_
      exact ref_got_no HO.out B1.out
end Go.Proofs.YtblgabdlpobbjaaGreatDoor
