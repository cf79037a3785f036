/-
  Package disk: what the calls that turn nothing answer. Conditions: the disk stands in blocks of its own.
  Package disk: the power goes: what is kept of the writes that aren't safe. Conditions: the disk stands in blocks of its own; the bools that say what is kept lie in none of them, or in a row of bools.
  Package disk: a fuse burns, or the power goes. Conditions: the disk stands in blocks of its own; fewer than 2^62 writes were done.
  Package disk: Sync. Conditions: the disk stands in blocks of its own; fewer than 2^62 writes were done, fewer than 2^30 aren't safe.
  Package disk: Write. Conditions: the disk stands in blocks of its own; fewer than 2^62 writes were done, fewer than 2^30 aren't safe.
  A disk of blocks that weren't there at the beginning: what each call answers, and what stands there then. Conditions: as each call's own.
  Package disk: Image. Conditions: the disk stands in blocks of its own.
  What is found behind a loss of power: each sector is what was synced there, or what was written there since. No program here. No conditions.
  Package disk: Write without power, and at the fuse's end. Conditions: the disk stands in blocks of its own.
-/
import Derived.Test.YtnmgkkjnjllpbaaGreatDoorMg2
import Derived.Laws.BytesString
import Derived.StillTailTactics
import Derived.Great.Walk
import Derived.Deep.RegionHeld3
import Derived.Deep.AppendLies
set_option maxRecDepth 100000
namespace Go.Proofs.YtnmgkkjnjllpbaaGreatDoor
open Go.ChangeShapes Go.WideShapes Go.ChangeAt Go.RowKit Dk

section
variable (K : Nat → Prop) (w : World) (D : Nat) (x : St)
theorem disk_isOn (h : DiskAt K w D x) : Calls Tryz.prog 29 #[.pointer (some ⟨D, 0, none⟩)] w fun e w' => e = .returned (.bool (!x.away)) ∧ w = w' := by
  obtain ⟨s, cs, t, ct, lv, fv, h⟩ := h
  have c4 := h.cell 4
  simp only [List.getElem?_toArray, List.getElem?_cons_succ, List.getElem?_cons_zero] at c4
  clear h
  generalize x.away = aw at c4 ⊢
  go_enter Tryz.func29, Tryz.ntmps29
  go_wp2
  go_ret
  exact ⟨rfl, rfl⟩
theorem disk_len (h : DiskAt K w D x) : Calls Tryz.prog 13 #[.pointer (some ⟨D, 0, none⟩)] w fun e w' => e = .returned (.int .i64 (x.n : Int)) ∧ w = w' := by
  obtain ⟨s, cs, t, ct, lv, fv, h⟩ := h
  have c0 := h.cell 0
  simp only [List.getElem?_toArray, List.getElem?_cons_zero] at c0
  clear h
  generalize x.n = n at c0 ⊢
  go_enter Tryz.func13, Tryz.ntmps13
  go_wp2
  go_ret
  exact ⟨rfl, rfl⟩
theorem disk_loose (h : DiskAt K w D x) : Calls Tryz.prog 19 #[.pointer (some ⟨D, 0, none⟩)] w fun e w' => e = .returned (.int .i64 (x.loose.length : Int)) ∧ w = w' := by
  obtain ⟨s, cs, t, ct, lv, fv, h⟩ := h
  have c2 := h.cell 2
  simp only [List.getElem?_toArray, List.getElem?_cons_succ, List.getElem?_cons_zero] at c2
  have hv : ∃ a c, lv = .slice a x.loose.length c := by
    rcases h.lo.2 with ⟨rfl, h0⟩ | ⟨g, cap, cur, rfl, _⟩
    · exact ⟨_, _, by rw [h0]⟩
    · exact ⟨_, _, rfl⟩
  obtain ⟨a, c, rfl⟩ := hv
  clear h
  generalize x.loose.length = n at c2 ⊢
  go_enter Tryz.func19, Tryz.ntmps19
  go_wp2
  go_ret
  exact ⟨rfl, rfl⟩
end
namespace Dk
/-- Whether there is such a sector, and the power to get at it. -/
def St.reach (x : St) (p : Int) : Int := if p < 0 ∨ (x.n : Int) ≤ p then 3 else if x.away then 4 else 0
theorem reach_out {x : St} {p : Int} (h : p < 0 ∨ (x.n : Int) ≤ p) : x.reach p = 3 := if_pos h
theorem reach_in {x : St} {p : Int} (h0 : ¬ p < 0) (h1 : ¬ (x.n : Int) ≤ p) : x.reach p = if x.away then 4 else 0 := if_neg (by omega)
end Dk
section
variable (K : Nat → Prop) (w : World) (D : Nat) (x : St)
theorem disk_reach (h : DiskAt K w D x) (p : Int) : Calls Tryz.prog 114 #[.pointer (some ⟨D, 0, none⟩), .int .i64 p] w fun e w' => e = .returned (.int .i64 (x.reach p)) ∧ w = w' := by
  obtain ⟨s, cs, t, ct, lv, fv, h⟩ := h
  have c0 := h.cell 0
  have c4 := h.cell 4
  simp only [List.getElem?_toArray, List.getElem?_cons_succ, List.getElem?_cons_zero] at c0 c4
  clear h
  by_cases h0 : p < 0
  · have h0' : decide (p < 0) = true := decide_eq_true h0
    rw [reach_out (.inl h0)]
    go_enter Tryz.func114, Tryz.ntmps114
    go_wp2
    go_ret
    exact ⟨rfl, rfl⟩
  · have h0' : decide (p < 0) = false := decide_eq_false h0
    by_cases h1 : (x.n : Int) ≤ p
    · have h1' : decide ((x.n : Int) ≤ p) = true := decide_eq_true h1
      rw [reach_out (.inr h1)]
      generalize x.n = n at c0 h1 h1'
      go_enter Tryz.func114, Tryz.ntmps114
      go_wp2
      go_ret
      exact ⟨rfl, rfl⟩
    · have h1' : decide ((x.n : Int) ≤ p) = false := decide_eq_false h1
      rw [reach_in h0 h1]
      generalize x.n = n at c0 h1 h1'
      cases ha : x.away with
      | true =>
        rw [ha] at c4
        rw [if_pos rfl]
        go_enter Tryz.func114, Tryz.ntmps114
        go_wp2
        go_ret
        exact ⟨rfl, rfl⟩
      | false =>
        rw [ha] at c4
        rw [if_neg Bool.false_ne_true]
        go_enter Tryz.func114, Tryz.ntmps114
        go_wp2
        go_ret
        exact ⟨rfl, rfl⟩
end
namespace Dk
/-- A sector's bytes as a text. -/
def secS (g : Nat → UInt8) : ByteArray := ⟨((List.range 32).map g).toArray⟩
theorem secS_congr {f g : Nat → UInt8} (h : ∀ j, j < 32 → f j = g j) : secS f = secS g := by
  unfold secS
  rw [List.map_congr_left fun j hj => h j (List.mem_range.1 hj)]
theorem secS_inj {f g : Nat → UInt8} (h : secS f = secS g) : ∀ j, j < 32 → f j = g j := by
  intro j hj
  have h2 := congrArg (fun b : ByteArray => b.data.toList[j]?) h
  simpa [secS, hj] using h2
theorem secS_size (g : Nat → UInt8) : (secS g).size = 32 := by
  show ((List.range 32).map g).toArray.size = 32
  simp
end Dk
theorem foldl_pushK (ns : List UInt8) : ∀ r : ByteArray, ns.foldl (fun r b => r.push b) r = ⟨(r.data.toList ++ ns).toArray⟩ := by
  induction ns with
  | nil => intro r; simp
  | cons a ns ih =>
    intro r
    rw [List.foldl_cons, ih]
    simp [ByteArray.push]
theorem foldl_pushK_int (ns : List UInt8) (r : ByteArray) : (ns.map fun b => (b.toNat : Int)).foldl (fun r n => r.push (UInt8.ofNat n.toNat)) r = ns.foldl (fun r b => r.push b) r := by
  rw [List.foldl_map]
  congr 1
  funext r b
  rw [Int.toNat_natCast, UInt8.ofNat_toNat]
/-- A slice of bytes as a string. -/
theorem run_textK (w : World) (a : Addr) (n cap : Nat) (l : List UInt8) (hn : n = l.length) (h : ∀ j u, (l.map fun b => Value.int .u8 (b.toNat : Int))[j]? = some u → w.cell? (a.add j) = some u) :
    (convert 40 9 (.slice (some a) n cap)).run Tryz.prog w = .ok (.string ⟨l.toArray⟩) w := by
  subst hn
  rw [run_convert_bytes_string w _ _ 5 _ l.length cap Tryz.underlying40 Tryz.underlying5 Tryz.underlying9]
  have hl := run_loadCells_list (P := Tryz.prog) w a _ h
  have e : (l.map fun b => Value.int .u8 (b.toNat : Int)) = (l.map fun b => (b.toNat : Int)).map (Value.int .u8) := by simp [List.map_map, Function.comp_def]
  rw [e] at hl
  rw [List.length_map, List.length_map] at hl
  rw [run_bytesToString w a l.length cap (l.map fun b => (b.toNat : Int)) hl, foldl_pushK_int, foldl_pushK]
  simp
theorem range_text {w : World} {b n p : Nat} {f : Nat → UInt8} (h : Row w b n f) (hp : p < n) (cap : Nat) : (convert 40 9 (.slice (some ⟨b, p * 32, none⟩) 32 cap)).run Tryz.prog w = .ok (.string (secS (sect f p))) w := by
  refine run_textK w _ 32 cap ((List.range 32).map (sect f p)) (by simp) fun j u hj => ?_
  rw [Addr.add_lit]
  have hl := (List.getElem?_eq_some_iff.1 hj).1
  simp only [List.length_map, List.length_range] at hl
  rw [h.range hp j (.int .u8 ((sect f p j).toNat : Int)) (secL_get _ _ hl), ← hj]
  simp [hl]
theorem disk_read (K : Nat → Prop) (w : World) (D : Nat) (x : St) (h : DiskAt K w D x) (ha : x.away = false) (p : Nat) (hp : p < x.n) :
    Calls Tryz.prog 102 #[.pointer (some ⟨D, 0, none⟩), .int .i64 (p : Int)] w fun e w' => e = .returned (.tuple #[.string (secS (sect x.now p)), .int .i64 0]) ∧ w = w' := by
  have hr := disk_reach K w D x h (p : Int)
  rw [reach_in (by omega) (by omega), ha, if_neg Bool.false_ne_true] at hr
  have HR := Lib.hid hr
  obtain ⟨s, cs, t, ct, lv, fv, h⟩ := h
  have c1 := h.cell 1
  simp only [List.getElem?_toArray, List.getElem?_cons_succ, List.getElem?_cons_zero] at c1
  have hx := range_text h.tr hp 32
  have h1 : (p : Int) < (x.n : Int) := by omega
  have h2 : ¬ (p : Int) < 0 := by omega
  have h3 : 0 ≤ (p : Int) := by omega
  have h4 : p < x.n := hp
  clear h hr
  generalize x.n = n at c1 h1 h4
  generalize secS (sect x.now p) = z at hx ⊢
  go_enter Tryz.func102, Tryz.ntmps102
  go_wp2_with (fail)
  refine HR.out.mono ?_
  rintro e w1 ⟨rfl, rfl⟩
  clear HR
  go_wp2
  refine bodyPost_ret (results_tmp2 rfl _ _ _) rfl ?_
  exact ⟨rfl, rfl⟩
end Go.Proofs.YtnmgkkjnjllpbaaGreatDoor
namespace Go.Proofs.YtnmgkkjnjllpbaaGreatDoor
open Go.ChangeShapes Go.WideShapes Go.ChangeAt Go.RowKit Dk

theorem sizeW : (Tryz.prog.info? 101).map (·.size) = some 33 := by kernel_rfl
theorem sizeS : (Tryz.prog.info? 73).map (·.size) = some 32 := by kernel_rfl
/-- A write's cells. -/
abbrev wrA (y : Wr) : Array Value := (wcells y).toArray
theorem wrA_list (y : Wr) : (wrA y).toList = wcells y := rfl
theorem wrA_size (y : Wr) : (wrA y).size = 33 := wcells_length y
theorem wrA_one (y : Wr) : (wrA y).all (·.oneCell') = true := all_oneCell_toArray (wcells_one y)
/-- A write stands in block v. -/
def WrAt (w : World) (v : Nat) (y : Wr) : Prop := w.heap[v]? = some (.cells (wrA y) 101 (0, 0))
namespace WrAt
variable {w w' : World} {v : Nat} {y : Wr}
theorem lt (h : WrAt w v y) : v < w.heap.size := (Array.getElem?_eq_some_iff.1 h).1
theorem place (h : WrAt w v y) : w.cell? ⟨v, 0, none⟩ = some (.int .i64 (y.1 : Int)) := cell_of_row w v 0 _ _ _ h
theorem bytes (h : WrAt w v y) : w.rangeAt v 1 (secL y.2) := fun j u hj => by
  rw [cell_of_row w v (1 + j) _ _ _ h]
  show (wcells y).toArray[1 + j]? = some u
  rw [List.getElem?_toArray, Nat.add_comm]
  exact hj
theorem of_block (h : WrAt w v y) (e : w'.heap[v]? = w.heap[v]?) : WrAt w' v y := e.trans h
end WrAt
/-- Within the falling: the disk's own block as it was, and both rows. -/
structure Falls (w wr : World) (D s cs t ct : Nat) (lv fv : Value) (x : St) (f g : Nat → UInt8) : Prop where
  hd : wr.heap[D]? = some (.cells #[.slice (some ⟨s, 0, none⟩) x.n cs, .slice (some ⟨t, 0, none⟩) x.n ct, lv, fv, .bool x.away, .int .i64 (x.done : Int)] 78 (0, 0))
  sr : Row wr s x.n f
  tr : Row wr t x.n g
  ne : s ≠ t
  ds : D ≠ s
  dt : D ≠ t
  os : wr.os = w.os
  tape : wr.tape = w.tape
  output : wr.output = w.output
  size : w.heap.size ≤ wr.heap.size
  block : ∀ i, i < w.heap.size → i ≠ s → i ≠ t → wr.heap[i]? = w.heap[i]?
namespace Falls
variable {w wr w' : World} {D s cs t ct : Nat} {lv fv : Value} {x : St} {f g : Nat → UInt8}
theorem start {K : Nat → Prop} (h : Lies K w D s cs t ct lv fv x) : Falls w w D s cs t ct lv fv x x.safe x.now := ⟨h.hd, h.sr, h.tr, h.ne, h.neDs, h.neDt, rfl, rfl, rfl, Nat.le_refl _, fun _ _ _ _ => rfl⟩
theorem then_below (h : Falls w wr D s cs t ct lv fv x f g) (hb : Below wr.heap.size wr w') : Falls w w' D s cs t ct lv fv x f g :=
  ⟨(hb.block D (Array.getElem?_eq_some_iff.1 h.hd).1).trans h.hd, h.sr.of_block (hb.block s h.sr.lt), h.tr.of_block (hb.block t h.tr.lt), h.ne, h.ds, h.dt, hb.os.trans h.os, hb.tape.trans h.tape, hb.output.trans h.output, Nat.le_trans h.size hb.size,
    fun i hi h1 h2 => (hb.block i (Nat.lt_of_lt_of_le hi h.size)).trans (h.block i hi h1 h2)⟩
theorem drew (h : Falls w wr D s cs t ct lv fv x f g) : Falls w wr.drew D s cs t ct lv fv x f g := h.then_below ((Below.refl _ _).drew)
theorem alloc (h : Falls w wr D s cs t ct lv fv x f g) (o : Obj) : Falls w (wr.alloc o) D s cs t ct lv fv x f g := h.then_below ((Below.refl _ _).alloc (Nat.le_refl _) o)
theorem new (h : Falls w wr D s cs t ct lv fv x f g) {b : Nat} (hb : w.heap.size ≤ b) (hs : b ≠ s) (ht : b ≠ t) (hD : b ≠ D) (he : w'.os = wr.os ∧ w'.tape = wr.tape ∧ w'.output = wr.output) (hz : wr.heap.size ≤ w'.heap.size) (ho : ∀ i, i ≠ b → w'.heap[i]? = wr.heap[i]?) : Falls w w' D s cs t ct lv fv x f g :=
  ⟨(ho D hD.symm).trans h.hd, h.sr.of_block (ho s hs.symm), h.tr.of_block (ho t ht.symm), h.ne, h.ds, h.dt, he.1.trans h.os, he.2.1.trans h.tape, he.2.2.trans h.output, Nat.le_trans h.size hz, fun i hi h1 h2 => (ho i (by omega)).trans (h.block i hi h1 h2)⟩
theorem putF (h : Falls w wr D s cs t ct lv fv x f g) {p : Nat} (hp : p < x.n) (q : Nat → UInt8) : Falls w (wr.setCells s (p * 32) (secL q)) D s cs t ct lv fv x (putS f p q) g := by
  obtain ⟨h1, h2, h3⟩ := setCells_os s (secL q) (p * 32) wr
  exact ⟨(setCells_other s D h.ds _ _ _).trans h.hd, h.sr.put hp q, h.tr.other h.ne.symm _ _, h.ne, h.ds, h.dt, h1.trans h.os, h2.trans h.tape, h3.trans h.output, by rw [setCells_size]; exact h.size, fun i hi hs ht => (setCells_other s i hs _ _ _).trans (h.block i hi hs ht)⟩
theorem putG (h : Falls w wr D s cs t ct lv fv x f g) {p : Nat} (hp : p < x.n) (q : Nat → UInt8) : Falls w (wr.setCells t (p * 32) (secL q)) D s cs t ct lv fv x f (putS g p q) := by
  obtain ⟨h1, h2, h3⟩ := setCells_os t (secL q) (p * 32) wr
  exact ⟨(setCells_other t D h.dt _ _ _).trans h.hd, h.sr.other h.ne _ _, h.tr.put hp q, h.ne, h.ds, h.dt, h1.trans h.os, h2.trans h.tape, h3.trans h.output, by rw [setCells_size]; exact h.size, fun i hi hs ht => (setCells_other t i ht _ _ _).trans (h.block i hi hs ht)⟩
theorem cell (h : Falls w wr D s cs t ct lv fv x f g) (i : Nat) : wr.cell? ⟨D, i, none⟩ = (#[.slice (some ⟨s, 0, none⟩) x.n cs, .slice (some ⟨t, 0, none⟩) x.n ct, lv, fv, .bool x.away, .int .i64 (x.done : Int)] : Array Value)[i]? := cell_of_row wr D i _ _ _ h.hd
end Falls
/-- What stands in the row of loose writes at its place k. -/
theorem own_range {w : World} {base g n c : Nat} {L : List Wr} (h : w.ownsRow base 101 33 (.slice (some ⟨g, 0, none⟩) n c) n (lcells L)) (k : Nat) (hk : k < L.length) : w.rangeAt g (k * 33) (wcells (L.getD k noWr)) := fun j u hj => by
  have hl := (List.getElem?_eq_some_iff.1 hj).1
  rw [wcells_length] at hl
  have := h.cells (g := g) rfl (k * 33 + j) u (by rw [lcells_at L k hk j hl]; exact hj)
  rwa [Addr.add_lit, Nat.zero_add] at this
theorem loose_form {w : World} {n : Nat} {v : Value} {xs : List Value} (h : w.ownsRow 0 101 33 v n xs) : (v = .slice none 0 0 ∧ n = 0) ∨ ∃ g c, v = .slice (some ⟨g, 0, none⟩) n c := by
  rcases h.2 with hn | ⟨g, cap, cur, rfl, _⟩
  · exact .inl hn
  · exact .inr ⟨g, cap, rfl⟩

/-- A load of many cells within a head that turns nothing. -/
theorem wpStill_load_midK {P : Program} {ops : Array Oper} {w : World} {Q : Act → Prop} {a : Act} {op : Oper} {rest : List Oper} (hw : Region.wanted op (yielded ops a.tmps) = true) (ty : TypeId) (x : Operand) (ho : op.op = .load ty x)
    (b o : Nat) (hx : a.eval x = .pointer (some ⟨b, o, none⟩)) (cs : List Value) (d : TypeDesc) (hc : w.rangeAt b o cs) (hu : P.underlying ty = some d) (hd : d.isRow = true) (hi : (P.info? ty).map (·.size) = some cs.length)
    (h : wpStill P ops w Q rest (a.put op.dst (.agg cs.toArray))) : wpStill P ops w Q (op :: rest) a := by
  refine wpStill_step (fun K hK => ?_)
  rw [if_pos hw]
  have hr : (execOp a.eval op).run P w = .ok (.value (.agg cs.toArray)) w := by
    unfold execOp
    simp only [ho, hx, Instr.loadAt, Instr.sureAddr, Sem.run_bind, Sem.run_pure, Result.andThen_ok, run_loadVar_mid w b o ty cs d hc hu hd hi]
  unfold Oper.still
  rw [hr]
  exact ⟨rfl, hK _ h⟩
/-- A variable that a round makes, and fills with a write. -/
theorem falls_var {w wr : World} {D s cs t ct : Nat} {lv fv : Value} {x : St} {f g : Nat → UInt8} (h : Falls w wr D s cs t ct lv fv x f g) (z : Array Value) (y : Wr) :
    Falls w ((wr.alloc (.cells z 101)).setRow wr.heap.size (wrA y)) D s cs t ct lv fv x f g ∧ WrAt ((wr.alloc (.cells z 101)).setRow wr.heap.size (wrA y)) wr.heap.size y :=
  ⟨h.then_below (below_setRow' ((Below.refl _ _).alloc (Nat.le_refl _) _) (Nat.le_refl _) _), setRow_heap _ _ _ _ _ _ (heap_alloc_new wr _)⟩
/-- The disk, when the power is gone. -/
theorem falls_end {K : Nat → Prop} {w wr wz : World} {D s cs t ct : Nat} {lv lv' fv fv' : Value} {x : St} {f g : Nat → UInt8} (h : Lies K w D s cs t ct lv' fv' x) (hf : Falls w wr D s cs t ct lv fv x f g)
    (hz : wz.heap[D]? = some (.cells #[.slice (some ⟨s, 0, none⟩) x.n cs, .slice (some ⟨t, 0, none⟩) x.n ct, .slice none 0 0, .pointer none, .bool true, .int .i64 (x.done : Int)] 78 (0, 0))) (ho : ∀ i, i ≠ D → wz.heap[i]? = wr.heap[i]?)
    (he : wz.os = wr.os ∧ wz.tape = wr.tape ∧ wz.output = wr.output) (hs : wr.heap.size ≤ wz.heap.size) :
    DiskSays K w D (.tuple #[]) { x with safe := f, now := g, loose := [], fuse := none, away := true } (.returned (.tuple #[])) wz :=
  ⟨rfl, ⟨s, cs, t, ct, .slice none 0 0, .pointer none, hz, hf.sr.of_block (ho s hf.ds.symm), hf.tr.of_block (ho t hf.dt.symm), hf.ne, h.cs, h.ct, World.ownsRow_nil _ _ _ _, rfl, fun y hy => (by cases hy), h.nb, h.kD, h.ks, h.kt, fun g hg => (by cases hg)⟩,
    ⟨he.1.trans hf.os, he.2.1.trans hf.tape, he.2.2.trans hf.output, Nat.le_trans hf.size hs, fun i hi hk => (ho i (fun e => hk (by rw [e]; exact h.kD))).trans (hf.block i hi (fun e => hk (by rw [e]; exact h.ks)) (fun e => hk (by rw [e]; exact h.kt)))⟩⟩
/-- The last three stores. -/
theorem falls_stores {K : Nat → Prop} {w wr : World} {D s cs t ct : Nat} {lv lv' fv fv' : Value} {x : St} {f g : Nat → UInt8} (h : Lies K w D s cs t ct lv' fv' x) (hf : Falls w wr D s cs t ct lv fv x f g) :
    DiskSays K w D (.tuple #[]) { x with safe := f, now := g, loose := [], fuse := none, away := true } (.returned (.tuple #[])) (((wr.setCell ⟨D, 2, none⟩ (.slice none 0 0)).setCell ⟨D, 3, none⟩ (.pointer none)).setCell ⟨D, 4, none⟩ (.bool true)) := by
  refine falls_end h hf ?_ ?_ ⟨rfl, rfl, rfl⟩ (by simp [World.setCell])
  · have h1 := heap_setCell_same wr D 2 _ _ (.slice none 0 0) hf.hd
    have h2 := heap_setCell_same _ D 3 _ _ (.pointer none) h1
    exact heap_setCell_same _ D 4 _ _ (.bool true) h2
  · intro i hi
    rw [heap_setCell_other _ ⟨D, 4, none⟩ i _ hi, heap_setCell_other _ ⟨D, 3, none⟩ i _ hi, heap_setCell_other _ ⟨D, 2, none⟩ i _ hi]
theorem fall_eq (x : St) (kl : List Bool) (L : List Wr) (m : Nat) (hL : L = x.loose) (hm : m = L.length) :
    x.fall kl = { x with safe := fs x.safe L (kp kl) m, now := fn (fs x.safe L (kp kl) m) x.now L m, loose := [], fuse := none, away := true } := by subst hm hL; rfl
set_option maxRecDepth 100000 in
set_option maxHeartbeats 3200000 in
theorem disk_fall (K : Nat → Prop) (w : World) (D s cs t ct : Nat) (lv fv : Value) (x : St) (h : Lies K w D s cs t ct lv fv x) (hl : x.loose.length ≤ 1073741824) (kv : Value) (kl : List Bool) (hkl : kl.length ≤ 1099511627776) (hk : BoolsAt w kv kl)
    (hkk : ∀ w' : World, (∀ i, i < w.heap.size → i ≠ s → i ≠ t → w'.heap[i]? = w.heap[i]?) → BoolsAt w' kv kl) :
    Calls Tryz.prog 58 #[.pointer (some ⟨D, 0, none⟩), kv] w (DiskSays K w D (.tuple #[]) (x.fall kl)) := by
  have H := Lib.hid h
  have HK := Lib.hid hkk
  have hD := h.lt
  have hcell := h.cell
  have c2 : w.cell? ⟨D, 2, none⟩ = some lv := hcell 2
  clear hcell
  clear h hkk
  obtain ⟨ka, kc, rfl⟩ : ∃ ka kc, kv = .slice ka kl.length kc := by
    rcases hk with ⟨rfl, a, c, rfl⟩ | ⟨b, o, c, rfl, _⟩
    · exact ⟨a, c, rfl⟩
    · exact ⟨_, _, rfl⟩
  clear hk
  have hkT : ∀ w' : World, (∀ i, i < w.heap.size → i ≠ s → i ≠ t → w'.heap[i]? = w.heap[i]?) → ∀ k, k < kl.length → ∃ b o, ka = some ⟨b, o, none⟩ ∧ kl.length ≤ kc ∧ w'.cell? ⟨b, o + k, none⟩ = some (.bool (kp kl k)) := fun w' h' k hkl => by
    rcases HK.out w' h' with ⟨rfl, _⟩ | ⟨b, o, c, he, hc, hx⟩
    · cases hkl
    · injection he with h1 h2 h3
      refine ⟨b, o, h1, by rw [h3]; exact hc, hx k _ ?_⟩
      unfold kp
      rw [List.getD_eq_getElem?_getD, List.getElem?_eq_getElem hkl]
      rfl
  have HKT := Lib.hid hkT
  clear hkT HK
  rcases loose_form H.out.lo with ⟨rfl, hn⟩ | ⟨g, c, rfl⟩
  · have hL0 : x.loose = [] := List.length_eq_zero_iff.1 hn
    have HE := Lib.hid (fall_eq x kl [] 0 hL0.symm rfl)
    have HF := Lib.hid (Falls.start H.out)
    clear HKT
    go_enter Tryz.func58, Tryz.ntmps58
    go_wp2_with (fail)
    go_loopw [13] (fun i wr => i = .int .i64 0 ∧ w = wr) (fun _ _ => 0)
    case atStart => exact ⟨rfl, rfl⟩
    case round =>
      obtain ⟨rfl, rfl⟩ := hrel
      go_wp2_with (fail)
      go_loopw [43] (fun i wr => i = .int .i64 0 ∧ w = wr) (fun _ _ => 0)
      case atStart => exact ⟨rfl, rfl⟩
      case round =>
        obtain ⟨rfl, rfl⟩ := hrel
        have HFS := Lib.hid (falls_stores H.out HF.out)
        have f2 : w.frozen? ⟨D, 2, none⟩ = false := H.out.fz 2
        have f3 : w.frozen? ⟨D, 3, none⟩ = false := H.out.fz 3
        have f4 : w.frozen? ⟨D, 4, none⟩ = false := H.out.fz 4
        have d3 : w.cell? ⟨D, 3, none⟩ = some fv := H.out.cell 3
        have d4 : w.cell? ⟨D, 4, none⟩ = some (.bool x.away) := H.out.cell 4
        go_wp2_with (fail)
        go_end0
        rw [HE.out]
        exact HFS.out
  obtain ⟨L, hL⟩ : ∃ L, L = x.loose := ⟨_, rfl⟩
  have HOW := Lib.hid (show w.ownsRow 0 101 33 (.slice (some ⟨g, 0, none⟩) L.length c) L.length (lcells L) by rw [hL]; exact H.out.lo)
  have hgl : g < w.heap.size := (H.out.lo.lt g rfl).2
  have hgs : g ≠ s := H.out.neLs g rfl
  have hgt : g ≠ t := H.out.neLt g rfl
  have HLN := Lib.hid (show ∀ y ∈ L, y.1 < x.n by rw [hL]; exact H.out.pl)
  have HF := Lib.hid (Falls.start H.out)
  rw [← hL] at c2 hl HF
  have HL := Lib.hid hL
  clear hL
  obtain ⟨m, hm⟩ : ∃ m, m = L.length := ⟨_, rfl⟩
  rw [← hm] at c2 hl HF
  have HM := Lib.hid hm
  clear hm
  go_enter Tryz.func58, Tryz.ntmps58
  go_wp2_with (fail)
  go_loopw [13] (fun i wr => ∃ k : Nat, i = .int .i64 (k : Int) ∧ k ≤ m ∧ Falls w wr D s cs t ct (.slice (some ⟨g, 0, none⟩) m c) fv x (fs x.safe L (kp kl) k) x.now) (fun i _ => match i with | .int _ k => m - k.toNat | _ => 0)
  case atStart => exact ⟨0, rfl, Nat.zero_le _, HF.out⟩
  case round =>
    clear HF c2
    obtain ⟨k, rfl, hkm, hf⟩ := hrel
    have HF := Lib.hid hf
    clear hf
    by_cases hlt : k < m
    · have hRG : wr.rangeAt g (k * 33) (wcells (L.getD k noWr)) := own_range (own_keep HOW.out (fun i hi => by cases hi; exact HF.out.block g hgl hgs hgt)) k (by rw [← HM.out]; exact hlt)
      have HRG := Lib.hid hRG
      have hpl : (L.getD k noWr).1 < x.n := HLN.out _ (by rw [List.getD_eq_getElem?_getD, List.getElem?_eq_getElem (by rw [← HM.out]; exact hlt)]; exact List.getElem_mem _)
      have HNX := Lib.hid (show fs x.safe L (kp kl) (k + 1) = if kp kl k then putS (fs x.safe L (kp kl) k) (L.getD k noWr).1 (L.getD k noWr).2 else fs x.safe L (kp kl) k from rfl)
      clear hRG
      generalize L.getD k noWr = y at HRG hpl HNX
      have x0 : (k : Int) < (m : Int) := by omega
      have x1 : decide ((k : Int) < (m : Int)) = true := decide_eq_true x0
      have x2 : (0 : Int) ≤ (k : Int) := by omega
      have HWI := Lib.hid (show (Tryz.prog.info? 101).map (·.size) = some (wcells y).length by rw [wcells_length]; exact sizeW)
      have HWA := Lib.hid (show (Tryz.prog.info? 101).map (·.size) = some (wrA y).size by rw [wrA_size]; exact sizeW)
      have HWO := Lib.hid (wrA_one y)
      have HFV := Lib.hid (fun z => falls_var HF.out z y)
      have hD2 : D < wr.heap.size := (Array.getElem?_eq_some_iff.1 HF.out.hd).1
      have hs2 : s < wr.heap.size := HF.out.sr.lt
      by_cases hkk : k < kl.length
      · obtain ⟨b, o, rfl, hkc, _⟩ := HKT.out wr (fun i hi h1 h2 => HF.out.block i hi h1 h2) k hkk
        have HK2 := Lib.hid (show ∀ w' : World, (∀ i, i < w.heap.size → i ≠ s → i ≠ t → w'.heap[i]? = w.heap[i]?) → w'.cell? ⟨b, o + k, none⟩ = some (.bool (kp kl k)) from fun w' h' => by
          obtain ⟨b', o', he, _, hx⟩ := HKT.out w' h' k hkk
          injection he with he
          injection he with h1 h2
          subst h1 h2
          exact hx)
        have y0 : (k : Int) < (kl.length : Int) := by omega
        have y1 : decide ((k : Int) < (kl.length : Int)) = true := decide_eq_true y0
        cases hkp : kp kl k with
        | true =>
          rw [hkp] at HK2 HNX
          rw [if_pos rfl] at HNX
          have HSI := Lib.hid (show (Tryz.prog.info? 73).map (·.size) = some (secL y.2).length by rw [secL_length]; exact sizeS)
          have HSA := Lib.hid (show (Tryz.prog.info? 73).map (·.size) = some (secL y.2).toArray.size by rw [List.size_toArray, secL_length]; exact sizeS)
          have HSO := Lib.hid (show (secL y.2).toArray.all (·.oneCell') = true by rw [secA_list]; exact secA_one y.2)
          go_wp2_with (first
            | (with_reducible refine wpList_load_mid rfl 101 _ rfl g (k * 33) rfl (wcells y) _ HRG.out Tryz.underlying101 rfl HWI.out ?_)
            | (refine wpList_store_row rfl 101 (.tmp 5) (.tmp 17) rfl wr.heap.size (wrA y) rfl rfl 101 _ (heap_alloc_new _ _) HWA.out (by rw [wrA_size]; rfl) HWO.out ?_
               refine gen_list (fun W => Falls w W D s cs t ct (.slice (some ⟨g, 0, none⟩) m c) fv x (fs x.safe L (kp kl) k) x.now ∧ WrAt W wr.heap.size y) (HFV.out _) ?_
               rintro w5 ⟨h5, v5⟩
               have k5 := HK2.out w5 (fun i hi h1 h2 => h5.block i hi h1 h2)
               have d5 : w5.cell? ⟨D, 0, none⟩ = some (.slice (some ⟨s, 0, none⟩) x.n cs) := h5.cell 0
               have p5 := v5.place
               have H5 := Lib.hid h5
               have V5 := Lib.hid v5
               clear h5 v5))
          have q0 : 0 ≤ (y.1 : Int) := by omega
          have q1 : (y.1 : Int) < (x.n : Int) := by omega
          have H5d := Lib.hid H5.out.drew
          have V5d := Lib.hid (show WrAt w5.drew wr.heap.size y from V5.out)
          go_still_tail 9, (by kernel_rfl)
          refine wpStill_load_midK (by rfl) 73 (.tmp 34) rfl wr.heap.size 1 rfl (secL y.2) _ V5d.out.bytes Tryz.underlying73 rfl HSI.out ?_
          repeat still_step
          refine wpStill_nil ?_
          change wpList _ _ _ _ _ w5.drew
          clear k5 d5 p5 H5 V5
          generalize w5.drew = w6 at H5d V5d ⊢
          have d6 : w6.cell? ⟨D, 0, none⟩ = some (.slice (some ⟨s, 0, none⟩) x.n cs) := H5d.out.cell 0
          have p6 := V5d.out.place
          have HTH := Lib.hid (show w6.there s (y.1 * 32) (secL y.2).toArray.size by rw [List.size_toArray, secL_length]; exact H5d.out.sr.there hpl)
          have HPF := Lib.hid (H5d.out.putF hpl y.2)
          refine wpList_store_mid rfl 73 (.tmp 36) (.tmp 35) rfl s (y.1 * 32) (secL y.2).toArray rfl rfl HTH.out HSA.out HSO.out ?_
          refine gen_list (fun W => Falls w W D s cs t ct (.slice (some ⟨g, 0, none⟩) m c) fv x (putS (fs x.safe L (kp kl) k) y.1 y.2) x.now) HPF.out ?_
          rintro w7 h7
          have H7 := Lib.hid h7
          clear h7 HPF HTH H5d V5d d6 p6
          go_wp2_with (fail)
          exact ⟨⟨k + 1, rfl, by omega, by rw [HNX.out]; exact H7.out⟩, by show m - ((k : Int) + 1).toNat < m - (k : Int).toNat; omega⟩
        | false =>
          rw [hkp] at HK2 HNX
          rw [if_neg Bool.false_ne_true] at HNX
          go_wp2_with (first
            | (with_reducible refine wpList_load_mid rfl 101 _ rfl g (k * 33) rfl (wcells y) _ HRG.out Tryz.underlying101 rfl HWI.out ?_)
            | (refine wpList_store_row rfl 101 (.tmp 5) (.tmp 17) rfl wr.heap.size (wrA y) rfl rfl 101 _ (heap_alloc_new _ _) HWA.out (by rw [wrA_size]; rfl) HWO.out ?_
               refine gen_list (fun W => Falls w W D s cs t ct (.slice (some ⟨g, 0, none⟩) m c) fv x (fs x.safe L (kp kl) k) x.now) (HFV.out _).1 ?_
               rintro w5 h5
               have k5 := HK2.out w5 (fun i hi h1 h2 => h5.block i hi h1 h2)
               have H5 := Lib.hid h5
               clear h5))
          exact ⟨⟨k + 1, rfl, by omega, by rw [HNX.out]; exact H5.out⟩, by show m - ((k : Int) + 1).toNat < m - (k : Int).toNat; omega⟩
      · have y0 : ¬ (k : Int) < (kl.length : Int) := by omega
        have y1 : decide ((k : Int) < (kl.length : Int)) = false := decide_eq_false y0
        have hkp : kp kl k = false := by unfold kp; rw [List.getD_eq_getElem?_getD, List.getElem?_eq_none (by omega)]; rfl
        rw [hkp, if_neg Bool.false_ne_true] at HNX
        clear hkp
        go_wp2_with (first
          | (with_reducible refine wpList_load_mid rfl 101 _ rfl g (k * 33) rfl (wcells y) _ HRG.out Tryz.underlying101 rfl HWI.out ?_)
          | (refine wpList_store_row rfl 101 (.tmp 5) (.tmp 17) rfl wr.heap.size (wrA y) rfl rfl 101 _ (heap_alloc_new _ _) HWA.out (by rw [wrA_size]; rfl) HWO.out ?_))
        exact ⟨⟨k + 1, rfl, by omega, by rw [HNX.out]; exact (HFV.out _).1⟩, by show m - ((k : Int) + 1).toNat < m - (k : Int).toNat; omega⟩
    · have hke : k = m := by omega
      subst hke
      have x0 : ¬ (k : Int) < (k : Int) := by omega
      have x1 : decide ((k : Int) < (k : Int)) = false := decide_eq_false x0
      have d2 : wr.cell? ⟨D, 2, none⟩ = some (.slice (some ⟨g, 0, none⟩) k c) := HF.out.cell 2
      clear hlt x0
      have HE := Lib.hid (fall_eq x kl L k HL.out HM.out)
      have HF0 := Lib.hid HF.out
      clear HKT HF
      go_wp2_with (fail)
      clear d2
      obtain ⟨F, hF⟩ : ∃ F, F = fs x.safe L (kp kl) k := ⟨_, rfl⟩
      rw [← hF] at HE HF0
      clear hF
      go_loopw [43] (fun i wy => ∃ q : Nat, i = .int .i64 (q : Int) ∧ q ≤ k ∧ Falls w wy D s cs t ct (.slice (some ⟨g, 0, none⟩) k c) fv x F (fn F x.now L q)) (fun i _ => match i with | .int _ q => k - q.toNat | _ => 0)
      case atStart => exact ⟨0, rfl, Nat.zero_le _, HF0.out⟩
      case round =>
        clear HF0 x1
        obtain ⟨q, rfl, hqk, hf⟩ := hrel
        have HF := Lib.hid hf
        clear hf
        by_cases hlt : q < k
        · have hRG : wr.rangeAt g (q * 33) (wcells (L.getD q noWr)) := own_range (own_keep HOW.out (fun i hi => by cases hi; exact HF.out.block g hgl hgs hgt)) q (by rw [← HM.out]; exact hlt)
          have HRG := Lib.hid hRG
          have hpl : (L.getD q noWr).1 < x.n := HLN.out _ (by rw [List.getD_eq_getElem?_getD, List.getElem?_eq_getElem (by rw [← HM.out]; exact hlt)]; exact List.getElem_mem _)
          have HNX := Lib.hid (show fn F x.now L (q + 1) = putS (fn F x.now L q) (L.getD q noWr).1 (sect F (L.getD q noWr).1) from rfl)
          clear hRG
          generalize L.getD q noWr = y at HRG hpl HNX
          have x0 : (q : Int) < (k : Int) := by omega
          have x1 : decide ((q : Int) < (k : Int)) = true := decide_eq_true x0
          have x2 : (0 : Int) ≤ (q : Int) := by omega
          have HWI := Lib.hid (show (Tryz.prog.info? 101).map (·.size) = some (wcells y).length by rw [wcells_length]; exact sizeW)
          have HWA := Lib.hid (show (Tryz.prog.info? 101).map (·.size) = some (wrA y).size by rw [wrA_size]; exact sizeW)
          have HWO := Lib.hid (wrA_one y)
          have HFV := Lib.hid (fun z => falls_var HF.out z y)
          have hD2 : D < wr.heap.size := (Array.getElem?_eq_some_iff.1 HF.out.hd).1
          have HSI := Lib.hid (show (Tryz.prog.info? 73).map (·.size) = some (secL (sect F y.1)).length by rw [secL_length]; exact sizeS)
          have HSA := Lib.hid (show (Tryz.prog.info? 73).map (·.size) = some (secL (sect F y.1)).toArray.size by rw [List.size_toArray, secL_length]; exact sizeS)
          have HSO := Lib.hid (show (secL (sect F y.1)).toArray.all (·.oneCell') = true by rw [secA_list]; exact secA_one _)
          go_wp2_with (first
            | (with_reducible refine wpList_load_mid rfl 101 _ rfl g (q * 33) rfl (wcells y) _ HRG.out Tryz.underlying101 rfl HWI.out ?_)
            | (refine wpList_store_row rfl 101 (.tmp 7) (.tmp 46) rfl wr.heap.size (wrA y) rfl rfl 101 _ (heap_alloc_new _ _) HWA.out (by rw [wrA_size]; rfl) HWO.out ?_
               refine gen_list (fun W => Falls w W D s cs t ct (.slice (some ⟨g, 0, none⟩) k c) fv x F (fn F x.now L q) ∧ WrAt W wr.heap.size y) (HFV.out _) ?_
               rintro w5 ⟨h5, v5⟩
               have d5 : w5.cell? ⟨D, 0, none⟩ = some (.slice (some ⟨s, 0, none⟩) x.n cs) := h5.cell 0
               have e5 : w5.cell? ⟨D, 1, none⟩ = some (.slice (some ⟨t, 0, none⟩) x.n ct) := h5.cell 1
               have p5 := v5.place
               have H5 := Lib.hid h5
               have V5 := Lib.hid v5
               clear h5 v5))
          have q0 : 0 ≤ (y.1 : Int) := by omega
          have q1 : (y.1 : Int) < (x.n : Int) := by omega
          have H5d := Lib.hid H5.out.drew
          go_still_tail 15, (by kernel_rfl)
          refine wpStill_load_midK (by rfl) 73 (.tmp 59) rfl s (y.1 * 32) rfl (secL (sect F y.1)) _ (H5d.out.sr.range hpl) Tryz.underlying73 rfl HSI.out ?_
          repeat still_step
          refine wpStill_nil ?_
          change wpList _ _ _ _ _ w5.drew
          clear d5 e5 p5 H5 V5
          generalize w5.drew = w6 at H5d ⊢
          have HTH := Lib.hid (show w6.there t (y.1 * 32) (secL (sect F y.1)).toArray.size by rw [List.size_toArray, secL_length]; exact H5d.out.tr.there hpl)
          have HPF := Lib.hid (H5d.out.putG hpl (sect F y.1))
          refine wpList_store_mid rfl 73 (.tmp 61) (.tmp 60) rfl t (y.1 * 32) (secL (sect F y.1)).toArray rfl rfl HTH.out HSA.out HSO.out ?_
          refine gen_list (fun W => Falls w W D s cs t ct (.slice (some ⟨g, 0, none⟩) k c) fv x F (putS (fn F x.now L q) y.1 (sect F y.1))) HPF.out ?_
          rintro w7 h7
          have H7 := Lib.hid h7
          clear h7 HPF HTH H5d
          go_wp2_with (fail)
          exact ⟨⟨q + 1, rfl, by omega, by rw [HNX.out]; exact H7.out⟩, by show k - ((q : Int) + 1).toNat < k - (q : Int).toNat; omega⟩
        · have hke : q = k := by omega
          subst hke
          have x0 : ¬ (q : Int) < (q : Int) := by omega
          have x1 : decide ((q : Int) < (q : Int)) = false := decide_eq_false x0
          have HFS := Lib.hid (falls_stores H.out HF.out)
          have f2 : wr.frozen? ⟨D, 2, none⟩ = false := frozen_of_row wr D 2 _ _ HF.out.hd
          have f3 : wr.frozen? ⟨D, 3, none⟩ = false := frozen_of_row wr D 3 _ _ HF.out.hd
          have f4 : wr.frozen? ⟨D, 4, none⟩ = false := frozen_of_row wr D 4 _ _ HF.out.hd
          have d2 : wr.cell? ⟨D, 2, none⟩ = some (.slice (some ⟨g, 0, none⟩) q c) := HF.out.cell 2
          have d3 : wr.cell? ⟨D, 3, none⟩ = some fv := HF.out.cell 3
          have d4 : wr.cell? ⟨D, 4, none⟩ = some (.bool x.away) := HF.out.cell 4
          clear hlt x0
          go_wp2_with (fail)
          go_end0
          rw [HE.out]
          exact HFS.out
end Go.Proofs.YtnmgkkjnjllpbaaGreatDoor
namespace Go.Proofs.YtnmgkkjnjllpbaaGreatDoor
open Go.ChangeShapes Go.WideShapes Go.ChangeAt Go.RowKit Dk

/-- The disk's own block and its fuse's written anew, all else as it was. -/
theorem Lies.refuse {K : Nat → Prop} {w w' : World} {D s cs t ct : Nat} {lv fv fv' : Value} {x y : St} (h : Lies K w D s cs t ct lv fv x) (hh : w'.heap[D]? = some (.cells #[.slice (some ⟨s, 0, none⟩) x.n cs, .slice (some ⟨t, 0, none⟩) x.n ct, lv, fv', .bool y.away, .int .i64 (y.done : Int)] 78 (0, 0)))
    (hf : FuseAt K w' fv' y.fuse) (ho : ∀ (i : Nat) (c : Array Value) (u : TypeId), i ≠ D → u ≠ 107 → w.heap[i]? = some (.cells c u (0, 0)) → w'.heap[i]? = w.heap[i]?) (h1 : y.n = x.n) (h2 : y.safe = x.safe) (h3 : y.now = x.now) (h4 : y.loose = x.loose) : Lies K w' D s cs t ct lv fv' y := by
  obtain ⟨n, sa, no, lo, fu, aw, dn⟩ := y
  subst h1 h2 h3 h4
  refine ⟨hh, ?_, ?_, h.ne, h.cs, h.ct, own_keep h.lo (fun g hg => ?_), hf, h.pl, h.nb, h.kD, h.ks, h.kt, h.kl⟩
  · obtain ⟨c, hc, _⟩ := h.sr
    exact h.sr.of_block (ho s c _ h.neDs.symm (by decide) hc)
  · obtain ⟨c, hc, _⟩ := h.tr
    exact h.tr.of_block (ho t c _ h.neDt.symm (by decide) hc)
  · obtain ⟨c, hc⟩ := own_type h.lo g hg
    exact ho g c _ (h.neLD g hg) (by decide) hc
/-- A fuse's bools stay, whatever is written into the disk's rows. -/
theorem fuse_bools {K : Nat → Prop} {w : World} {D s cs t ct : Nat} {lv fv : Value} {x : St} (h : Lies K w D s cs t ct lv fv x) {kv : Value} {kl : List Bool} (hk : OwnBools K w kv kl) :
    ∀ w' : World, (∀ i, i < w.heap.size → i ≠ s → i ≠ t → w'.heap[i]? = w.heap[i]?) → BoolsAt w' kv kl := fun w' he => by
  obtain ⟨c, hc, _⟩ := h.sr
  obtain ⟨d, hd, _⟩ := h.tr
  exact (hk.keepT (fun i cur hi => he i (Array.getElem?_eq_some_iff.1 hi).1 (ne_type hi hc (by decide)) (ne_type hi hd (by decide)))).at_
section
variable (K : Nat → Prop) (w : World) (D : Nat) (x : St)
set_option maxRecDepth 100000 in
set_option maxHeartbeats 800000 in
theorem disk_burn_none (h : DiskAt K w D x) (hf : x.fuse = none) (hd : x.done < 4611686018427387904) :
    Calls Tryz.prog 53 #[.pointer (some ⟨D, 0, none⟩)] w (DiskSays K w D (.int .i64 0) x.burnt) := by
  obtain ⟨s, cs, t, ct, lv, fv, h⟩ := h
  have hfu := h.fu
  rw [hf] at hfu
  obtain rfl : fv = .pointer none := hfu
  have H := Lib.hid h
  have c3 : w.cell? ⟨D, 3, none⟩ = some (.pointer none) := h.cell 3
  have c5 : w.cell? ⟨D, 5, none⟩ = some (.int .i64 (x.done : Int)) := h.cell 5
  have f5 := h.fz 5
  have e1 : IntKind.i64.wrap ((x.done : Int) + 1) = (x.done : Int) + 1 := IntWalk.i64_in _ (by omega)
  have HH := Lib.hid (show Lies K (w.setCell ⟨D, 5, none⟩ (.int .i64 ((x.done : Int) + 1))) D s cs t ct lv (.pointer none) x.burnt from
    h.refuse (y := x.burnt) (heap_setCell_same w D 5 _ _ _ h.hd) (by show FuseAt K _ _ (x.fuse.map _); rw [hf]; rfl) (fun i c u hi _ _ => heap_setCell_other w ⟨D, 5, none⟩ i _ hi) rfl rfl rfl rfl)
  have HK := Lib.hid ((Kept.refl K w).setCell (a := ⟨D, 5, none⟩) (.inl h.kD) (.int .i64 ((x.done : Int) + 1)))
  clear h hf hd
  generalize (x.done : Int) = dn at c5 e1 HH HK
  go_enter Tryz.func53, Tryz.ntmps53
  go_wp2_with (fail)
  refine bodyPost_ret (results_tmp rfl _ _ _) rfl ?_
  exact ⟨rfl, ⟨s, cs, t, ct, lv, _, HH.out⟩, HK.out⟩
set_option maxRecDepth 100000 in
set_option maxHeartbeats 800000 in
theorem disk_burn_some (h : DiskAt K w D x) (l : Nat) (kl : List Bool) (hf : x.fuse = some (l + 1, kl)) (hd : x.done < 4611686018427387904) :
    Calls Tryz.prog 53 #[.pointer (some ⟨D, 0, none⟩)] w (DiskSays K w D (.int .i64 0) x.burnt) := by
  obtain ⟨s, cs, t, ct, lv, fv, h⟩ := h
  have hfu := h.fu
  rw [hf] at hfu
  obtain ⟨fb, kv, rfl, hfb, hkv, hlt, hkf⟩ := hfu
  have H := Lib.hid h
  have c3 : w.cell? ⟨D, 3, none⟩ = some (.pointer (some ⟨fb, 0, none⟩)) := h.cell 3
  have c5 : w.cell? ⟨D, 5, none⟩ = some (.int .i64 (x.done : Int)) := h.cell 5
  have f5 := h.fz 5
  have g0 : w.cell? ⟨fb, 0, none⟩ = some (.int .i64 ((l + 1 : Nat) : Int)) := cell_of_row w fb 0 _ _ _ hfb
  have z0 : w.frozen? ⟨fb, 0, none⟩ = false := frozen_of_row w fb 0 _ _ hfb
  have e1 : IntKind.i64.wrap ((x.done : Int) + 1) = (x.done : Int) + 1 := IntWalk.i64_in _ (by omega)
  have e2 : IntKind.i64.wrap (((l + 1 : Nat) : Int) - 1) = (l : Int) := (IntWalk.i64_in _ (by omega)).trans (by omega)
  have e3 : ¬ ((l + 1 : Nat) : Int) = 0 := by omega
  have e4 : (((l + 1 : Nat) : Int) == 0) = false := beq_eq_false_iff_ne.2 e3
  have hne : D ≠ fb := ne_type h.hd hfb (by decide)
  have n1 : (⟨fb, 0, none⟩ : Addr) ≠ ⟨D, 5, none⟩ := fun e => by injection e with e; exact hne e.symm
  have HH := Lib.hid (show Lies K ((w.setCell ⟨fb, 0, none⟩ (.int .i64 (l : Int))).setCell ⟨D, 5, none⟩ (.int .i64 ((x.done : Int) + 1))) D s cs t ct lv (.pointer (some ⟨fb, 0, none⟩)) x.burnt by
    have hD1 : (w.setCell ⟨fb, 0, none⟩ (.int .i64 (l : Int))).heap[D]? = w.heap[D]? := heap_setCell_other w ⟨fb, 0, none⟩ D _ hne
    have ho : ∀ i, i ≠ D → i ≠ fb → ((w.setCell ⟨fb, 0, none⟩ (.int .i64 (l : Int))).setCell ⟨D, 5, none⟩ (.int .i64 ((x.done : Int) + 1))).heap[i]? = w.heap[i]? := fun i hi hj => by
      rw [heap_setCell_other _ ⟨D, 5, none⟩ i _ hi, heap_setCell_other w ⟨fb, 0, none⟩ i _ hj]
    refine h.refuse (y := x.burnt) (heap_setCell_same _ D 5 _ _ _ (hD1.trans h.hd)) ?_ (fun i c u hi hu hc => ho i hi (ne_type hc hfb hu)) rfl rfl rfl rfl
    show FuseAt K _ _ (x.fuse.map _)
    rw [hf]
    refine ⟨fb, kv, rfl, ?_, hkv.keepT (fun i cur hi => ho i (ne_type hi h.hd (by decide)) (ne_type hi hfb (by decide))), by omega, hkf⟩
    rw [heap_setCell_other _ ⟨D, 5, none⟩ fb _ hne.symm]
    exact heap_setCell_same w fb 0 _ _ _ hfb)
  have HK := Lib.hid (((Kept.refl K w).setCell (a := ⟨fb, 0, none⟩) (.inl hkf) (.int .i64 (l : Int))).setCell (a := ⟨D, 5, none⟩) (.inl h.kD) (.int .i64 ((x.done : Int) + 1)))
  clear h hf hd hkv hfb hlt
  generalize (x.done : Int) = dn at c5 e1 HH HK
  generalize ((l + 1 : Nat) : Int) = l1 at g0 e2 e3 e4
  go_enter Tryz.func53, Tryz.ntmps53
  go_wp2_with (fail)
  refine bodyPost_ret (results_tmp rfl _ _ _) rfl ?_
  exact ⟨rfl, ⟨s, cs, t, ct, lv, _, HH.out⟩, HK.out⟩
set_option maxRecDepth 100000 in
set_option maxHeartbeats 800000 in
theorem disk_burn_end (h : DiskAt K w D x) (kl : List Bool) (hf : x.fuse = some (0, kl)) (hl : x.loose.length ≤ 1073741824) (hkl : kl.length ≤ 1099511627776) :
    Calls Tryz.prog 53 #[.pointer (some ⟨D, 0, none⟩)] w (DiskSays K w D (.int .i64 4) (x.fall kl)) := by
  obtain ⟨s, cs, t, ct, lv, fv, h⟩ := h
  have hfu := h.fu
  rw [hf] at hfu
  obtain ⟨fb, kv, rfl, hfb, hkv, hlt, hkf⟩ := hfu
  have HFA := Lib.hid (disk_fall K w D s cs t ct lv _ x h hl kv kl hkl hkv.at_ (fuse_bools h hkv))
  have c3 : w.cell? ⟨D, 3, none⟩ = some (.pointer (some ⟨fb, 0, none⟩)) := h.cell 3
  have g0 : w.cell? ⟨fb, 0, none⟩ = some (.int .i64 0) := cell_of_row w fb 0 _ _ _ hfb
  have g1 : w.cell? ⟨fb, 1, none⟩ = some kv := cell_of_row w fb 1 _ _ _ hfb
  have o1 : ∃ a n c, kv = .slice a n c := by
    rcases hkv with ⟨_, rfl⟩ | ⟨kb, c, cur, rfl, _⟩
    · exact ⟨_, _, _, rfl⟩
    · exact ⟨_, _, _, rfl⟩
  obtain ⟨a, n, c, rfl⟩ := o1
  clear h hf hkv hfb hlt
  go_enter Tryz.func53, Tryz.ntmps53
  go_wp2_with (fail)
  refine HFA.out.mono ?_
  rintro e w1 ⟨rfl, h1, h2⟩
  have H1 := Lib.hid h1
  have H2 := Lib.hid h2
  clear h1 h2 HFA
  go_wp2
  refine bodyPost_ret (results_tmp rfl _ _ _) rfl ?_
  exact ⟨rfl, H1.out, H2.out⟩
end
end Go.Proofs.YtnmgkkjnjllpbaaGreatDoor
namespace Go.Proofs.YtnmgkkjnjllpbaaGreatDoor
open Go.ChangeShapes Go.WideShapes Go.ChangeAt Go.RowKit Dk

/-- The disk behind a sync. -/
theorem falls_sync {K : Nat → Prop} {w wr : World} {D s cs t ct : Nat} {lv : Value} {fv : Value} {x : St} {f : Nat → UInt8} (h : Lies K w D s cs t ct lv fv x) (hf : Falls w wr D s cs t ct lv fv x f x.now) :
    DiskSays K w D (.int .i64 0) { x with safe := f, loose := [] } (.returned (.int .i64 0)) (wr.setCell ⟨D, 2, none⟩ (.slice none 0 0)) := by
  have ho : ∀ i, i ≠ D → (wr.setCell ⟨D, 2, none⟩ (.slice none 0 0)).heap[i]? = wr.heap[i]? := fun i hi => heap_setCell_other wr ⟨D, 2, none⟩ i _ hi
  have hfz : FuseAt K (wr.setCell ⟨D, 2, none⟩ (.slice none 0 0)) fv x.fuse := by
    obtain ⟨c1, hc1, _⟩ := h.sr
    obtain ⟨c2, hc2, _⟩ := h.tr
    have hk : ∀ (i : Nat) (c : Array Value) (u : TypeId), u ≠ 73 → u ≠ 78 → w.heap[i]? = some (.cells c u (0, 0)) → (wr.setCell ⟨D, 2, none⟩ (.slice none 0 0)).heap[i]? = w.heap[i]? := fun i c u h1 h2 hc =>
      (ho i (ne_type hc h.hd h2)).trans (hf.block i (Array.getElem?_eq_some_iff.1 hc).1 (ne_type hc hc1 h1) (ne_type hc hc2 h1))
    have hfu := h.fu
    generalize x.fuse = fu at hfu ⊢
    match fu, hfu with
    | none, h0 => exact h0
    | some (l, kl), ⟨fb, kv, h1, h2, h3, h4, h5⟩ => exact ⟨fb, kv, h1, (hk fb _ _ (by decide) (by decide) h2).trans h2, h3.keepT (fun i cur hi => hk i cur _ (by decide) (by decide) hi), h4, h5⟩
  exact ⟨rfl, ⟨s, cs, t, ct, .slice none 0 0, fv, heap_setCell_same wr D 2 _ _ _ hf.hd, hf.sr.of_block (ho s hf.ds.symm), hf.tr.of_block (ho t hf.dt.symm), hf.ne, h.cs, h.ct, World.ownsRow_nil _ _ _ _, hfz, fun y hy => (by cases hy), h.nb, h.kD, h.ks, h.kt, fun g hg => (by cases hg)⟩,
    ⟨hf.os, hf.tape, hf.output, Nat.le_trans hf.size (by simp [World.setCell]), fun i hi hk => (ho i (fun e => hk (by rw [e]; exact h.kD))).trans (hf.block i hi (fun e => hk (by rw [e]; exact h.ks)) (fun e => hk (by rw [e]; exact h.kt)))⟩⟩
theorem synced_eq (x : St) (L : List Wr) (m : Nat) (hL : L = x.loose) (hm : m = L.length) : x.synced = { x with safe := fs x.safe L (fun _ => true) m, loose := [] } := by subst hm hL; rfl
theorem DiskSays.after {K : Nat → Prop} {w w1 : World} {D : Nat} {v : Value} {x : St} (hk : Kept K w w1) : ∀ {e : Ending} {w2 : World}, DiskSays K w1 D v x e w2 → DiskSays K w D v x e w2 := fun ⟨a, b, c⟩ => ⟨a, b, hk.trans c⟩
section
variable (K : Nat → Prop) (w : World) (D : Nat) (x : St)
theorem disk_sync_away (h : DiskAt K w D x) (ha : x.away = true) : Calls Tryz.prog 24 #[.pointer (some ⟨D, 0, none⟩)] w fun e w' => e = .returned (.int .i64 4) ∧ w = w' := by
  obtain ⟨s, cs, t, ct, lv, fv, h⟩ := h
  have c4 : w.cell? ⟨D, 4, none⟩ = some (.bool x.away) := h.cell 4
  rw [ha] at c4
  clear h
  go_enter Tryz.func24, Tryz.ntmps24
  go_wp2_with (fail)
  refine bodyPost_ret (results_tmp rfl _ _ _) rfl ?_
  exact ⟨rfl, rfl⟩
theorem disk_sync_end (h : DiskAt K w D x) (ha : x.away = false) (kl : List Bool) (hf : x.fuse = some (0, kl)) (hl : x.loose.length ≤ 1073741824) (hkl : kl.length ≤ 1099511627776) :
    Calls Tryz.prog 24 #[.pointer (some ⟨D, 0, none⟩)] w (DiskSays K w D (.int .i64 4) (x.fall kl)) := by
  have HB := Lib.hid (disk_burn_end K w D x h kl hf hl hkl)
  obtain ⟨s, cs, t, ct, lv, fv, h⟩ := h
  have c4 : w.cell? ⟨D, 4, none⟩ = some (.bool x.away) := h.cell 4
  rw [ha] at c4
  clear h
  go_enter Tryz.func24, Tryz.ntmps24
  go_wp2_with (fail)
  refine HB.out.mono ?_
  rintro e w1 ⟨rfl, h1, h2⟩
  have H1 := Lib.hid h1
  have H2 := Lib.hid h2
  clear h1 h2 HB
  go_wp2
  refine bodyPost_ret (results_tmp rfl _ _ _) rfl ?_
  exact ⟨rfl, H1.out, H2.out⟩
set_option maxRecDepth 100000 in
set_option maxHeartbeats 3200000 in
/-- A sync, behind what the fuse burnt to. -/
theorem disk_sync_ok (h : DiskAt K w D x) (ha : x.away = false) (hl : x.loose.length ≤ 1073741824) (hb : Calls Tryz.prog 53 #[.pointer (some ⟨D, 0, none⟩)] w (DiskSays K w D (.int .i64 0) x.burnt)) :
    Calls Tryz.prog 24 #[.pointer (some ⟨D, 0, none⟩)] w (DiskSays K w D (.int .i64 0) x.burnt.synced) := by
  have HBU := Lib.hid hb
  obtain ⟨s, cs, t, ct, lv, fv, h⟩ := h
  have c4 : w.cell? ⟨D, 4, none⟩ = some (.bool x.away) := h.cell 4
  rw [ha] at c4
  clear h hb
  have hl2 : x.burnt.loose.length ≤ 1073741824 := hl
  generalize x.burnt = y at HBU hl2 ⊢
  clear hl ha s cs t ct lv fv
  go_enter Tryz.func24, Tryz.ntmps24
  go_wp2_with (fail)
  refine HBU.out.mono ?_
  rintro e w1 ⟨rfl, ⟨s, cs, t, ct, lv, fv, h⟩, hk⟩
  have H := Lib.hid h
  have HKP := Lib.hid hk
  have c2 : w1.cell? ⟨D, 2, none⟩ = some lv := h.cell 2
  clear h hk HBU c4
  rcases loose_form H.out.lo with ⟨rfl, hn⟩ | ⟨g, c, rfl⟩
  · have hL0 : y.loose = [] := List.length_eq_zero_iff.1 hn
    have HE := Lib.hid (synced_eq y [] 0 hL0.symm rfl)
    have f2 : w1.frozen? ⟨D, 2, none⟩ = false := H.out.fz 2
    have HFS := Lib.hid (DiskSays.after HKP.out (falls_sync H.out (Falls.start H.out)))
    go_wp2_with (fail)
    go_loopw [22] (fun i wr => i = .int .i64 0 ∧ w1 = wr) (fun _ _ => 0)
    case atStart => exact ⟨rfl, rfl⟩
    case round =>
      obtain ⟨rfl, rfl⟩ := hrel
      go_wp2_with (fail)
      refine bodyPost_ret (results_tmp rfl _ _ _) rfl ?_
      rw [HE.out]
      exact HFS.out
  obtain ⟨L, hL⟩ : ∃ L, L = y.loose := ⟨_, rfl⟩
  have HOW := Lib.hid (show w1.ownsRow 0 101 33 (.slice (some ⟨g, 0, none⟩) L.length c) L.length (lcells L) by rw [hL]; exact H.out.lo)
  have hgl : g < w1.heap.size := (H.out.lo.lt g rfl).2
  have hgs : g ≠ s := H.out.neLs g rfl
  have hgt : g ≠ t := H.out.neLt g rfl
  have HLN := Lib.hid (show ∀ u ∈ L, u.1 < y.n by rw [hL]; exact H.out.pl)
  have HF := Lib.hid (Falls.start H.out)
  rw [← hL] at c2 hl2 HF
  have HL := Lib.hid hL
  clear hL
  obtain ⟨m, hm⟩ : ∃ m, m = L.length := ⟨_, rfl⟩
  rw [← hm] at c2 hl2 HF
  have HM := Lib.hid hm
  clear hm
  go_wp2_with (fail)
  go_loopw [22] (fun i wr => ∃ k : Nat, i = .int .i64 (k : Int) ∧ k ≤ m ∧ Falls w1 wr D s cs t ct (.slice (some ⟨g, 0, none⟩) m c) fv y (fs y.safe L (fun _ => true) k) y.now) (fun i _ => match i with | .int _ k => m - k.toNat | _ => 0)
  case atStart => exact ⟨0, rfl, Nat.zero_le _, HF.out⟩
  case round =>
    clear HF c2
    obtain ⟨k, rfl, hkm, hf⟩ := hrel
    have HF := Lib.hid hf
    clear hf
    by_cases hlt : k < m
    · have hRG : wr.rangeAt g (k * 33) (wcells (L.getD k noWr)) := own_range (own_keep HOW.out (fun i hi => by cases hi; exact HF.out.block g hgl hgs hgt)) k (by rw [← HM.out]; exact hlt)
      have HRG := Lib.hid hRG
      have hpl : (L.getD k noWr).1 < y.n := HLN.out _ (by rw [List.getD_eq_getElem?_getD, List.getElem?_eq_getElem (by rw [← HM.out]; exact hlt)]; exact List.getElem_mem _)
      have HNX := Lib.hid (show fs y.safe L (fun _ => true) (k + 1) = putS (fs y.safe L (fun _ => true) k) (L.getD k noWr).1 (L.getD k noWr).2 from if_pos rfl)
      clear hRG
      generalize L.getD k noWr = z at HRG hpl HNX
      have x0 : (k : Int) < (m : Int) := by omega
      have x1 : decide ((k : Int) < (m : Int)) = true := decide_eq_true x0
      have x2 : (0 : Int) ≤ (k : Int) := by omega
      have HWI := Lib.hid (show (Tryz.prog.info? 101).map (·.size) = some (wcells z).length by rw [wcells_length]; exact sizeW)
      have HWA := Lib.hid (show (Tryz.prog.info? 101).map (·.size) = some (wrA z).size by rw [wrA_size]; exact sizeW)
      have HWO := Lib.hid (wrA_one z)
      have HFV := Lib.hid (fun q => falls_var HF.out q z)
      have HSI := Lib.hid (show (Tryz.prog.info? 73).map (·.size) = some (secL z.2).length by rw [secL_length]; exact sizeS)
      have HSA := Lib.hid (show (Tryz.prog.info? 73).map (·.size) = some (secL z.2).toArray.size by rw [List.size_toArray, secL_length]; exact sizeS)
      have HSO := Lib.hid (show (secL z.2).toArray.all (·.oneCell') = true by rw [secA_list]; exact secA_one z.2)
      have hD2 : D < wr.heap.size := (Array.getElem?_eq_some_iff.1 HF.out.hd).1
      have hs2 : s < wr.heap.size := HF.out.sr.lt
      go_wp2_with (first
        | (with_reducible refine wpList_load_mid rfl 101 _ rfl g (k * 33) rfl (wcells z) _ HRG.out Tryz.underlying101 rfl HWI.out ?_)
        | (refine wpList_store_row rfl 101 (.tmp 5) (.tmp 25) rfl wr.heap.size (wrA z) rfl rfl 101 _ (heap_alloc_new _ _) HWA.out (by rw [wrA_size]; rfl) HWO.out ?_
           refine gen_list (fun W => Falls w1 W D s cs t ct (.slice (some ⟨g, 0, none⟩) m c) fv y (fs y.safe L (fun _ => true) k) y.now ∧ WrAt W wr.heap.size z) (HFV.out _) ?_
           rintro w5 ⟨h5, v5⟩
           have d5 : w5.cell? ⟨D, 0, none⟩ = some (.slice (some ⟨s, 0, none⟩) y.n cs) := h5.cell 0
           have p5 := v5.place
           have H5 := Lib.hid h5
           have V5 := Lib.hid v5
           clear h5 v5))
      have q0 : 0 ≤ (z.1 : Int) := by omega
      have q1 : (z.1 : Int) < (y.n : Int) := by omega
      have H5d := Lib.hid H5.out.drew
      have V5d := Lib.hid (show WrAt w5.drew wr.heap.size z from V5.out)
      go_still_tail 9, (by kernel_rfl)
      refine wpStill_load_midK (by rfl) 73 (.tmp 32) rfl wr.heap.size 1 rfl (secL z.2) _ V5d.out.bytes Tryz.underlying73 rfl HSI.out ?_
      repeat still_step
      refine wpStill_nil ?_
      change wpList _ _ _ _ _ w5.drew
      clear d5 p5 H5 V5
      generalize w5.drew = w6 at H5d V5d ⊢
      have HTH := Lib.hid (show w6.there s (z.1 * 32) (secL z.2).toArray.size by rw [List.size_toArray, secL_length]; exact H5d.out.sr.there hpl)
      have HPF := Lib.hid (H5d.out.putF hpl z.2)
      refine wpList_store_mid rfl 73 (.tmp 34) (.tmp 33) rfl s (z.1 * 32) (secL z.2).toArray rfl rfl HTH.out HSA.out HSO.out ?_
      refine gen_list (fun W => Falls w1 W D s cs t ct (.slice (some ⟨g, 0, none⟩) m c) fv y (putS (fs y.safe L (fun _ => true) k) z.1 z.2) y.now) HPF.out ?_
      rintro w7 h7
      have H7 := Lib.hid h7
      clear h7 HPF HTH H5d V5d
      go_wp2_with (fail)
      exact ⟨⟨k + 1, rfl, by omega, by rw [HNX.out]; exact H7.out⟩, by show m - ((k : Int) + 1).toNat < m - (k : Int).toNat; omega⟩
    · have hke : k = m := by omega
      subst hke
      have x0 : ¬ (k : Int) < (k : Int) := by omega
      have x1 : decide ((k : Int) < (k : Int)) = false := decide_eq_false x0
      have d2 : wr.cell? ⟨D, 2, none⟩ = some (.slice (some ⟨g, 0, none⟩) k c) := HF.out.cell 2
      have f2 : wr.frozen? ⟨D, 2, none⟩ = false := frozen_of_row wr D 2 _ _ HF.out.hd
      have hfx : DiskSays K w D (.int .i64 0) { y with safe := fs y.safe L (fun _ => true) k, loose := [] } (.returned (.int .i64 0)) (wr.setCell ⟨D, 2, none⟩ (.slice none 0 0)) :=
        DiskSays.after HKP.out (falls_sync H.out (by have := HF.out; rw [HM.out, HL.out] at this; rw [HM.out]; rw [HL.out]; exact this))
      have HFS := Lib.hid hfx
      have HE := Lib.hid (synced_eq y L k HL.out HM.out)
      clear hlt x0 hfx
      go_wp2_with (fail)
      refine bodyPost_ret (results_tmp rfl _ _ _) rfl ?_
      rw [HE.out]
      exact HFS.out
end
end Go.Proofs.YtnmgkkjnjllpbaaGreatDoor
namespace Go.Proofs.YtnmgkkjnjllpbaaGreatDoor
open Go.ChangeShapes Go.WideShapes Go.ChangeAt Go.RowKit Dk

namespace Dk
/-- The bytes of a text. -/
def bs (q : ByteArray) (j : Nat) : UInt8 := q.data.toList.getD j 0
theorem bs_secS (g : Nat → UInt8) (j : Nat) (h : j < 32) : bs (secS g) j = g j := by
  unfold bs secS
  rw [List.getD_eq_getElem?_getD]
  simp [h]
theorem secL_bs {q : ByteArray} (h : q.size = 32) : secL (bs q) = (q.data.toList.take (min q.size 32)).map fun x => Value.int .u8 (x.toNat : Int) := by
  have hl : q.data.toList.length = 32 := h
  rw [h, Nat.min_self, List.take_of_length_le (by omega)]
  apply List.ext_getElem?
  intro j
  by_cases hj : j < 32
  · rw [secL_get _ _ hj, List.getElem?_map, List.getElem?_eq_getElem (by omega)]
    unfold bs
    rw [List.getD_eq_getElem?_getD, List.getElem?_eq_getElem (by omega)]
    rfl
  · rw [List.getElem?_eq_none (by rw [secL_length]; omega), List.getElem?_eq_none (by rw [List.length_map]; omega)]
end Dk
/-- The builtin copy of a text into cells. -/
theorem run_copy_text {P : Program} (w : World) (dT sT ty elem : TypeId) (b o dLen dCap : Nat) (q : ByteArray) (cs : List Value)
    (hu : P.underlying dT = some (.slice elem)) (hz : ∀ w, (Go.sizeOf elem).run P w = .ok 1 w) (ht : w.there b o cs.length)
    (hcs : cs = (q.data.toList.take (min q.size dLen)).map fun x => Value.int .u8 (x.toNat : Int)) (n : Nat) (hn : n = min q.size dLen) :
    (Builtin.copy_ #[dT, sT] ty #[.slice (some ⟨b, o, none⟩) dLen dCap, .string q]).run P w = .ok (goInt n) (w.setCells b o cs) := by
  subst hn
  have hst := run_storeCells_cells (P := P) b o cs 0 w (fun j hj => by simpa using (ht j hj).1) (fun j hj => by simpa using (ht j hj).2) (by
    intro v hv
    rw [hcs] at hv
    obtain ⟨x, _, rfl⟩ := List.mem_map.1 hv
    rfl)
  rw [Nat.add_zero] at hst
  have hmin : Nat.min q.size dLen = min q.size dLen := rfl
  simp [Builtin.copy_, run_underlying hu, Builtin.lenOf, Builtin.firstCells, hz, hmin]
  rw [← List.map_take, ← hcs, hst]
  rfl
theorem infoW : (Tryz.prog.info? 101).map (fun i => (i.zero, i.size, i.bytes)) = some (some (.agg (wrA noWr)), 33, 40) := by kernel_rfl
set_option maxRecDepth 100000 in
theorem built_wr (p : Nat) : Tryz.prog.built 101 [(0, .int .i64 (p : Int))] = some (wrA (p, fun _ => 0)) := by kernel_rfl
/-- A write lies in block v. -/
structure WrC (w : World) (v : Nat) (y : Wr) : Prop where
  all : w.rangeAt v 0 (wcells y)
  lt : v < w.heap.size
theorem WrC.place {w : World} {v : Nat} {y : Wr} (h : WrC w v y) : w.cell? ⟨v, 0, none⟩ = some (.int .i64 (y.1 : Int)) := h.all 0 _ rfl
theorem WrC.bytes {w : World} {v : Nat} {y : Wr} (h : WrC w v y) : w.rangeAt v 1 (secL y.2) := fun j u hj => by
  have := h.all (j + 1) u hj
  rwa [show 0 + (j + 1) = 1 + j by omega] at this
theorem WrC.of_block {w w' : World} {v : Nat} {y : Wr} (h : WrC w v y) (e : w'.heap[v]? = w.heap[v]?) : WrC w' v y :=
  ⟨fun j u hj => (World.cell?_of_block (w := w) e).trans (h.all j u hj), by
    have h1 := Array.getElem?_eq_getElem h.lt
    rw [← e] at h1
    exact (Array.getElem?_eq_some_iff.1 h1).1⟩
theorem wr_there {w : World} {v : Nat} {y : Wr} (h : WrAt w v y) : w.there v 1 32 := fun j hj => ⟨by
  rw [h.bytes j (.int .u8 ((y.2 j).toNat : Int)) (secL_get _ _ hj)]; rfl, frozen_of_row w v _ _ _ h⟩
theorem wr_copied {w : World} {v p : Nat} {f g : Nat → UInt8} (h : WrAt w v (p, f)) : WrC (w.setCells v 1 (secL g)) v (p, g) := by
  refine ⟨fun j u hj => ?_, by rw [setCells_size]; exact h.lt⟩
  cases j with
  | zero =>
    rw [World.cell?_setCells_out v _ _ _ _ (fun _ _ => Or.inl (by show 0 + 0 < 1; omega)), ← hj]
    exact h.place
  | succ j =>
    have hl := (List.getElem?_eq_some_iff.1 hj).1
    rw [wcells_length] at hl
    have := World.rangeAt_setCells_same w v 1 (secL g) (by rw [secL_length]; exact wr_there h) j u hj
    rwa [show 0 + (j + 1) = 1 + j by omega]
theorem below_setCells {B : Nat} {w0 w : World} (h : Below B w0 w) {g : Nat} (hg : B ≤ g) (o : Nat) (vs : List Value) : Below B w0 (w.setCells g o vs) := by
  obtain ⟨h1, h2, h3⟩ := setCells_os g vs o w
  exact ⟨h1.trans h.os, h2.trans h.tape, h3.trans h.output, by rw [setCells_size]; exact h.size, fun k hk => (setCells_other g k (by omega) vs o w).trans (h.block k hk)⟩
/-- A sector written in the row of what was written last. -/
theorem Lies.putNow {K : Nat → Prop} {w : World} {D s cs t ct : Nat} {lv fv : Value} {x : St} (h : Lies K w D s cs t ct lv fv x) {p : Nat} (hp : p < x.n) (g : Nat → UInt8) : Lies K (w.setCells t (p * 32) (secL g)) D s cs t ct lv fv { x with now := putS x.now p g } := by
  have ho : ∀ i, i ≠ t → (w.setCells t (p * 32) (secL g)).heap[i]? = w.heap[i]? := fun i hi => setCells_other t i hi _ _ _
  obtain ⟨c, hc, _⟩ := h.tr
  have hfu : FuseAt K (w.setCells t (p * 32) (secL g)) fv x.fuse := by
    have h0 := h.fu
    generalize x.fuse = fu at h0 ⊢
    match fu, h0 with
    | none, h0 => exact (show fv = .pointer none from h0)
    | some (l, kl), ⟨fb, kv, h1, h2, h3, h4, h5⟩ => exact ⟨fb, kv, h1, (ho fb (ne_type h2 hc (by decide))).trans h2, h3.keepT (fun i cur hi => ho i (ne_type hi hc (by decide))), h4, h5⟩
  exact ⟨(ho D h.neDt).trans h.hd, h.sr.of_block (ho s h.ne), h.tr.put hp g, h.ne, h.cs, h.ct, own_keep h.lo (fun i hi => ho i (h.neLt i hi)), hfu, h.pl, h.nb, h.kD, h.ks, h.kt, h.kl⟩
theorem wp_sliceOneK {P : Program} {o : Oper} {a : Act} {w : World} {K : Act → World → Prop} {Q : Exit → Act → World → Prop} (t e : TypeId) (x : Operand) (ho : o.op = .buildSlice t 1 #[(0, x)])
    (dst : Option Tmp) (hdst : o.dst = dst) (hu : P.underlying t = some (.slice e)) (cells : Array Value) (hx : a.eval x = .agg cells) (hf : P.builtSlice e 1 [(0, .agg cells)] = some cells)
    (h : K (a.put dst (.slice (some ⟨w.heap.size, 0, none⟩) 1 1)) (w.alloc (.cells cells e))) : o.wp P a w K Q := by
  subst hdst
  have ee : ((#[(0, x)] : Array (Nat × Operand)).map fun (i, y) => (i, a.eval y)).toList = [(0, .agg cells)] := by simp [hx]
  unfold Program.builtSlice at hf
  cases hie : P.info? e with
  | none => simp [hie] at hf
  | some ie =>
    simp only [hie] at hf
    cases hz : ie.zero with
    | none => simp [hz] at hf
    | some z =>
      simp only [hz] at hf
      by_cases hc : 1 * ie.size > 2 ^ 24 ∨ 1 * ie.size = 0
      · rw [if_pos hc] at hf; cases hf
      · rw [if_neg hc] at hf
        exact wp_buildSlice t e 1 #[(0, x)] ho cells ie z hu hie hz (fun h' => hc (Or.inl h')) (fun h' => hc (Or.inr h')) (by rw [ee]; exact hf) h
set_option maxRecDepth 100000 in
theorem slice_wr (p : Nat) (g : Nat → UInt8) : Tryz.prog.builtSlice 101 1 [(0, .agg (wcells (p, g)).toArray)] = some (wcells (p, g)).toArray := by kernel_rfl
/-- A write appended to those that aren't safe. -/
theorem Lies.push {K : Nat → Prop} {w w' : World} {D s cs t ct : Nat} {lv lv' fv : Value} {x y : St} {p : Nat} {g : Nat → UInt8} (h : Lies K w D s cs t ct lv fv x) (hp : p < x.n) (hown : w'.ownsRow 0 101 33 lv' (x.loose.length + 1) (lcells x.loose ++ wcells (p, g)))
    (hh : w'.heap[D]? = some (.cells #[.slice (some ⟨s, 0, none⟩) x.n cs, .slice (some ⟨t, 0, none⟩) x.n ct, lv', fv, .bool x.away, .int .i64 (x.done : Int)] 78 (0, 0)))
    (ho : ∀ (i : Nat) (c : Array Value) (u : TypeId), i ≠ D → u ≠ 101 → w.heap[i]? = some (.cells c u (0, 0)) → w'.heap[i]? = w.heap[i]?) (hk : ∀ i, lv'.ownBlock = some i → K i) (hy : y = { x with loose := x.loose ++ [(p, g)] }) : Lies K w' D s cs t ct lv' fv y := by
  subst hy
  obtain ⟨c1, hc1, _⟩ := h.sr
  obtain ⟨c2, hc2, _⟩ := h.tr
  have hfu : FuseAt K w' fv x.fuse := by
    have h0 := h.fu
    generalize x.fuse = fu at h0 ⊢
    match fu, h0 with
    | none, h0 => exact (show fv = .pointer none from h0)
    | some (l, kl), ⟨fb, kv, h1, h2, h3, h4, h5⟩ => exact ⟨fb, kv, h1, (ho fb _ _ (ne_type h2 h.hd (by decide)) (by decide) h2).trans h2, h3.keepT (fun i cur hi => ho i _ _ (ne_type hi h.hd (by decide)) (by decide) hi), h4, h5⟩
  exact ⟨hh, h.sr.of_block (ho s _ _ h.neDs.symm (by decide) hc1), h.tr.of_block (ho t _ _ h.neDt.symm (by decide) hc2), h.ne, h.cs, h.ct, by rw [List.length_append, lcells_append, lcells_one]; exact hown, hfu,
    fun z hz => by
      rcases List.mem_append.1 hz with hz | hz
      · exact h.pl z hz
      · rw [List.mem_singleton.1 hz]; exact hp, h.nb, h.kD, h.ks, h.kt, hk⟩
section
variable (K : Nat → Prop) (w : World) (D : Nat) (x : St)
set_option maxRecDepth 100000 in
set_option maxHeartbeats 3200000 in
/-- A write, behind what the fuse burnt to. -/
theorem disk_write_ok (h : DiskAt K w D x) (ha : x.away = false) (hl : x.loose.length ≤ 1073741824) (p : Nat) (hp : p < x.n) (q : ByteArray) (hq : q.size = 32) (hK : ∀ i, w.heap.size ≤ i → K i)
    (hb : Calls Tryz.prog 53 #[.pointer (some ⟨D, 0, none⟩)] w (DiskSays K w D (.int .i64 0) x.burnt)) :
    Calls Tryz.prog 91 #[.pointer (some ⟨D, 0, none⟩), .int .i64 (p : Int), .string q] w (DiskSays K w D (.int .i64 0) (x.burnt.put p (bs q))) := by
  have hr := disk_reach K w D x h (p : Int)
  rw [reach_in (by omega) (by omega), ha, if_neg Bool.false_ne_true] at hr
  have HR := Lib.hid hr
  have HBU := Lib.hid hb
  have HK := Lib.hid hK
  have hl2 : x.burnt.loose.length ≤ 1073741824 := hl
  have hp2 : p < x.burnt.n := hp
  clear hr h hb hK
  generalize x.burnt = y at HBU hl2 hp2 ⊢
  clear hl hp ha
  have HQ := Lib.hid (secL_bs hq)
  have hq2 : (q.size : Int) = 32 := by omega
  have hq3 : ((q.size : Int) == 32) = true := by rw [hq2]; rfl
  have HQS := Lib.hid hq
  clear hq
  go_enter Tryz.func91, Tryz.ntmps91
  go_wp2_with (fail)
  refine HR.out.mono ?_
  rintro e w1 ⟨rfl, rfl⟩
  clear HR
  go_wp2_with (fail)
  refine HBU.out.mono ?_
  rintro e w1 ⟨rfl, ⟨s, cs, t, ct, lv, fv, h⟩, hk⟩
  have H := Lib.hid h
  have HKP := Lib.hid hk
  clear h hk HBU
  have HWA := Lib.hid (show (Tryz.prog.info? 101).map (·.size) = some (wrA (p, fun _ => 0)).size by rw [wrA_size]; exact sizeW)
  have HWO := Lib.hid (wrA_one (p, fun _ => 0))
  have HB := Lib.hid (built_wr p)
  have HSZ := Lib.hid (fun W : World => (show (Go.sizeOf 5).run Tryz.prog W = .ok 1 W by kernel_rfl))
  have HNEW := Lib.hid (show ∀ z, Below w1.heap.size w1 ((w1.alloc (.cells z 101)).setRow w1.heap.size (wrA (p, fun _ => 0))) ∧ WrAt ((w1.alloc (.cells z 101)).setRow w1.heap.size (wrA (p, fun _ => 0))) w1.heap.size (p, fun _ => 0) from fun z =>
    ⟨below_setRow' ((Below.refl w1.heap.size w1).alloc (Nat.le_refl _) (.cells z 101)) (Nat.le_refl _) (wrA (p, fun _ => 0)), setRow_heap _ _ _ _ _ _ (heap_alloc_new w1 _)⟩)
  go_wp2_with (first
    | (with_reducible refine wpList_build_to rfl 101 _ rfl [(0, .int .i64 (p : Int))] rfl (wrA (p, fun _ => 0)) HB.out ?_)
    | (refine wpList_store_row rfl 101 (.tmp 9) (.tmp 27) rfl w1.heap.size (wrA (p, fun _ => 0)) rfl rfl 101 _ (heap_alloc_new _ _) HWA.out (by rw [wrA_size]; rfl) HWO.out ?_
       refine gen_list (fun W => Below w1.heap.size w1 W ∧ WrAt W w1.heap.size (p, fun _ => 0)) (HNEW.out _) ?_
       rintro w5 ⟨h5, v5⟩
       have hcp := run_copy_text (P := Tryz.prog) w5 40 9 3 5 w1.heap.size 1 32 32 q (secL (bs q)) Tryz.underlying40 HSZ.out (by rw [secL_length]; exact wr_there v5) HQ.out 32 (by rw [HQS.out]; rfl)
       have H5 := Lib.hid h5
       have V5 := Lib.hid v5
       clear h5 v5))
  clear hcp
  refine gen_world (fun W => Below w1.heap.size w1 W ∧ WrC W w1.heap.size (p, bs q)) ⟨below_setCells H5.out (Nat.le_refl _) _ _, wr_copied V5.out⟩ ?_
  rintro w6 ⟨h6, v6⟩
  have q0 : 0 ≤ (p : Int) := by omega
  have q1 : (p : Int) < (y.n : Int) := by omega
  have L6 := Lib.hid (H.out.below h6)
  have L6d := Lib.hid (H.out.below h6.drew)
  have V6d := Lib.hid (show WrC w6.drew w1.heap.size (p, bs q) from v6.of_block rfl)
  have K6d := Lib.hid (HKP.out.then_below h6.drew)
  have d6 : w6.cell? ⟨D, 1, none⟩ = some (.slice (some ⟨t, 0, none⟩) y.n ct) := L6.out.cell 1
  have HSI := Lib.hid (show (Tryz.prog.info? 73).map (·.size) = some (secL (bs q)).length by rw [secL_length]; exact sizeS)
  have HSA := Lib.hid (show (Tryz.prog.info? 73).map (·.size) = some (secL (bs q)).toArray.size by rw [List.size_toArray, secL_length]; exact sizeS)
  have HSO := Lib.hid (show (secL (bs q)).toArray.all (·.oneCell') = true by rw [secA_list]; exact secA_one _)
  have hVt : w1.heap.size ≠ t := by have := H.out.tr.lt; omega
  clear h6 v6 HNEW H5 V5
  go_still_tail 8, (by kernel_rfl)
  refine wpStill_load_midK (by rfl) 73 (.tmp 37) rfl w1.heap.size 1 rfl (secL (bs q)) _ V6d.out.bytes Tryz.underlying73 rfl HSI.out ?_
  repeat still_step
  refine wpStill_nil ?_
  change wpList _ _ _ _ _ w6.drew
  clear d6 L6
  generalize w6.drew = w7 at L6d V6d K6d ⊢
  have HTH := Lib.hid (show w7.there t (p * 32) (secL (bs q)).toArray.size by rw [List.size_toArray, secL_length]; exact L6d.out.tr.there hp2)
  have HPN := Lib.hid (L6d.out.putNow hp2 (bs q))
  have HPV := Lib.hid (V6d.out.of_block (setCells_other t w1.heap.size hVt (secL (bs q)) (p * 32) w7))
  have HPK := Lib.hid (K6d.out.setCells (.inl H.out.kt) (p * 32) (secL (bs q)))
  refine wpList_store_mid rfl 73 (.tmp 39) (.tmp 38) rfl t (p * 32) (secL (bs q)).toArray rfl rfl HTH.out HSA.out HSO.out ?_
  refine gen_list (fun W => Lies K W D s cs t ct lv fv { y with now := putS y.now p (bs q) } ∧ WrC W w1.heap.size (p, bs q) ∧ Kept K w W) ⟨HPN.out, HPV.out, HPK.out⟩ ?_
  rintro w8 ⟨h8, v8, k8⟩
  clear HTH HPN HPV HPK L6d V6d K6d
  have H8 := Lib.hid h8
  have V8 := Lib.hid v8
  have K8 := Lib.hid k8
  have d8 : w8.cell? ⟨D, 2, none⟩ = some lv := h8.cell 2
  have d8d : w8.drew.cell? ⟨D, 2, none⟩ = some lv := h8.cell 2
  have f8d : w8.drew.frozen? ⟨D, 2, none⟩ = false := h8.fz 2
  have V8d := Lib.hid (show w8.drew.rangeAt w1.heap.size 0 (wcells (p, bs q)) from v8.all)
  have HWI := Lib.hid (show (Tryz.prog.info? 101).map (·.size) = some (wcells (p, bs q)).length by rw [wcells_length]; exact sizeW)
  clear h8 v8 k8
  go_wp2_with (fail)
  obtain ⟨i0, hi, hz0, hz1, hz2⟩ := info_parts infoW
  have HI := Lib.hid hi
  have HZ0 := Lib.hid hz0
  have HZ1 := Lib.hid hz1
  have HZ2 := Lib.hid hz2
  have HZS := Lib.hid (show (Value.agg (wrA noWr)).cells.size = 33 from wrA_size _)
  clear hi hz0 hz1 hz2
  have K8d := Lib.hid K8.out.drew
  have L8d := Lib.hid (H8.out.below (Below.refl _ _).drew)
  have hVs : w1.heap.size < w8.drew.heap.size := V8.out.lt
  have hD8 : D < w8.drew.heap.size := L8d.out.lt
  have hwl : w.heap.size ≤ w8.drew.heap.size := K8d.out.size
  have hlw := H.out.lo.lt
  have HLW := Lib.hid hlw
  clear d8 hlw
  refine wp_region_held_drew (S := fun W : World => W.rangeAt w1.heap.size 0 (wcells (p, bs q))) (by kernel_rfl) V8.out.all (fun hHeld => ?_)
  generalize w8.drew = w9 at d8d f8d V8d K8d L8d hVs hD8 hwl hHeld ⊢
  have d9 : (w9.alloc (.cells (wcells (p, bs q)).toArray 101)).cell? ⟨D, 2, none⟩ = some lv := by rw [World.cell?_alloc_lt _ _ _ hD8]; exact d8d
  have VK := Lib.hid (fun o => World.rangeAt_alloc V8d.out o)
  have HOW := Lib.hid (L8d.out.lo.alloc (.cells (wcells (p, bs q)).toArray 101))
  have HSR := Lib.hid (show ∀ j u, (wcells (p, bs q))[j]? = some u → (w9.alloc (.cells (wcells (p, bs q)).toArray 101)).cell? ((⟨w9.heap.size, 0, none⟩ : Addr).add j) = some u from fun j u hj => by
    rw [Addr.add_lit, Nat.zero_add, cell_of_row _ _ _ _ _ _ (heap_alloc_new w9 _), List.getElem?_toArray]; exact hj)
  obtain ⟨m, hm⟩ : ∃ m, m = y.loose.length := ⟨_, rfl⟩
  obtain ⟨M, hM⟩ : ∃ M, M = lcells y.loose := ⟨_, rfl⟩
  change Hid (World.ownsRow _ 0 _ 33 lv y.loose.length (lcells y.loose)) at HOW
  rw [← hm, ← hM] at HOW
  have hm2 : m ≤ 1073741824 := by omega
  have HPOST := Lib.hid (show ∀ (v9 : Value) (wa : World), (∀ i, v9.ownBlock = some i → lv.ownBlock = some i ∨ (w9.alloc (.cells (wcells (p, bs q)).toArray 101)).heap.size ≤ i) → wa.ownsRow 0 101 33 v9 (m + 1) (M ++ wcells (p, bs q)) → (w9.alloc (.cells (wcells (p, bs q)).toArray 101)).grownBy wa lv.ownBlock →
      ((wa.setCell ⟨D, 2, none⟩ v9).rangeAt w1.heap.size 0 (wcells (p, bs q)) ∧ DiskSays K w D (.int .i64 0) (y.put p (bs q)) (.returned (.int .i64 0)) (wa.setCell ⟨D, 2, none⟩ v9)) ∧ wa.rangeAt w1.heap.size 0 (wcells (p, bs q)) ∧ wa.cell? ⟨D, 2, none⟩ = some lv ∧ wa.frozen? ⟨D, 2, none⟩ = false from fun v9 wa hnw ho hg => by
    have hDb : wa.heap[D]? = w9.heap[D]? := (hg.block D (by simp; omega) (fun e => L8d.out.neLD D e.symm rfl)).trans (heap_alloc_old w9 _ hD8)
    have hVb : wa.heap[w1.heap.size]? = w9.heap[w1.heap.size]? := (hg.block _ (by simp; omega) (fun e => by have := (HLW.out _ e.symm).2; omega)).trans (heap_alloc_old w9 _ hVs)
    have hVD : w1.heap.size ≠ D := by have := H.out.lt; omega
    have hcell : wa.cell? ⟨D, 2, none⟩ = some lv := by rw [cell_of_row wa D 2 _ _ _ (hDb.trans L8d.out.hd)]; rfl
    have hrv : wa.rangeAt w1.heap.size 0 (wcells (p, bs q)) := fun j u hj => (World.cell?_of_block (w := w9) (a := ⟨w1.heap.size, 0 + j, none⟩) hVb).trans (V8d.out j u hj)
    have hset : ∀ i, i ≠ D → (wa.setCell ⟨D, 2, none⟩ v9).heap[i]? = wa.heap[i]? := fun i hi => heap_setCell_other wa ⟨D, 2, none⟩ i _ hi
    have hwa : w9.heap.size < wa.heap.size := Nat.lt_of_lt_of_le (by simp) hg.size
    have hold : ∀ i, i < w9.heap.size → (∀ g, lv.ownBlock = some g → i ≠ g) → wa.heap[i]? = w9.heap[i]? := fun i hi hne => (hg.block i (by simp; omega) (fun e => hne i e.symm rfl)).trans (heap_alloc_old w9 _ hi)
    have hkk : ∀ i, v9.ownBlock = some i → K i := fun i hi => by
      rcases hnw i hi with h' | h'
      · exact L8d.out.kl i h'
      · exact HK.out i (Nat.le_trans hwl (by simp at h'; omega))
    refine ⟨⟨?_, rfl, ⟨s, cs, t, ct, v9, fv, L8d.out.push (y := y.put p (bs q)) hp2 (w' := wa.setCell ⟨D, 2, none⟩ v9) ?_ (heap_setCell_same wa D 2 _ _ v9 (hDb.trans L8d.out.hd)) (fun i c u hi hu hc => ?_) hkk rfl⟩, ?_⟩, hrv, hcell, frozen_of_row wa D 2 _ _ (hDb.trans L8d.out.hd)⟩
    · exact fun j u hj => (World.cell?_of_block (w := wa) (a := ⟨w1.heap.size, 0 + j, none⟩) (hset _ hVD)).trans (hrv j u hj)
    · rw [hm, hM] at ho
      exact own_keep ho (fun g hg' => hset g (fun e => by
        obtain ⟨c, hc⟩ := own_type ho g hg'
        exact ne_type hc (hDb.trans L8d.out.hd) (by decide) e))
    · refine (hset i hi).trans (hold i (Array.getElem?_eq_some_iff.1 hc).1 (fun g hg' e => ?_))
      obtain ⟨c', hc'⟩ := own_type L8d.out.lo g hg'
      exact ne_type hc hc' hu e
    · refine ((K8d.out.alloc _).grown hg (fun g hg' => .inl (L8d.out.kl g hg'))).setCell (.inl H.out.kD) _)
  clear HLW hm hM
  refine wpAnyH_take (i := 0) (v := .pointer (some ⟨D, 0, none⟩)) rfl (by kernel_rfl) (by kernel_rfl) (by kernel_rfl) (fun _ _ _ h => h) (Or.inl ⟨by rfl, ?_⟩) hHeld ?_
  · intro W _
    go_simp
  simp only [Act.put]
  refine wpAnyH_take (i := 1) (v := .pointer (some ⟨D, 0, none⟩)) rfl (by kernel_rfl) (by kernel_rfl) (by kernel_rfl) (fun _ _ _ h => h) (Or.inl ⟨by rfl, ?_⟩) hHeld ?_
  · intro W _
    go_simp
  simp only [Act.put]
  refine wpAnyH_take (i := 2) (v := .pointer (some ⟨D, 0, none⟩)) rfl (by kernel_rfl) (by kernel_rfl) (by kernel_rfl) (fun _ _ _ h => h) (Or.inl ⟨by rfl, ?_⟩) hHeld ?_
  · intro W _
    go_simp
  simp only [Act.put]
  refine wpAnyH_take (i := 3) (v := .pointer (some ⟨D, 2, none⟩)) rfl (by kernel_rfl) (by kernel_rfl) (by kernel_rfl) (fun _ _ _ h => h) (Or.inl ⟨by rfl, ?_⟩) hHeld ?_
  · intro W _
    go_simp
  simp only [Act.put]
  refine wpAnyH_take (i := 5) (v := .agg (wcells (p, bs q)).toArray) rfl (by kernel_rfl) (by kernel_rfl) (by kernel_rfl) (fun _ _ _ h => h) (yieldsIf_load_mid (by rfl) 101 _ rfl w1.heap.size 0 rfl (wcells (p, bs q)) _ (fun W hW => hW) Tryz.underlying101 rfl HWI.out) hHeld ?_
  simp only [Act.put]
  refine wpAnyH_ready (rs := [4, 6]) (by kernel_rfl) (by simp) ?_
  refine AllReadyH.cons rfl (fun K' hK => ?_) (AllReadyH.cons rfl (fun K' hK => ?_) AllReadyH.nil)
  · go_simp
    refine hK.out _ _ V8d.out (fun hHeld => ?_)
    clear hK K'
    refine wpAnyH_ready (rs := [6]) (by kernel_rfl) (by simp) ?_
    refine AllReadyH.cons rfl (fun K' hK => ?_) AllReadyH.nil
    rw [if_pos (by rfl)]
    refine wp_sliceOneK 75 101 (.tmp 45) rfl (some 46) rfl Tryz.underlying75 (wcells (p, bs q)).toArray rfl (slice_wr p _) ?_
    refine hK.out _ _ (VK.out _) (fun hHeld => ?_)
    clear hK K'
    simp only [Act.put]
    refine wpAnyH_ready (rs := [7]) (by kernel_rfl) (by simp) ?_
    refine AllReadyH.cons rfl (fun K' hK => ?_) AllReadyH.nil
    rw [if_pos (by rfl)]
    refine wp_append_lies _ (.tmp 44) (.tmp 46) 75 rfl 0 101 i0 _ 33 40 Tryz.underlying75 HI.out HZ0.out HZ1.out HZ2.out HZS.out (by omega) lv m M rfl HOW.out ⟨w9.heap.size, 0, none⟩ 1 1 (wcells (p, bs q)) rfl (by rw [wcells_length]) HSR.out (wcells_one _) (by omega) (by unfold maxLen; omega) (by omega) (Nat.zero_le _) _ rfl ?_
    intro g9 c9 wa hown9 hg9 hor9 _
    have hlie : ∀ i, (Value.slice (some ⟨g9, 0, none⟩) (m + 1) c9).ownBlock = some i → lv.ownBlock = some i ∨ (w9.alloc (.cells (wcells (p, bs q)).toArray 101)).heap.size ≤ i := fun i hi => by
      injection hi with hi
      subst hi
      rcases hor9 with h' | h'
      · exact .inl h'
      · exact .inr (by rw [h']; exact Nat.le_refl _)
    obtain ⟨hpost, hVa, hcz, hfz⟩ := HPOST.out _ wa hlie hown9 hg9
    have HPO := Lib.hid hpost
    refine hK.out _ _ hVa (fun hHeld => ?_)
    clear hK K' hown9 hg9 hor9 hlie hpost hVa
    simp only [Act.put]
    refine wpAnyH_take (i := 8) (v := .pointer (some ⟨D, 0, none⟩)) rfl (by kernel_rfl) (by kernel_rfl) (by kernel_rfl) (fun _ _ _ h => h) (Or.inl ⟨by rfl, ?_⟩) hHeld ?_
    · intro W _
      go_simp
    simp only [Act.put]
    refine wpAnyH_take (i := 9) (v := .pointer (some ⟨D, 2, none⟩)) rfl (by kernel_rfl) (by kernel_rfl) (by kernel_rfl) (fun _ _ _ h => h) (Or.inl ⟨by rfl, ?_⟩) hHeld ?_
    · intro W _
      go_simp
    simp only [Act.put]
    refine wpAnyH_ready (rs := [10]) (by kernel_rfl) (by simp) ?_
    refine AllReadyH.cons rfl (fun K' hK => ?_) AllReadyH.nil
    go_simp
    refine hK.out _ _ HPO.out.1 (fun hHeld => ?_)
    clear hK K'
    refine wpAnyH_done (by kernel_rfl) ?_ _
    clear hHeld
    go_wp2_with (fail)
    refine bodyPost_ret (results_tmp rfl _ _ _) rfl ?_
    exact HPO.out.2
  · rw [if_pos (by rfl)]
    refine wp_sliceOneK 75 101 (.tmp 45) rfl (some 46) rfl Tryz.underlying75 (wcells (p, bs q)).toArray rfl (slice_wr p _) ?_
    refine hK.out _ _ (VK.out _) (fun hHeld => ?_)
    clear hK K'
    simp only [Act.put]
    refine wpAnyH_ready (rs := [4]) (by kernel_rfl) (by simp) ?_
    refine AllReadyH.cons rfl (fun K' hK => ?_) AllReadyH.nil
    go_simp
    refine hK.out _ _ (VK.out _) (fun hHeld => ?_)
    clear hK K'
    refine wpAnyH_ready (rs := [7]) (by kernel_rfl) (by simp) ?_
    refine AllReadyH.cons rfl (fun K' hK => ?_) AllReadyH.nil
    rw [if_pos (by rfl)]
    refine wp_append_lies _ (.tmp 44) (.tmp 46) 75 rfl 0 101 i0 _ 33 40 Tryz.underlying75 HI.out HZ0.out HZ1.out HZ2.out HZS.out (by omega) lv m M rfl HOW.out ⟨w9.heap.size, 0, none⟩ 1 1 (wcells (p, bs q)) rfl (by rw [wcells_length]) HSR.out (wcells_one _) (by omega) (by unfold maxLen; omega) (by omega) (Nat.zero_le _) _ rfl ?_
    intro g9 c9 wa hown9 hg9 hor9 _
    have hlie : ∀ i, (Value.slice (some ⟨g9, 0, none⟩) (m + 1) c9).ownBlock = some i → lv.ownBlock = some i ∨ (w9.alloc (.cells (wcells (p, bs q)).toArray 101)).heap.size ≤ i := fun i hi => by
      injection hi with hi
      subst hi
      rcases hor9 with h' | h'
      · exact .inl h'
      · exact .inr (by rw [h']; exact Nat.le_refl _)
    obtain ⟨hpost, hVa, hcz, hfz⟩ := HPOST.out _ wa hlie hown9 hg9
    have HPO := Lib.hid hpost
    refine hK.out _ _ hVa (fun hHeld => ?_)
    clear hK K' hown9 hg9 hor9 hlie hpost hVa
    simp only [Act.put]
    refine wpAnyH_take (i := 8) (v := .pointer (some ⟨D, 0, none⟩)) rfl (by kernel_rfl) (by kernel_rfl) (by kernel_rfl) (fun _ _ _ h => h) (Or.inl ⟨by rfl, ?_⟩) hHeld ?_
    · intro W _
      go_simp
    simp only [Act.put]
    refine wpAnyH_take (i := 9) (v := .pointer (some ⟨D, 2, none⟩)) rfl (by kernel_rfl) (by kernel_rfl) (by kernel_rfl) (fun _ _ _ h => h) (Or.inl ⟨by rfl, ?_⟩) hHeld ?_
    · intro W _
      go_simp
    simp only [Act.put]
    refine wpAnyH_ready (rs := [10]) (by kernel_rfl) (by simp) ?_
    refine AllReadyH.cons rfl (fun K' hK => ?_) AllReadyH.nil
    go_simp
    refine hK.out _ _ HPO.out.1 (fun hHeld => ?_)
    clear hK K'
    refine wpAnyH_done (by kernel_rfl) ?_ _
    clear hHeld
    go_wp2_with (fail)
    refine bodyPost_ret (results_tmp rfl _ _ _) rfl ?_
    exact HPO.out.2
end
end Go.Proofs.YtnmgkkjnjllpbaaGreatDoor
namespace Go.Proofs.YtnmgkkjnjllpbaaGreatDoor
open Go.ChangeShapes Go.WideShapes Go.ChangeAt Go.RowKit Dk

/-- A disk of blocks that weren't there at the beginning; what was there is as it was. -/
structure At (w0 w : World) (D : Nat) (x : St) : Prop where
  disk : DiskAt (fun i => w0.heap.size ≤ i) w D x
  below : Below w0.heap.size w0 w
namespace At
variable {w0 w w' : World} {D : Nat} {x y : St}
theorem step (h : At w0 w D x) (hb : Below w.heap.size w w') : At w0 w' D x := ⟨h.disk.below hb, h.below.trans (hb.mono h.below.size)⟩
theorem says (h : At w0 w D x) {v : Value} {e : Ending} (hs : DiskSays (fun i => w0.heap.size ≤ i) w D v y e w') : e = .returned v ∧ At w0 w' D y :=
  ⟨hs.1, hs.2.1, h.below.trans (hs.2.2.below h.below.size (fun _ hi => Nat.not_le.2 hi))⟩
theorem new (h : At w0 w D x) : ∀ i, w.heap.size ≤ i → w0.heap.size ≤ i := fun _ hi => Nat.le_trans h.below.size hi
/-- A write, without a fuse. -/
theorem write (h : At w0 w D x) (ha : x.away = false) (hf : x.fuse = none) (hl : x.loose.length ≤ 1073741824) (hd : x.done < 4611686018427387904) (p : Nat) (hp : p < x.n) (q : ByteArray) (hq : q.size = 32) :
    Calls Tryz.prog 91 #[.pointer (some ⟨D, 0, none⟩), .int .i64 (p : Int), .string q] w fun e w' => e = .returned (.int .i64 0) ∧ At w0 w' D (x.burnt.put p (bs q)) :=
  (disk_write_ok _ w D x h.disk ha hl p hp q hq h.new (disk_burn_none _ w D x h.disk hf hd)).mono fun _ _ hs => h.says hs
/-- A sync, without a fuse. -/
theorem sync (h : At w0 w D x) (ha : x.away = false) (hf : x.fuse = none) (hl : x.loose.length ≤ 1073741824) (hd : x.done < 4611686018427387904) :
    Calls Tryz.prog 24 #[.pointer (some ⟨D, 0, none⟩)] w fun e w' => e = .returned (.int .i64 0) ∧ At w0 w' D x.burnt.synced :=
  (disk_sync_ok _ w D x h.disk ha hl (disk_burn_none _ w D x h.disk hf hd)).mono fun _ _ hs => h.says hs
end At
theorem at_new (w0 w : World) (hb : Below w0.heap.size w0 w) (m : Int) (n : Nat) (hn : (n : Int) = min (max m 0) 4096) :
    Calls Tryz.prog 20 #[.int .i64 m] w fun e w' => ∃ D, e = .returned (.pointer (some ⟨D, 0, none⟩)) ∧ At w0 w' D (freshSt n fun _ => 0) := by
  refine (disk_new (fun i => w0.heap.size ≤ i) w m n hn (fun i hi => Nat.le_trans hb.size hi)).mono ?_
  rintro e w' ⟨D, rfl, h1, h2, h3⟩
  exact ⟨D, rfl, h2, hb.trans (h3.mono hb.size)⟩
theorem below_undrew {w W : World} (h : Below w.drew.heap.size w.drew W) : Below w.heap.size w W := ⟨h.os, h.tape, h.output, h.size, h.block⟩
end Go.Proofs.YtnmgkkjnjllpbaaGreatDoor
namespace Go.Proofs.YtnmgkkjnjllpbaaGreatDoor
open Go.ChangeShapes Go.WideShapes Go.ChangeAt Go.RowKit Dk

namespace Dk
/-- All bytes of n sectors as a text. -/
def imgS (n : Nat) (f : Nat → UInt8) : ByteArray := ⟨((List.range (n * 32)).map f).toArray⟩
theorem imgS_congr {n : Nat} {f g : Nat → UInt8} (h : ∀ k, k < n * 32 → f k = g k) : imgS n f = imgS n g := by
  unfold imgS
  rw [List.map_congr_left fun k hk => h k (List.mem_range.1 hk)]
theorem imgS_size (n : Nat) (f : Nat → UInt8) : (imgS n f).size = n * 32 := by
  show ((List.range (n * 32)).map f).toArray.size = n * 32
  simp
end Dk
theorem infoU : (Tryz.prog.info? 5).map (fun i => (i.zero, i.size, i.bytes)) = some (some (.int .u8 0), 1, 1) := by kernel_rfl
theorem bcellsK_next (f : Nat → UInt8) (k : Nat) : bcellsK f (k * 32) ++ secL (sect f k) = bcellsK f ((k + 1) * 32) := by
  apply List.ext_getElem?
  intro j
  by_cases h1 : j < k * 32
  · rw [List.getElem?_append_left (by rw [bcellsK_length]; exact h1), bcellsK_get _ _ _ h1, bcellsK_get _ _ _ (by omega)]
  · rw [List.getElem?_append_right (by rw [bcellsK_length]; omega), bcellsK_length]
    by_cases h2 : j < (k + 1) * 32
    · rw [secL_get _ _ (by omega), bcellsK_get _ _ _ h2]
      unfold sect
      rw [show k * 32 + (j - k * 32) = j by omega]
    · rw [List.getElem?_eq_none (by rw [secL_length]; omega), List.getElem?_eq_none (by rw [bcellsK_length]; omega)]
theorem run_img (w : World) (base g n c : Nat) (f : Nat → UInt8) (h : w.ownsRow base 5 1 (.slice (some ⟨g, 0, none⟩) (n * 32) c) (n * 32) (bcellsK f (n * 32))) :
    (convert 40 9 (.slice (some ⟨g, 0, none⟩) (n * 32) c)).run Tryz.prog w = .ok (.string (imgS n f)) w := by
  refine run_textK w _ (n * 32) c ((List.range (n * 32)).map f) (by simp) fun j u hj => ?_
  refine h.cells (g := g) rfl j u ?_
  rw [← hj]
  unfold bcellsK
  rw [List.map_map]
  rfl
set_option maxRecDepth 100000 in
set_option maxHeartbeats 1600000 in
theorem disk_image (K : Nat → Prop) (w : World) (D : Nat) (x : St) (h : DiskAt K w D x) :
    Calls Tryz.prog 8 #[.pointer (some ⟨D, 0, none⟩)] w fun e w' => e = .returned (.string (imgS x.n x.safe)) ∧ Below w.heap.size w w' := by
  obtain ⟨s, cs, t, ct, lv, fv, h⟩ := h
  have HS := Lib.hid h.sr
  have hd := h.hd
  have hDl := h.lt
  have hsl := h.sr.lt
  have c0 : w.cell? ⟨D, 0, none⟩ = some (.slice (some ⟨s, 0, none⟩) x.n cs) := h.cell 0
  have HC0 := Lib.hid (show ∀ W : World, Below w.heap.size w W → W.cell? ⟨D, 0, none⟩ = some (.slice (some ⟨s, 0, none⟩) x.n cs) from fun W hW => (World.cell?_of_block (w := w) (a := ⟨D, 0, none⟩) (hW.block D hDl)).trans c0)
  have hn := h.nb
  clear h hd
  generalize x.n = n at HS c0 HC0 hn ⊢
  generalize x.safe = f at HS ⊢
  have e1 : IntKind.i64.wrap ((n : Int) * 32) = ((n * 32 : Nat) : Int) := (IntWalk.i64_in _ (by omega)).trans (by omega)
  obtain ⟨i0, hi, hz0, hz1, hz2⟩ := info_parts infoU
  have HI := Lib.hid hi
  have HZ0 := Lib.hid hz0
  have HZ1 := Lib.hid hz1
  have HZ2 := Lib.hid hz2
  have HZS := Lib.hid (show (Value.int .u8 0).cells.size = 1 from rfl)
  clear hi hz0 hz1 hz2
  go_enter Tryz.func8, Tryz.ntmps8
  go_wp2_with (at_make; refine wpList_make_own _ rfl _ _ 40 rfl w.heap.size 5 i0 _ 1 Tryz.underlying40 HI.out HZ0.out HZ1.out .i64 .i64 _ (n * 32) rfl rfl (by first | exact e1 | rfl | omega) (by rw [HZ2.out]; omega) (by unfold maxLen; omega) (Nat.le_refl _) ?_; intro w1 hown hg1; have hb1 : Below w.heap.size w w1 := (Below.refl _ _).grown hg1 (Nat.le_refl _) (fun k hk => by cases hk); have d0 := HC0.out w1 hb1; have HB1 := Lib.hid hb1; have HW1 := Lib.hid hown; clear hg1 hb1 hown)
  go_loopw [3, 20] (fun row i wr => ∃ k g c : Nat, i = .int .i64 (k : Int) ∧ k ≤ n ∧ row = .slice (some ⟨g, 0, none⟩) (k * 32) c ∧ wr.ownsRow w.heap.size 5 1 row (k * 32) (bcellsK f (k * 32)) ∧ Below w.heap.size w wr) (fun _ i _ => match i with | .int _ k => n - k.toNat | _ => 0)
  case atStart => exact ⟨0, w.heap.size, n * 32, rfl, Nat.zero_le _, rfl, HW1.out, HB1.out⟩
  case round =>
    clear HW1 HB1 d0 c0
    obtain ⟨k, g, c, rfl, hkn, rfl, hown, hb⟩ := hrel
    have HOW := Lib.hid hown
    have HB := Lib.hid hb
    clear hown hb
    by_cases hlt : k < n
    · have x0 : (k : Int) < (n : Int) := by omega
      have x1 : decide ((k : Int) < (n : Int)) = true := decide_eq_true x0
      have x2 : 0 ≤ (k : Int) := by omega
      have HSI := Lib.hid (show (Tryz.prog.info? 73).map (·.size) = some (secL (sect f k)).length by rw [secL_length]; exact sizeS)
      have HSA := Lib.hid (show (Tryz.prog.info? 73).map (·.size) = some (secL (sect f k)).toArray.size by rw [List.size_toArray, secL_length]; exact sizeS)
      have HSO := Lib.hid (show (secL (sect f k)).toArray.all (·.oneCell') = true by rw [secA_list]; exact secA_one _)
      have HZ3 := Lib.hid (show (secL (sect f k)).toArray.size = 32 by rw [List.size_toArray, secL_length])
      have HRG := Lib.hid ((HS.out.of_block (HB.out.block s hsl)).range hlt)
      have HNX := Lib.hid (bcellsK_next f k)
      have HV := Lib.hid (show ∀ z : Array Value, Below wr.heap.size wr ((wr.alloc (.cells z 73)).setRow wr.heap.size (secL (sect f k)).toArray) ∧ ((wr.alloc (.cells z 73)).setRow wr.heap.size (secL (sect f k)).toArray).heap[wr.heap.size]? = some (.cells (secL (sect f k)).toArray 73 (0, 0)) from
        fun z => ⟨below_setRow' ((Below.refl _ _).alloc (Nat.le_refl _) _) (Nat.le_refl _) _, setRow_heap _ _ _ _ _ _ (heap_alloc_new wr _)⟩)
      go_wp2_with (first
        | (with_reducible refine wpList_load_mid rfl 73 _ rfl s (k * 32) rfl (secL (sect f k)) _ HRG.out Tryz.underlying73 rfl HSI.out ?_)
        | (refine wpList_store_row rfl 73 (.tmp 5) (.tmp 23) rfl wr.heap.size (secL (sect f k)).toArray rfl rfl 73 _ (heap_alloc_new _ _) HSA.out (by rw [HZ3.out]; rfl) HSO.out ?_
           refine gen_list (fun W => Below wr.heap.size wr W ∧ W.heap[wr.heap.size]? = some (.cells (secL (sect f k)).toArray 73 (0, 0))) (HV.out _) ?_
           rintro w5 ⟨h5, v5⟩
           have HOW5 := Lib.hid (own_keep HOW.out (fun i hi => h5.block i (HOW.out.lt i hi).2))
           have HB5 := Lib.hid (HB.out.trans (h5.mono HB.out.size))
           have HSR := Lib.hid (show ∀ j u, (secL (sect f k))[j]? = some u → w5.cell? ((⟨wr.heap.size, 0, none⟩ : Addr).add j) = some u from fun j u hj => by
             rw [Addr.add_lit, Nat.zero_add, cell_of_row _ _ _ _ _ _ v5, List.getElem?_toArray]; exact hj)
           clear h5 v5)
        | (at_builtin; refine wpList_append_own _ rfl (.tmp 24) (.tmp 25) 40 rfl w.heap.size 5 i0 _ 1 1 Tryz.underlying40 HI.out HZ0.out HZ1.out HZ2.out HZS.out (by omega) (.slice (some ⟨g, 0, none⟩) (k * 32) c) (k * 32) (bcellsK f (k * 32)) rfl HOW5.out ⟨wr.heap.size, 0, none⟩ 32 32 (secL (sect f k)) rfl (by rw [secL_length]) HSR.out (by intro u hu; exact Array.all_eq_true_iff_forall_mem.1 (secA_one (sect f k)) u (by simpa [secL] using hu)) (by unfold maxLen; omega) (by omega) HB5.out.size ?_
           intro v9 w9 hown9 hg9 hnil
           obtain ⟨g9, c9, rfl, hg9b⟩ := own_formK hown9 (fun h' => by have := (hnil.1 h').2; omega)
           rw [HNX.out] at hown9
           have HO9 := Lib.hid hown9
           have HB9 := Lib.hid (HB5.out.grown hg9 HB5.out.size (fun i hi => (HOW5.out.lt i hi).1))
           clear hown9 hg9 hnil))
      have hk1 : k * 32 + 32 = (k + 1) * 32 := by omega
      rw [hk1]
      have HO10 := HO9.out
      rw [hk1] at HO10
      exact ⟨⟨k + 1, g9, c9, rfl, by omega, rfl, HO10, HB9.out⟩, by show n - ((k : Int) + 1).toNat < n - (k : Int).toNat; omega⟩
    · have hke : k = n := by omega
      subst hke
      have x0 : ¬ (k : Int) < (k : Int) := by omega
      have x1 : decide ((k : Int) < (k : Int)) = false := decide_eq_false x0
      have hcv := run_img wr w.heap.size g k c f HOW.out
      clear hlt x0
      go_wp2_with (fail)
      refine bodyPost_ret (results_tmp rfl _ _ _) rfl ?_
      exact ⟨rfl, HB.out⟩
end Go.Proofs.YtnmgkkjnjllpbaaGreatDoor
namespace Go.Proofs.YtnmgkkjnjllpbaaGreatDoor
open Go Go.RowKit
namespace Dk

/-- What the first m bytes leave in eight places. -/
def sArr (X : Nat → UInt8) : Nat → Nat → UInt8
  | 0, _ => 0
  | m + 1, j => if j = (X m).toNat % 8 then X m else sArr X m j
theorem getD_app_lt {L : List Wr} {y : Wr} {k : Nat} (h : k < L.length) : (L ++ [y]).getD k noWr = L.getD k noWr := by
  rw [List.getD_eq_getElem?_getD, List.getD_eq_getElem?_getD, List.getElem?_append_left h]
theorem getD_app_at (L : List Wr) (y : Wr) : (L ++ [y]).getD L.length noWr = y := by
  rw [List.getD_eq_getElem?_getD, List.getElem?_append_right (Nat.le_refl _), Nat.sub_self]
  rfl
theorem fs_app (safe : Nat → UInt8) (L : List Wr) (y : Wr) (kp : Nat → Bool) : ∀ k, k ≤ L.length → fs safe (L ++ [y]) kp k = fs safe L kp k
  | 0, _ => rfl
  | k + 1, h => by
    unfold fs
    rw [fs_app safe L y kp k (by omega), getD_app_lt (by omega)]
theorem fs_push (safe : Nat → UInt8) (L : List Wr) (y : Wr) : fs safe (L ++ [y]) (fun _ => true) (L.length + 1) = putS (fs safe L (fun _ => true) L.length) y.1 y.2 := by
  show (if true = true then _ else _) = _
  rw [if_pos rfl, getD_app_at, fs_app _ _ _ _ _ (Nat.le_refl _)]
/-- All loose writes laid on what is safe are what was written last. -/
def St.Full (x : St) : Prop := fs x.safe x.loose (fun _ => true) x.loose.length = x.now
theorem full_put {x : St} (h : x.Full) (p : Nat) (g : Nat → UInt8) : (x.put p g).Full := by
  show fs x.safe (x.loose ++ [(p, g)]) (fun _ => true) (x.loose ++ [(p, g)]).length = putS x.now p g
  rw [List.length_append]
  show fs x.safe (x.loose ++ [(p, g)]) (fun _ => true) (x.loose.length + 1) = putS x.now p g
  rw [fs_push, show fs x.safe x.loose (fun _ => true) x.loose.length = x.now from h]
theorem full_synced {x : St} (h : x.Full) : x.synced.Full ∧ x.synced.safe = x.now := ⟨h, h⟩
theorem fs_sect (safe : Nat → UInt8) (L : List Wr) (kp : Nat → Bool) (p : Nat) : ∀ k, (∀ j, j < 32 → sect (fs safe L kp k) p j = sect safe p j) ∨ ∃ q, q < k ∧ (L.getD q noWr).1 = p ∧ ∀ j, j < 32 → sect (fs safe L kp k) p j = (L.getD q noWr).2 j
  | 0 => .inl fun _ _ => rfl
  | k + 1 => by
    unfold fs
    cases kp k with
    | false =>
      rw [if_neg Bool.false_ne_true]
      rcases fs_sect safe L kp p k with h | ⟨q, h1, h2⟩
      · exact .inl h
      · exact .inr ⟨q, by omega, h2⟩
    | true =>
      rw [if_pos rfl]
      by_cases he : (L.getD k noWr).1 = p
      · refine .inr ⟨k, by omega, he, fun j hj => ?_⟩
        rw [← he]
        exact sect_put_same _ _ _ _ hj
      · rcases fs_sect safe L kp p k with h | ⟨q, h1, h2, h3⟩
        · exact .inl fun j hj => (sect_put_other _ _ _ _ _ hj he).trans (h j hj)
        · exact .inr ⟨q, by omega, h2, fun j hj => (sect_put_other _ _ _ _ _ hj he).trans (h3 j hj)⟩
theorem fs_none (safe : Nat → UInt8) (L : List Wr) (kp : Nat → Bool) (p k : Nat) (h : ∀ q, q < k → (L.getD q noWr).1 ≠ p) : ∀ j, j < 32 → sect (fs safe L kp k) p j = sect safe p j := by
  rcases fs_sect safe L kp p k with h1 | ⟨q, h1, h2, _⟩
  · exact h1
  · exact absurd h2 (h q h1)
theorem fn_sect (S now : Nat → UInt8) (L : List Wr) (p : Nat) : ∀ k, (∀ j, j < 32 → sect (fn S now L k) p j = sect S p j) ∨ ((∀ q, q < k → (L.getD q noWr).1 ≠ p) ∧ ∀ j, j < 32 → sect (fn S now L k) p j = sect now p j)
  | 0 => .inr ⟨fun q h => (by omega), fun _ _ => rfl⟩
  | k + 1 => by
    unfold fn
    by_cases he : (L.getD k noWr).1 = p
    · rw [he]
      exact .inl fun j hj => sect_put_same _ _ _ _ hj
    · rcases fn_sect S now L p k with h | ⟨h1, h2⟩
      · exact .inl fun j hj => (sect_put_other _ _ _ _ _ hj he).trans (h j hj)
      · refine .inr ⟨fun q hq => ?_, fun j hj => (sect_put_other _ _ _ _ _ hj he).trans (h2 j hj)⟩
        by_cases hqk : q = k
        · rw [hqk]; exact he
        · exact h1 q (by omega)
/-- Behind a loss of power a sector is as it was safe, or one of the loose writes. -/
theorem fall_sect {x : St} (hf : x.Full) (kl : List Bool) (p : Nat) :
    (∀ j, j < 32 → sect (x.fall kl).now p j = sect x.safe p j) ∨ ∃ q, q < x.loose.length ∧ (x.loose.getD q noWr).1 = p ∧ ∀ j, j < 32 → sect (x.fall kl).now p j = (x.loose.getD q noWr).2 j := by
  have hS := fs_sect x.safe x.loose (kp kl) p x.loose.length
  show (∀ j, j < 32 → sect (fn (fs x.safe x.loose (kp kl) x.loose.length) x.now x.loose x.loose.length) p j = sect x.safe p j) ∨ ∃ q, q < x.loose.length ∧ (x.loose.getD q noWr).1 = p ∧ ∀ j, j < 32 → sect (fn (fs x.safe x.loose (kp kl) x.loose.length) x.now x.loose x.loose.length) p j = (x.loose.getD q noWr).2 j
  rcases fn_sect (fs x.safe x.loose (kp kl) x.loose.length) x.now x.loose p x.loose.length with h | ⟨h1, h2⟩
  · rcases hS with h3 | ⟨q, h3, h4, h5⟩
    · exact .inl fun j hj => (h j hj).trans (h3 j hj)
    · exact .inr ⟨q, h3, h4, fun j hj => (h j hj).trans (h5 j hj)⟩
  · refine .inl fun j hj => (h2 j hj).trans ?_
    rw [← hf]
    exact fs_none x.safe x.loose _ p _ h1 j hj

/-- The disk of the law behind i writes, of which the first n are synced once i is beyond n. -/
structure Syn (X : Nat → UInt8) (n i : Nat) (synced : Bool) (x : St) : Prop where
  n8 : x.n = 8
  on : x.away = false
  fu : x.fuse = none
  len : x.loose.length ≤ i
  done : x.done ≤ i + if synced then 1 else 0
  full : x.Full
  now : ∀ p j, p < 8 → j < 32 → sect x.now p j = sArr X i p
  safe : synced = true → ∀ p j, p < 8 → j < 32 → sect x.safe p j = sArr X n p
  part : synced = true → n ≤ i ∧ x.loose.length = i - n ∧ ∀ q, q < i - n → (x.loose.getD q noWr).1 = (X (n + q)).toNat % 8 ∧ ∀ j, j < 32 → (x.loose.getD q noWr).2 j = X (n + q)
theorem syn_new (X : Nat → UInt8) (n : Nat) (x : St) (hx : x = { n := 8, safe := fun _ => 0, now := fun _ => 0, loose := [], fuse := none, away := false, done := 0 }) : Syn X n 0 false x := by
  subst hx
  exact ⟨rfl, rfl, rfl, Nat.le_refl _, Nat.zero_le _, rfl, fun _ _ _ _ => rfl, fun h => (by cases h), fun h => (by cases h)⟩
theorem syn_sync {X : Nat → UInt8} {n : Nat} {x : St} (h : Syn X n n false x) : Syn X n n true x.burnt.synced := by
  have h1 : fs x.safe x.loose (fun _ => true) x.loose.length = x.now := h.full
  refine ⟨h.n8, h.on, ?_, Nat.zero_le _, ?_, h1, h.now, fun _ p j hp hj => ?_, fun _ => ⟨Nat.le_refl _, by rw [Nat.sub_self]; rfl, fun q hq => by omega⟩⟩
  · show x.fuse.map _ = none
    rw [h.fu]
    rfl
  · have := h.done
    rw [if_neg Bool.false_ne_true] at this
    show x.done + 1 ≤ n + if true = true then 1 else 0
    rw [if_pos rfl]
    omega
  · show sect (fs x.safe x.loose (fun _ => true) x.loose.length) p j = _
    rw [h1]
    exact h.now p j hp hj
theorem syn_write {X : Nat → UInt8} {n i : Nat} {b : Bool} {x : St} (h : Syn X n i b x) (g : Nat → UInt8) (hg : ∀ j, j < 32 → g j = X i) : Syn X n (i + 1) b (x.burnt.put ((X i).toNat % 8) g) := by
  have h1 : fs x.safe x.loose (fun _ => true) x.loose.length = x.now := h.full
  refine ⟨h.n8, h.on, ?_, ?_, ?_, full_put (x := x.burnt) h1 _ _, fun p j hp hj => ?_, h.safe, fun hb => ?_⟩
  · show x.fuse.map _ = none
    rw [h.fu]
    rfl
  · show (x.loose ++ [((X i).toNat % 8, g)]).length ≤ i + 1
    rw [List.length_append]
    have := h.len
    simpa using this
  · have := h.done
    show x.done + 1 ≤ i + 1 + if b = true then 1 else 0
    omega
  · show sect (putS x.now ((X i).toNat % 8) g) p j = if p = (X i).toNat % 8 then X i else sArr X i p
    by_cases he : p = (X i).toNat % 8
    · rw [if_pos he, he, sect_put_same _ _ _ _ hj, hg j hj]
    · rw [if_neg he, sect_put_other _ _ _ _ _ hj (Ne.symm he)]
      exact h.now p j hp hj
  · obtain ⟨h2, h3, h4⟩ := h.part hb
    show n ≤ i + 1 ∧ (x.loose ++ [((X i).toNat % 8, g)]).length = i + 1 - n ∧ ∀ q, q < i + 1 - n → ((x.loose ++ [((X i).toNat % 8, g)]).getD q noWr).1 = (X (n + q)).toNat % 8 ∧ ∀ j, j < 32 → ((x.loose ++ [((X i).toNat % 8, g)]).getD q noWr).2 j = X (n + q)
    refine ⟨by omega, by rw [List.length_append]; show x.loose.length + 1 = _; omega, fun q hq => ?_⟩
    by_cases hql : q < i - n
    · rw [getD_app_lt (by omega)]
      exact h4 q hql
    · have he : q = x.loose.length := by omega
      rw [he, getD_app_at, h3, show n + (i - n) = i by omega]
      exact ⟨rfl, hg⟩
/-- What is read behind the loss. -/
theorem syn_read {X : Nat → UInt8} {n l : Nat} {x : St} (h : Syn X n l true x) (kl : List Bool) (p : Nat) (hp : p < 8) :
    ∃ c : UInt8, (∀ j, j < 32 → sect (x.fall kl).come.now p j = c) ∧ (c = sArr X n p ∨ ∃ i, n ≤ i ∧ i < l ∧ (X i).toNat % 8 = p ∧ c = X i) := by
  obtain ⟨h2, h3, h4⟩ := h.part rfl
  rcases fall_sect h.full kl p with h5 | ⟨q, h5, h6, h7⟩
  · exact ⟨sArr X n p, fun j hj => (h5 j hj).trans (h.safe rfl p j hp hj), .inl rfl⟩
  · obtain ⟨h8, h9⟩ := h4 q (by omega)
    refine ⟨X (n + q), fun j hj => (h7 j hj).trans (h9 j hj), .inr ⟨n + q, by omega, by omega, by rw [← h8]; exact h6, rfl⟩⟩
end Dk
end Go.Proofs.YtnmgkkjnjllpbaaGreatDoor
namespace Go.Proofs.YtnmgkkjnjllpbaaGreatDoor
open Go.ChangeShapes Go.WideShapes Go.ChangeAt Go.RowKit Dk

section
variable (K : Nat → Prop) (w : World) (D : Nat) (x : St)
theorem disk_write_away (h : DiskAt K w D x) (ha : x.away = true) (p : Nat) (hp : p < x.n) (q : ByteArray) (hq : q.size = 32) :
    Calls Tryz.prog 91 #[.pointer (some ⟨D, 0, none⟩), .int .i64 (p : Int), .string q] w fun e w' => e = .returned (.int .i64 4) ∧ w = w' := by
  have hr := disk_reach K w D x h (p : Int)
  rw [reach_in (by omega) (by omega), ha, if_pos rfl] at hr
  have HR := Lib.hid hr
  have hq2 : (q.size : Int) = 32 := by omega
  have hq3 : ((q.size : Int) == 32) = true := by rw [hq2]; rfl
  clear hr h hq
  go_enter Tryz.func91, Tryz.ntmps91
  go_wp2_with (fail)
  refine HR.out.mono ?_
  rintro e w1 ⟨rfl, rfl⟩
  clear HR
  go_wp2_with (fail)
  refine bodyPost_ret (results_tmp rfl _ _ _) rfl ?_
  exact ⟨rfl, rfl⟩
theorem disk_write_end (h : DiskAt K w D x) (ha : x.away = false) (p : Nat) (hp : p < x.n) (q : ByteArray) (hq : q.size = 32) (kl : List Bool) (hf : x.fuse = some (0, kl)) (hl : x.loose.length ≤ 1073741824) (hkl : kl.length ≤ 1099511627776) :
    Calls Tryz.prog 91 #[.pointer (some ⟨D, 0, none⟩), .int .i64 (p : Int), .string q] w (DiskSays K w D (.int .i64 4) (x.fall kl)) := by
  have HB := Lib.hid (disk_burn_end K w D x h kl hf hl hkl)
  have hr := disk_reach K w D x h (p : Int)
  rw [reach_in (by omega) (by omega), ha, if_neg Bool.false_ne_true] at hr
  have HR := Lib.hid hr
  have hq2 : (q.size : Int) = 32 := by omega
  have hq3 : ((q.size : Int) == 32) = true := by rw [hq2]; rfl
  clear hr h hq
  go_enter Tryz.func91, Tryz.ntmps91
  go_wp2_with (fail)
  refine HR.out.mono ?_
  rintro e w1 ⟨rfl, rfl⟩
  clear HR
  go_wp2_with (fail)
  refine HB.out.mono ?_
  rintro e w1 ⟨rfl, h1, h2⟩
  have H1 := Lib.hid h1
  have H2 := Lib.hid h2
  clear h1 h2 HB
  go_wp2_with (fail)
  refine bodyPost_ret (results_tmp rfl _ _ _) rfl ?_
  exact ⟨rfl, H1.out, H2.out⟩
end
end Go.Proofs.YtnmgkkjnjllpbaaGreatDoor
