/-
  Package disk: what the calls that turn nothing answer. Conditions: the disk stands in blocks of its own.
  Package disk: the power goes: what is kept of the writes that aren't safe. Conditions: the disk stands in blocks of its own; the bools that say what is kept lie in none of them, or in a row of bools.
  Package disk: a fuse burns, or the power goes. Conditions: the disk stands in blocks of its own; fewer than 2^62 writes were done.
  Package disk: Sync. Conditions: the disk stands in blocks of its own; fewer than 2^62 writes were done, fewer than 2^30 aren't safe.
-/
import Derived.Test.YtfpkgcofkgpgnaaDoorMg2
import Derived.Laws.BytesString
import Derived.StillTailTactics
set_option maxRecDepth 100000
namespace Go.Proofs.YtfpkgcofkgpgnaaDoor
open Go.ChangeShapes Go.WideShapes Go.ChangeAt Go.RowKit Dk

section
variable (K : Nat → Prop) (w : World) (D : Nat) (x : St)
theorem disk_isOn (h : DiskAt K w D x) : Calls Tryd.prog 28 #[.pointer (some ⟨D, 0, none⟩)] w fun e w' => e = .returned (.bool (!x.away)) ∧ w = w' := by
  obtain ⟨s, cs, t, ct, lv, fv, h⟩ := h
  have c4 := h.cell 4
  simp only [List.getElem?_toArray, List.getElem?_cons_succ, List.getElem?_cons_zero] at c4
  clear h
  generalize x.away = aw at c4 ⊢
  go_enter Tryd.func28, Tryd.ntmps28
  go_wp2
  go_ret
  exact ⟨rfl, rfl⟩
theorem disk_len (h : DiskAt K w D x) : Calls Tryd.prog 22 #[.pointer (some ⟨D, 0, none⟩)] w fun e w' => e = .returned (.int .i64 (x.n : Int)) ∧ w = w' := by
  obtain ⟨s, cs, t, ct, lv, fv, h⟩ := h
  have c0 := h.cell 0
  simp only [List.getElem?_toArray, List.getElem?_cons_zero] at c0
  clear h
  generalize x.n = n at c0 ⊢
  go_enter Tryd.func22, Tryd.ntmps22
  go_wp2
  go_ret
  exact ⟨rfl, rfl⟩
end
namespace Dk
/-- Whether there is such a sector, and the power to get at it. -/
def St.reach (x : St) (p : Int) : Int := if p < 0 ∨ (x.n : Int) ≤ p then 3 else if x.away then 4 else 0
theorem reach_out {x : St} {p : Int} (h : p < 0 ∨ (x.n : Int) ≤ p) : x.reach p = 3 := if_pos h
theorem reach_in {x : St} {p : Int} (h0 : ¬ p < 0) (h1 : ¬ (x.n : Int) ≤ p) : x.reach p = if x.away then 4 else 0 := if_neg (by omega)
end Dk
section
variable (K : Nat → Prop) (w : World) (D : Nat) (x : St)
theorem disk_reach (h : DiskAt K w D x) (p : Int) : Calls Tryd.prog 82 #[.pointer (some ⟨D, 0, none⟩), .int .i64 p] w fun e w' => e = .returned (.int .i64 (x.reach p)) ∧ w = w' := by
  obtain ⟨s, cs, t, ct, lv, fv, h⟩ := h
  have c0 := h.cell 0
  have c4 := h.cell 4
  simp only [List.getElem?_toArray, List.getElem?_cons_succ, List.getElem?_cons_zero] at c0 c4
  clear h
  by_cases h0 : p < 0
  · have h0' : decide (p < 0) = true := decide_eq_true h0
    rw [reach_out (.inl h0)]
    go_enter Tryd.func82, Tryd.ntmps82
    go_wp2
    go_ret
    exact ⟨rfl, rfl⟩
  · have h0' : decide (p < 0) = false := decide_eq_false h0
    by_cases h1 : (x.n : Int) ≤ p
    · have h1' : decide ((x.n : Int) ≤ p) = true := decide_eq_true h1
      rw [reach_out (.inr h1)]
      generalize x.n = n at c0 h1 h1'
      go_enter Tryd.func82, Tryd.ntmps82
      go_wp2
      go_ret
      exact ⟨rfl, rfl⟩
    · have h1' : decide ((x.n : Int) ≤ p) = false := decide_eq_false h1
      rw [reach_in h0 h1]
      generalize x.n = n at c0 h1 h1'
      cases ha : x.away with
      | true =>
        rw [ha] at c4
        rw [if_pos rfl]
        go_enter Tryd.func82, Tryd.ntmps82
        go_wp2
        go_ret
        exact ⟨rfl, rfl⟩
      | false =>
        rw [ha] at c4
        rw [if_neg Bool.false_ne_true]
        go_enter Tryd.func82, Tryd.ntmps82
        go_wp2
        go_ret
        exact ⟨rfl, rfl⟩
end
namespace Dk
/-- A sector's bytes as a text. -/
def secS (g : Nat → UInt8) : ByteArray := ⟨((List.range 32).map g).toArray⟩
theorem secS_congr {f g : Nat → UInt8} (h : ∀ j, j < 32 → f j = g j) : secS f = secS g := by
  unfold secS
  rw [List.map_congr_left fun j hj => h j (List.mem_range.1 hj)]
theorem secS_inj {f g : Nat → UInt8} (h : secS f = secS g) : ∀ j, j < 32 → f j = g j := by
  intro j hj
  have h2 := congrArg (fun b : ByteArray => b.data.toList[j]?) h
  simpa [secS, hj] using h2
theorem secS_size (g : Nat → UInt8) : (secS g).size = 32 := by
  show ((List.range 32).map g).toArray.size = 32
  simp
end Dk
theorem foldl_pushK (ns : List UInt8) : ∀ r : ByteArray, ns.foldl (fun r b => r.push b) r = ⟨(r.data.toList ++ ns).toArray⟩ := by
  induction ns with
  | nil => intro r; simp
  | cons a ns ih =>
    intro r
    rw [List.foldl_cons, ih]
    simp [ByteArray.push]
theorem foldl_pushK_int (ns : List UInt8) (r : ByteArray) : (ns.map fun b => (b.toNat : Int)).foldl (fun r n => r.push (UInt8.ofNat n.toNat)) r = ns.foldl (fun r b => r.push b) r := by
  rw [List.foldl_map]
  congr 1
  funext r b
  rw [Int.toNat_natCast, UInt8.ofNat_toNat]
/-- A slice of bytes as a string. -/
theorem run_textK (w : World) (a : Addr) (n cap : Nat) (l : List UInt8) (hn : n = l.length) (h : ∀ j u, (l.map fun b => Value.int .u8 (b.toNat : Int))[j]? = some u → w.cell? (a.add j) = some u) :
    (convert 77 9 (.slice (some a) n cap)).run Tryd.prog w = .ok (.string ⟨l.toArray⟩) w := by
  subst hn
  rw [run_convert_bytes_string w _ _ 5 _ l.length cap Tryd.underlying77 Tryd.underlying5 Tryd.underlying9]
  have hl := run_loadCells_list (P := Tryd.prog) w a _ h
  have e : (l.map fun b => Value.int .u8 (b.toNat : Int)) = (l.map fun b => (b.toNat : Int)).map (Value.int .u8) := by simp [List.map_map, Function.comp_def]
  rw [e] at hl
  rw [List.length_map, List.length_map] at hl
  rw [run_bytesToString w a l.length cap (l.map fun b => (b.toNat : Int)) hl, foldl_pushK_int, foldl_pushK]
  simp
theorem range_text {w : World} {b n p : Nat} {f : Nat → UInt8} (h : Row w b n f) (hp : p < n) (cap : Nat) : (convert 77 9 (.slice (some ⟨b, p * 32, none⟩) 32 cap)).run Tryd.prog w = .ok (.string (secS (sect f p))) w := by
  refine run_textK w _ 32 cap ((List.range 32).map (sect f p)) (by simp) fun j u hj => ?_
  rw [Addr.add_lit]
  have hl := (List.getElem?_eq_some_iff.1 hj).1
  simp only [List.length_map, List.length_range] at hl
  rw [h.range hp j (.int .u8 ((sect f p j).toNat : Int)) (secL_get _ _ hl), ← hj]
  simp [hl]
theorem disk_read (K : Nat → Prop) (w : World) (D : Nat) (x : St) (h : DiskAt K w D x) (ha : x.away = false) (p : Nat) (hp : p < x.n) :
    Calls Tryd.prog 65 #[.pointer (some ⟨D, 0, none⟩), .int .i64 (p : Int)] w fun e w' => e = .returned (.tuple #[.string (secS (sect x.now p)), .int .i64 0]) ∧ w = w' := by
  have hr := disk_reach K w D x h (p : Int)
  rw [reach_in (by omega) (by omega), ha, if_neg Bool.false_ne_true] at hr
  have HR := Lib.hid hr
  obtain ⟨s, cs, t, ct, lv, fv, h⟩ := h
  have c1 := h.cell 1
  simp only [List.getElem?_toArray, List.getElem?_cons_succ, List.getElem?_cons_zero] at c1
  have hx := range_text h.tr hp 32
  have h1 : (p : Int) < (x.n : Int) := by omega
  have h2 : ¬ (p : Int) < 0 := by omega
  have h3 : 0 ≤ (p : Int) := by omega
  have h4 : p < x.n := hp
  clear h hr
  generalize x.n = n at c1 h1 h4
  generalize secS (sect x.now p) = z at hx ⊢
  go_enter Tryd.func65, Tryd.ntmps65
  go_wp2_with (fail)
  refine HR.out.mono ?_
  rintro e w1 ⟨rfl, rfl⟩
  clear HR
  go_wp2
  refine bodyPost_ret (results_tmp2 rfl _ _ _) rfl ?_
  exact ⟨rfl, rfl⟩
end Go.Proofs.YtfpkgcofkgpgnaaDoor
namespace Go.Proofs.YtfpkgcofkgpgnaaDoor
open Go.ChangeShapes Go.WideShapes Go.ChangeAt Go.RowKit Dk

theorem sizeW : (Tryd.prog.info? 68).map (·.size) = some 33 := by kernel_rfl
theorem sizeS : (Tryd.prog.info? 66).map (·.size) = some 32 := by kernel_rfl
/-- A write's cells. -/
abbrev wrA (y : Wr) : Array Value := (wcells y).toArray
theorem wrA_list (y : Wr) : (wrA y).toList = wcells y := rfl
theorem wrA_size (y : Wr) : (wrA y).size = 33 := wcells_length y
theorem wrA_one (y : Wr) : (wrA y).all (·.oneCell') = true := all_oneCell_toArray (wcells_one y)
/-- A write stands in block v. -/
def WrAt (w : World) (v : Nat) (y : Wr) : Prop := w.heap[v]? = some (.cells (wrA y) 68 (0, 0))
namespace WrAt
variable {w w' : World} {v : Nat} {y : Wr}
theorem lt (h : WrAt w v y) : v < w.heap.size := (Array.getElem?_eq_some_iff.1 h).1
theorem place (h : WrAt w v y) : w.cell? ⟨v, 0, none⟩ = some (.int .i64 (y.1 : Int)) := cell_of_row w v 0 _ _ _ h
theorem bytes (h : WrAt w v y) : w.rangeAt v 1 (secL y.2) := fun j u hj => by
  rw [cell_of_row w v (1 + j) _ _ _ h]
  show (wcells y).toArray[1 + j]? = some u
  rw [List.getElem?_toArray, Nat.add_comm]
  exact hj
theorem of_block (h : WrAt w v y) (e : w'.heap[v]? = w.heap[v]?) : WrAt w' v y := e.trans h
end WrAt
/-- Within the falling: the disk's own block as it was, and both rows. -/
structure Falls (w wr : World) (D s cs t ct : Nat) (lv fv : Value) (x : St) (f g : Nat → UInt8) : Prop where
  hd : wr.heap[D]? = some (.cells #[.slice (some ⟨s, 0, none⟩) x.n cs, .slice (some ⟨t, 0, none⟩) x.n ct, lv, fv, .bool x.away, .int .i64 (x.done : Int)] 64 (0, 0))
  sr : Row wr s x.n f
  tr : Row wr t x.n g
  ne : s ≠ t
  ds : D ≠ s
  dt : D ≠ t
  os : wr.os = w.os
  tape : wr.tape = w.tape
  output : wr.output = w.output
  size : w.heap.size ≤ wr.heap.size
  block : ∀ i, i < w.heap.size → i ≠ s → i ≠ t → wr.heap[i]? = w.heap[i]?
namespace Falls
variable {w wr w' : World} {D s cs t ct : Nat} {lv fv : Value} {x : St} {f g : Nat → UInt8}
theorem start {K : Nat → Prop} (h : Lies K w D s cs t ct lv fv x) : Falls w w D s cs t ct lv fv x x.safe x.now := ⟨h.hd, h.sr, h.tr, h.ne, h.neDs, h.neDt, rfl, rfl, rfl, Nat.le_refl _, fun _ _ _ _ => rfl⟩
theorem then_below (h : Falls w wr D s cs t ct lv fv x f g) (hb : Below wr.heap.size wr w') : Falls w w' D s cs t ct lv fv x f g :=
  ⟨(hb.block D (Array.getElem?_eq_some_iff.1 h.hd).1).trans h.hd, h.sr.of_block (hb.block s h.sr.lt), h.tr.of_block (hb.block t h.tr.lt), h.ne, h.ds, h.dt, hb.os.trans h.os, hb.tape.trans h.tape, hb.output.trans h.output, Nat.le_trans h.size hb.size,
    fun i hi h1 h2 => (hb.block i (Nat.lt_of_lt_of_le hi h.size)).trans (h.block i hi h1 h2)⟩
theorem drew (h : Falls w wr D s cs t ct lv fv x f g) : Falls w wr.drew D s cs t ct lv fv x f g := h.then_below ((Below.refl _ _).drew)
theorem alloc (h : Falls w wr D s cs t ct lv fv x f g) (o : Obj) : Falls w (wr.alloc o) D s cs t ct lv fv x f g := h.then_below ((Below.refl _ _).alloc (Nat.le_refl _) o)
theorem new (h : Falls w wr D s cs t ct lv fv x f g) {b : Nat} (hb : w.heap.size ≤ b) (hs : b ≠ s) (ht : b ≠ t) (hD : b ≠ D) (he : w'.os = wr.os ∧ w'.tape = wr.tape ∧ w'.output = wr.output) (hz : wr.heap.size ≤ w'.heap.size) (ho : ∀ i, i ≠ b → w'.heap[i]? = wr.heap[i]?) : Falls w w' D s cs t ct lv fv x f g :=
  ⟨(ho D hD.symm).trans h.hd, h.sr.of_block (ho s hs.symm), h.tr.of_block (ho t ht.symm), h.ne, h.ds, h.dt, he.1.trans h.os, he.2.1.trans h.tape, he.2.2.trans h.output, Nat.le_trans h.size hz, fun i hi h1 h2 => (ho i (by omega)).trans (h.block i hi h1 h2)⟩
theorem putF (h : Falls w wr D s cs t ct lv fv x f g) {p : Nat} (hp : p < x.n) (q : Nat → UInt8) : Falls w (wr.setCells s (p * 32) (secL q)) D s cs t ct lv fv x (putS f p q) g := by
  obtain ⟨h1, h2, h3⟩ := setCells_os s (secL q) (p * 32) wr
  exact ⟨(setCells_other s D h.ds _ _ _).trans h.hd, h.sr.put hp q, h.tr.other h.ne.symm _ _, h.ne, h.ds, h.dt, h1.trans h.os, h2.trans h.tape, h3.trans h.output, by rw [setCells_size]; exact h.size, fun i hi hs ht => (setCells_other s i hs _ _ _).trans (h.block i hi hs ht)⟩
theorem putG (h : Falls w wr D s cs t ct lv fv x f g) {p : Nat} (hp : p < x.n) (q : Nat → UInt8) : Falls w (wr.setCells t (p * 32) (secL q)) D s cs t ct lv fv x f (putS g p q) := by
  obtain ⟨h1, h2, h3⟩ := setCells_os t (secL q) (p * 32) wr
  exact ⟨(setCells_other t D h.dt _ _ _).trans h.hd, h.sr.other h.ne _ _, h.tr.put hp q, h.ne, h.ds, h.dt, h1.trans h.os, h2.trans h.tape, h3.trans h.output, by rw [setCells_size]; exact h.size, fun i hi hs ht => (setCells_other t i ht _ _ _).trans (h.block i hi hs ht)⟩
theorem cell (h : Falls w wr D s cs t ct lv fv x f g) (i : Nat) : wr.cell? ⟨D, i, none⟩ = (#[.slice (some ⟨s, 0, none⟩) x.n cs, .slice (some ⟨t, 0, none⟩) x.n ct, lv, fv, .bool x.away, .int .i64 (x.done : Int)] : Array Value)[i]? := cell_of_row wr D i _ _ _ h.hd
end Falls
/-- What stands in the row of loose writes at its place k. -/
theorem own_range {w : World} {base g n c : Nat} {L : List Wr} (h : w.ownsRow base 68 33 (.slice (some ⟨g, 0, none⟩) n c) n (lcells L)) (k : Nat) (hk : k < L.length) : w.rangeAt g (k * 33) (wcells (L.getD k noWr)) := fun j u hj => by
  have hl := (List.getElem?_eq_some_iff.1 hj).1
  rw [wcells_length] at hl
  have := h.cells (g := g) rfl (k * 33 + j) u (by rw [lcells_at L k hk j hl]; exact hj)
  rwa [Addr.add_lit, Nat.zero_add] at this
theorem loose_form {w : World} {n : Nat} {v : Value} {xs : List Value} (h : w.ownsRow 0 68 33 v n xs) : (v = .slice none 0 0 ∧ n = 0) ∨ ∃ g c, v = .slice (some ⟨g, 0, none⟩) n c := by
  rcases h.2 with hn | ⟨g, cap, cur, rfl, _⟩
  · exact .inl hn
  · exact .inr ⟨g, cap, rfl⟩

/-- A load of many cells within a head that turns nothing. -/
theorem wpStill_load_midK {P : Program} {ops : Array Oper} {w : World} {Q : Act → Prop} {a : Act} {op : Oper} {rest : List Oper} (hw : Region.wanted op (yielded ops a.tmps) = true) (ty : TypeId) (x : Operand) (ho : op.op = .load ty x)
    (b o : Nat) (hx : a.eval x = .pointer (some ⟨b, o, none⟩)) (cs : List Value) (d : TypeDesc) (hc : w.rangeAt b o cs) (hu : P.underlying ty = some d) (hd : d.isRow = true) (hi : (P.info? ty).map (·.size) = some cs.length)
    (h : wpStill P ops w Q rest (a.put op.dst (.agg cs.toArray))) : wpStill P ops w Q (op :: rest) a := by
  refine wpStill_step (fun K hK => ?_)
  rw [if_pos hw]
  have hr : (execOp a.eval op).run P w = .ok (.value (.agg cs.toArray)) w := by
    unfold execOp
    simp only [ho, hx, Instr.loadAt, Instr.sureAddr, Sem.run_bind, Sem.run_pure, Result.andThen_ok, run_loadVar_mid w b o ty cs d hc hu hd hi]
  unfold Oper.still
  rw [hr]
  exact ⟨rfl, hK _ h⟩
/-- A variable that a round makes, and fills with a write. -/
theorem falls_var {w wr : World} {D s cs t ct : Nat} {lv fv : Value} {x : St} {f g : Nat → UInt8} (h : Falls w wr D s cs t ct lv fv x f g) (z : Array Value) (y : Wr) :
    Falls w ((wr.alloc (.cells z 68)).setRow wr.heap.size (wrA y)) D s cs t ct lv fv x f g ∧ WrAt ((wr.alloc (.cells z 68)).setRow wr.heap.size (wrA y)) wr.heap.size y :=
  ⟨h.then_below (below_setRow' ((Below.refl _ _).alloc (Nat.le_refl _) _) (Nat.le_refl _) _), setRow_heap _ _ _ _ _ _ (heap_alloc_new wr _)⟩
/-- The disk, when the power is gone. -/
theorem falls_end {K : Nat → Prop} {w wr wz : World} {D s cs t ct : Nat} {lv lv' fv fv' : Value} {x : St} {f g : Nat → UInt8} (h : Lies K w D s cs t ct lv' fv' x) (hf : Falls w wr D s cs t ct lv fv x f g)
    (hz : wz.heap[D]? = some (.cells #[.slice (some ⟨s, 0, none⟩) x.n cs, .slice (some ⟨t, 0, none⟩) x.n ct, .slice none 0 0, .pointer none, .bool true, .int .i64 (x.done : Int)] 64 (0, 0))) (ho : ∀ i, i ≠ D → wz.heap[i]? = wr.heap[i]?)
    (he : wz.os = wr.os ∧ wz.tape = wr.tape ∧ wz.output = wr.output) (hs : wr.heap.size ≤ wz.heap.size) :
    DiskSays K w D (.tuple #[]) { x with safe := f, now := g, loose := [], fuse := none, away := true } (.returned (.tuple #[])) wz :=
  ⟨rfl, ⟨s, cs, t, ct, .slice none 0 0, .pointer none, hz, hf.sr.of_block (ho s hf.ds.symm), hf.tr.of_block (ho t hf.dt.symm), hf.ne, h.cs, h.ct, World.ownsRow_nil _ _ _ _, rfl, fun y hy => (by cases hy), h.nb, h.kD, h.ks, h.kt, fun g hg => (by cases hg)⟩,
    ⟨he.1.trans hf.os, he.2.1.trans hf.tape, he.2.2.trans hf.output, Nat.le_trans hf.size hs, fun i hi hk => (ho i (fun e => hk (by rw [e]; exact h.kD))).trans (hf.block i hi (fun e => hk (by rw [e]; exact h.ks)) (fun e => hk (by rw [e]; exact h.kt)))⟩⟩
/-- The last three stores. -/
theorem falls_stores {K : Nat → Prop} {w wr : World} {D s cs t ct : Nat} {lv lv' fv fv' : Value} {x : St} {f g : Nat → UInt8} (h : Lies K w D s cs t ct lv' fv' x) (hf : Falls w wr D s cs t ct lv fv x f g) :
    DiskSays K w D (.tuple #[]) { x with safe := f, now := g, loose := [], fuse := none, away := true } (.returned (.tuple #[])) (((wr.setCell ⟨D, 2, none⟩ (.slice none 0 0)).setCell ⟨D, 3, none⟩ (.pointer none)).setCell ⟨D, 4, none⟩ (.bool true)) := by
  refine falls_end h hf ?_ ?_ ⟨rfl, rfl, rfl⟩ (by simp [World.setCell])
  · have h1 := heap_setCell_same wr D 2 _ _ (.slice none 0 0) hf.hd
    have h2 := heap_setCell_same _ D 3 _ _ (.pointer none) h1
    exact heap_setCell_same _ D 4 _ _ (.bool true) h2
  · intro i hi
    rw [heap_setCell_other _ ⟨D, 4, none⟩ i _ hi, heap_setCell_other _ ⟨D, 3, none⟩ i _ hi, heap_setCell_other _ ⟨D, 2, none⟩ i _ hi]
theorem fall_eq (x : St) (kl : List Bool) (L : List Wr) (m : Nat) (hL : L = x.loose) (hm : m = L.length) :
    x.fall kl = { x with safe := fs x.safe L (kp kl) m, now := fn (fs x.safe L (kp kl) m) x.now L m, loose := [], fuse := none, away := true } := by subst hm hL; rfl
set_option maxRecDepth 100000 in
set_option maxHeartbeats 3200000 in
theorem disk_fall (K : Nat → Prop) (w : World) (D s cs t ct : Nat) (lv fv : Value) (x : St) (h : Lies K w D s cs t ct lv fv x) (hl : x.loose.length ≤ 1073741824) (kv : Value) (kl : List Bool) (hkl : kl.length ≤ 1099511627776) (hk : BoolsAt w kv kl)
    (hkk : ∀ w' : World, (∀ i, i < w.heap.size → i ≠ s → i ≠ t → w'.heap[i]? = w.heap[i]?) → BoolsAt w' kv kl) :
    Calls Tryd.prog 29 #[.pointer (some ⟨D, 0, none⟩), kv] w (DiskSays K w D (.tuple #[]) (x.fall kl)) := by
  have H := Lib.hid h
  have HK := Lib.hid hkk
  have hD := h.lt
  have hcell := h.cell
  have c2 : w.cell? ⟨D, 2, none⟩ = some lv := hcell 2
  clear hcell
  clear h hkk
  obtain ⟨ka, kc, rfl⟩ : ∃ ka kc, kv = .slice ka kl.length kc := by
    rcases hk with ⟨rfl, a, c, rfl⟩ | ⟨b, o, c, rfl, _⟩
    · exact ⟨a, c, rfl⟩
    · exact ⟨_, _, rfl⟩
  clear hk
  have hkT : ∀ w' : World, (∀ i, i < w.heap.size → i ≠ s → i ≠ t → w'.heap[i]? = w.heap[i]?) → ∀ k, k < kl.length → ∃ b o, ka = some ⟨b, o, none⟩ ∧ kl.length ≤ kc ∧ w'.cell? ⟨b, o + k, none⟩ = some (.bool (kp kl k)) := fun w' h' k hkl => by
    rcases HK.out w' h' with ⟨rfl, _⟩ | ⟨b, o, c, he, hc, hx⟩
    · cases hkl
    · injection he with h1 h2 h3
      refine ⟨b, o, h1, by rw [h3]; exact hc, hx k _ ?_⟩
      unfold kp
      rw [List.getD_eq_getElem?_getD, List.getElem?_eq_getElem hkl]
      rfl
  have HKT := Lib.hid hkT
  clear hkT HK
  rcases loose_form H.out.lo with ⟨rfl, hn⟩ | ⟨g, c, rfl⟩
  · have hL0 : x.loose = [] := List.length_eq_zero_iff.1 hn
    have HE := Lib.hid (fall_eq x kl [] 0 hL0.symm rfl)
    have HF := Lib.hid (Falls.start H.out)
    clear HKT
    go_enter Tryd.func29, Tryd.ntmps29
    go_wp2_with (fail)
    go_loopw [13] (fun i wr => i = .int .i64 0 ∧ w = wr) (fun _ _ => 0)
    case atStart => exact ⟨rfl, rfl⟩
    case round =>
      obtain ⟨rfl, rfl⟩ := hrel
      go_wp2_with (fail)
      go_loopw [43] (fun i wr => i = .int .i64 0 ∧ w = wr) (fun _ _ => 0)
      case atStart => exact ⟨rfl, rfl⟩
      case round =>
        obtain ⟨rfl, rfl⟩ := hrel
        have HFS := Lib.hid (falls_stores H.out HF.out)
        have f2 : w.frozen? ⟨D, 2, none⟩ = false := H.out.fz 2
        have f3 : w.frozen? ⟨D, 3, none⟩ = false := H.out.fz 3
        have f4 : w.frozen? ⟨D, 4, none⟩ = false := H.out.fz 4
        have d3 : w.cell? ⟨D, 3, none⟩ = some fv := H.out.cell 3
        have d4 : w.cell? ⟨D, 4, none⟩ = some (.bool x.away) := H.out.cell 4
        go_wp2_with (fail)
        go_end0
        rw [HE.out]
        exact HFS.out
  obtain ⟨L, hL⟩ : ∃ L, L = x.loose := ⟨_, rfl⟩
  have HOW := Lib.hid (show w.ownsRow 0 68 33 (.slice (some ⟨g, 0, none⟩) L.length c) L.length (lcells L) by rw [hL]; exact H.out.lo)
  have hgl : g < w.heap.size := (H.out.lo.lt g rfl).2
  have hgs : g ≠ s := H.out.neLs g rfl
  have hgt : g ≠ t := H.out.neLt g rfl
  have HLN := Lib.hid (show ∀ y ∈ L, y.1 < x.n by rw [hL]; exact H.out.pl)
  have HF := Lib.hid (Falls.start H.out)
  rw [← hL] at c2 hl HF
  have HL := Lib.hid hL
  clear hL
  obtain ⟨m, hm⟩ : ∃ m, m = L.length := ⟨_, rfl⟩
  rw [← hm] at c2 hl HF
  have HM := Lib.hid hm
  clear hm
  go_enter Tryd.func29, Tryd.ntmps29
  go_wp2_with (fail)
  go_loopw [13] (fun i wr => ∃ k : Nat, i = .int .i64 (k : Int) ∧ k ≤ m ∧ Falls w wr D s cs t ct (.slice (some ⟨g, 0, none⟩) m c) fv x (fs x.safe L (kp kl) k) x.now) (fun i _ => match i with | .int _ k => m - k.toNat | _ => 0)
  case atStart => exact ⟨0, rfl, Nat.zero_le _, HF.out⟩
  case round =>
    clear HF c2
    obtain ⟨k, rfl, hkm, hf⟩ := hrel
    have HF := Lib.hid hf
    clear hf
    by_cases hlt : k < m
    · have hRG : wr.rangeAt g (k * 33) (wcells (L.getD k noWr)) := own_range (own_keep HOW.out (fun i hi => by cases hi; exact HF.out.block g hgl hgs hgt)) k (by rw [← HM.out]; exact hlt)
      have HRG := Lib.hid hRG
      have hpl : (L.getD k noWr).1 < x.n := HLN.out _ (by rw [List.getD_eq_getElem?_getD, List.getElem?_eq_getElem (by rw [← HM.out]; exact hlt)]; exact List.getElem_mem _)
      have HNX := Lib.hid (show fs x.safe L (kp kl) (k + 1) = if kp kl k then putS (fs x.safe L (kp kl) k) (L.getD k noWr).1 (L.getD k noWr).2 else fs x.safe L (kp kl) k from rfl)
      clear hRG
      generalize L.getD k noWr = y at HRG hpl HNX
      have x0 : (k : Int) < (m : Int) := by omega
      have x1 : decide ((k : Int) < (m : Int)) = true := decide_eq_true x0
      have x2 : (0 : Int) ≤ (k : Int) := by omega
      have HWI := Lib.hid (show (Tryd.prog.info? 68).map (·.size) = some (wcells y).length by rw [wcells_length]; exact sizeW)
      have HWA := Lib.hid (show (Tryd.prog.info? 68).map (·.size) = some (wrA y).size by rw [wrA_size]; exact sizeW)
      have HWO := Lib.hid (wrA_one y)
      have HFV := Lib.hid (fun z => falls_var HF.out z y)
      have hD2 : D < wr.heap.size := (Array.getElem?_eq_some_iff.1 HF.out.hd).1
      have hs2 : s < wr.heap.size := HF.out.sr.lt
      by_cases hkk : k < kl.length
      · obtain ⟨b, o, rfl, hkc, _⟩ := HKT.out wr (fun i hi h1 h2 => HF.out.block i hi h1 h2) k hkk
        have HK2 := Lib.hid (show ∀ w' : World, (∀ i, i < w.heap.size → i ≠ s → i ≠ t → w'.heap[i]? = w.heap[i]?) → w'.cell? ⟨b, o + k, none⟩ = some (.bool (kp kl k)) from fun w' h' => by
          obtain ⟨b', o', he, _, hx⟩ := HKT.out w' h' k hkk
          injection he with he
          injection he with h1 h2
          subst h1 h2
          exact hx)
        have y0 : (k : Int) < (kl.length : Int) := by omega
        have y1 : decide ((k : Int) < (kl.length : Int)) = true := decide_eq_true y0
        cases hkp : kp kl k with
        | true =>
          rw [hkp] at HK2 HNX
          rw [if_pos rfl] at HNX
          have HSI := Lib.hid (show (Tryd.prog.info? 66).map (·.size) = some (secL y.2).length by rw [secL_length]; exact sizeS)
          have HSA := Lib.hid (show (Tryd.prog.info? 66).map (·.size) = some (secL y.2).toArray.size by rw [List.size_toArray, secL_length]; exact sizeS)
          have HSO := Lib.hid (show (secL y.2).toArray.all (·.oneCell') = true by rw [secA_list]; exact secA_one y.2)
          go_wp2_with (first
            | (with_reducible refine wpList_load_mid rfl 68 _ rfl g (k * 33) rfl (wcells y) _ HRG.out Tryd.underlying68 rfl HWI.out ?_)
            | (refine wpList_store_row rfl 68 (.tmp 5) (.tmp 17) rfl wr.heap.size (wrA y) rfl rfl 68 _ (heap_alloc_new _ _) HWA.out (by rw [wrA_size]; rfl) HWO.out ?_
               refine gen_list (fun W => Falls w W D s cs t ct (.slice (some ⟨g, 0, none⟩) m c) fv x (fs x.safe L (kp kl) k) x.now ∧ WrAt W wr.heap.size y) (HFV.out _) ?_
               rintro w5 ⟨h5, v5⟩
               have k5 := HK2.out w5 (fun i hi h1 h2 => h5.block i hi h1 h2)
               have d5 : w5.cell? ⟨D, 0, none⟩ = some (.slice (some ⟨s, 0, none⟩) x.n cs) := h5.cell 0
               have p5 := v5.place
               have H5 := Lib.hid h5
               have V5 := Lib.hid v5
               clear h5 v5))
          have q0 : 0 ≤ (y.1 : Int) := by omega
          have q1 : (y.1 : Int) < (x.n : Int) := by omega
          have H5d := Lib.hid H5.out.drew
          have V5d := Lib.hid (show WrAt w5.drew wr.heap.size y from V5.out)
          go_still_tail 9, (by kernel_rfl)
          refine wpStill_load_midK (by rfl) 66 (.tmp 34) rfl wr.heap.size 1 rfl (secL y.2) _ V5d.out.bytes Tryd.underlying66 rfl HSI.out ?_
          repeat still_step
          refine wpStill_nil ?_
          change wpList _ _ _ _ _ w5.drew
          clear k5 d5 p5 H5 V5
          generalize w5.drew = w6 at H5d V5d ⊢
          have d6 : w6.cell? ⟨D, 0, none⟩ = some (.slice (some ⟨s, 0, none⟩) x.n cs) := H5d.out.cell 0
          have p6 := V5d.out.place
          have HTH := Lib.hid (show w6.there s (y.1 * 32) (secL y.2).toArray.size by rw [List.size_toArray, secL_length]; exact H5d.out.sr.there hpl)
          have HPF := Lib.hid (H5d.out.putF hpl y.2)
          refine wpList_store_mid rfl 66 (.tmp 36) (.tmp 35) rfl s (y.1 * 32) (secL y.2).toArray rfl rfl HTH.out HSA.out HSO.out ?_
          refine gen_list (fun W => Falls w W D s cs t ct (.slice (some ⟨g, 0, none⟩) m c) fv x (putS (fs x.safe L (kp kl) k) y.1 y.2) x.now) HPF.out ?_
          rintro w7 h7
          have H7 := Lib.hid h7
          clear h7 HPF HTH H5d V5d d6 p6
          go_wp2_with (fail)
          exact ⟨⟨k + 1, rfl, by omega, by rw [HNX.out]; exact H7.out⟩, by show m - ((k : Int) + 1).toNat < m - (k : Int).toNat; omega⟩
        | false =>
          rw [hkp] at HK2 HNX
          rw [if_neg Bool.false_ne_true] at HNX
          go_wp2_with (first
            | (with_reducible refine wpList_load_mid rfl 68 _ rfl g (k * 33) rfl (wcells y) _ HRG.out Tryd.underlying68 rfl HWI.out ?_)
            | (refine wpList_store_row rfl 68 (.tmp 5) (.tmp 17) rfl wr.heap.size (wrA y) rfl rfl 68 _ (heap_alloc_new _ _) HWA.out (by rw [wrA_size]; rfl) HWO.out ?_
               refine gen_list (fun W => Falls w W D s cs t ct (.slice (some ⟨g, 0, none⟩) m c) fv x (fs x.safe L (kp kl) k) x.now) (HFV.out _).1 ?_
               rintro w5 h5
               have k5 := HK2.out w5 (fun i hi h1 h2 => h5.block i hi h1 h2)
               have H5 := Lib.hid h5
               clear h5))
          exact ⟨⟨k + 1, rfl, by omega, by rw [HNX.out]; exact H5.out⟩, by show m - ((k : Int) + 1).toNat < m - (k : Int).toNat; omega⟩
      · have y0 : ¬ (k : Int) < (kl.length : Int) := by omega
        have y1 : decide ((k : Int) < (kl.length : Int)) = false := decide_eq_false y0
        have hkp : kp kl k = false := by unfold kp; rw [List.getD_eq_getElem?_getD, List.getElem?_eq_none (by omega)]; rfl
        rw [hkp, if_neg Bool.false_ne_true] at HNX
        clear hkp
        go_wp2_with (first
          | (with_reducible refine wpList_load_mid rfl 68 _ rfl g (k * 33) rfl (wcells y) _ HRG.out Tryd.underlying68 rfl HWI.out ?_)
          | (refine wpList_store_row rfl 68 (.tmp 5) (.tmp 17) rfl wr.heap.size (wrA y) rfl rfl 68 _ (heap_alloc_new _ _) HWA.out (by rw [wrA_size]; rfl) HWO.out ?_))
        exact ⟨⟨k + 1, rfl, by omega, by rw [HNX.out]; exact (HFV.out _).1⟩, by show m - ((k : Int) + 1).toNat < m - (k : Int).toNat; omega⟩
    · have hke : k = m := by omega
      subst hke
      have x0 : ¬ (k : Int) < (k : Int) := by omega
      have x1 : decide ((k : Int) < (k : Int)) = false := decide_eq_false x0
      have d2 : wr.cell? ⟨D, 2, none⟩ = some (.slice (some ⟨g, 0, none⟩) k c) := HF.out.cell 2
      clear hlt x0
      have HE := Lib.hid (fall_eq x kl L k HL.out HM.out)
      have HF0 := Lib.hid HF.out
      clear HKT HF
      go_wp2_with (fail)
      clear d2
      obtain ⟨F, hF⟩ : ∃ F, F = fs x.safe L (kp kl) k := ⟨_, rfl⟩
      rw [← hF] at HE HF0
      clear hF
      go_loopw [43] (fun i wy => ∃ q : Nat, i = .int .i64 (q : Int) ∧ q ≤ k ∧ Falls w wy D s cs t ct (.slice (some ⟨g, 0, none⟩) k c) fv x F (fn F x.now L q)) (fun i _ => match i with | .int _ q => k - q.toNat | _ => 0)
      case atStart => exact ⟨0, rfl, Nat.zero_le _, HF0.out⟩
      case round =>
        clear HF0 x1
        obtain ⟨q, rfl, hqk, hf⟩ := hrel
        have HF := Lib.hid hf
        clear hf
        by_cases hlt : q < k
        · have hRG : wr.rangeAt g (q * 33) (wcells (L.getD q noWr)) := own_range (own_keep HOW.out (fun i hi => by cases hi; exact HF.out.block g hgl hgs hgt)) q (by rw [← HM.out]; exact hlt)
          have HRG := Lib.hid hRG
          have hpl : (L.getD q noWr).1 < x.n := HLN.out _ (by rw [List.getD_eq_getElem?_getD, List.getElem?_eq_getElem (by rw [← HM.out]; exact hlt)]; exact List.getElem_mem _)
          have HNX := Lib.hid (show fn F x.now L (q + 1) = putS (fn F x.now L q) (L.getD q noWr).1 (sect F (L.getD q noWr).1) from rfl)
          clear hRG
          generalize L.getD q noWr = y at HRG hpl HNX
          have x0 : (q : Int) < (k : Int) := by omega
          have x1 : decide ((q : Int) < (k : Int)) = true := decide_eq_true x0
          have x2 : (0 : Int) ≤ (q : Int) := by omega
          have HWI := Lib.hid (show (Tryd.prog.info? 68).map (·.size) = some (wcells y).length by rw [wcells_length]; exact sizeW)
          have HWA := Lib.hid (show (Tryd.prog.info? 68).map (·.size) = some (wrA y).size by rw [wrA_size]; exact sizeW)
          have HWO := Lib.hid (wrA_one y)
          have HFV := Lib.hid (fun z => falls_var HF.out z y)
          have hD2 : D < wr.heap.size := (Array.getElem?_eq_some_iff.1 HF.out.hd).1
          have HSI := Lib.hid (show (Tryd.prog.info? 66).map (·.size) = some (secL (sect F y.1)).length by rw [secL_length]; exact sizeS)
          have HSA := Lib.hid (show (Tryd.prog.info? 66).map (·.size) = some (secL (sect F y.1)).toArray.size by rw [List.size_toArray, secL_length]; exact sizeS)
          have HSO := Lib.hid (show (secL (sect F y.1)).toArray.all (·.oneCell') = true by rw [secA_list]; exact secA_one _)
          go_wp2_with (first
            | (with_reducible refine wpList_load_mid rfl 68 _ rfl g (q * 33) rfl (wcells y) _ HRG.out Tryd.underlying68 rfl HWI.out ?_)
            | (refine wpList_store_row rfl 68 (.tmp 7) (.tmp 46) rfl wr.heap.size (wrA y) rfl rfl 68 _ (heap_alloc_new _ _) HWA.out (by rw [wrA_size]; rfl) HWO.out ?_
               refine gen_list (fun W => Falls w W D s cs t ct (.slice (some ⟨g, 0, none⟩) k c) fv x F (fn F x.now L q) ∧ WrAt W wr.heap.size y) (HFV.out _) ?_
               rintro w5 ⟨h5, v5⟩
               have d5 : w5.cell? ⟨D, 0, none⟩ = some (.slice (some ⟨s, 0, none⟩) x.n cs) := h5.cell 0
               have e5 : w5.cell? ⟨D, 1, none⟩ = some (.slice (some ⟨t, 0, none⟩) x.n ct) := h5.cell 1
               have p5 := v5.place
               have H5 := Lib.hid h5
               have V5 := Lib.hid v5
               clear h5 v5))
          have q0 : 0 ≤ (y.1 : Int) := by omega
          have q1 : (y.1 : Int) < (x.n : Int) := by omega
          have H5d := Lib.hid H5.out.drew
          go_still_tail 15, (by kernel_rfl)
          refine wpStill_load_midK (by rfl) 66 (.tmp 59) rfl s (y.1 * 32) rfl (secL (sect F y.1)) _ (H5d.out.sr.range hpl) Tryd.underlying66 rfl HSI.out ?_
          repeat still_step
          refine wpStill_nil ?_
          change wpList _ _ _ _ _ w5.drew
          clear d5 e5 p5 H5 V5
          generalize w5.drew = w6 at H5d ⊢
          have HTH := Lib.hid (show w6.there t (y.1 * 32) (secL (sect F y.1)).toArray.size by rw [List.size_toArray, secL_length]; exact H5d.out.tr.there hpl)
          have HPF := Lib.hid (H5d.out.putG hpl (sect F y.1))
          refine wpList_store_mid rfl 66 (.tmp 61) (.tmp 60) rfl t (y.1 * 32) (secL (sect F y.1)).toArray rfl rfl HTH.out HSA.out HSO.out ?_
          refine gen_list (fun W => Falls w W D s cs t ct (.slice (some ⟨g, 0, none⟩) k c) fv x F (putS (fn F x.now L q) y.1 (sect F y.1))) HPF.out ?_
          rintro w7 h7
          have H7 := Lib.hid h7
          clear h7 HPF HTH H5d
          go_wp2_with (fail)
          exact ⟨⟨q + 1, rfl, by omega, by rw [HNX.out]; exact H7.out⟩, by show k - ((q : Int) + 1).toNat < k - (q : Int).toNat; omega⟩
        · have hke : q = k := by omega
          subst hke
          have x0 : ¬ (q : Int) < (q : Int) := by omega
          have x1 : decide ((q : Int) < (q : Int)) = false := decide_eq_false x0
          have HFS := Lib.hid (falls_stores H.out HF.out)
          have f2 : wr.frozen? ⟨D, 2, none⟩ = false := frozen_of_row wr D 2 _ _ HF.out.hd
          have f3 : wr.frozen? ⟨D, 3, none⟩ = false := frozen_of_row wr D 3 _ _ HF.out.hd
          have f4 : wr.frozen? ⟨D, 4, none⟩ = false := frozen_of_row wr D 4 _ _ HF.out.hd
          have d2 : wr.cell? ⟨D, 2, none⟩ = some (.slice (some ⟨g, 0, none⟩) q c) := HF.out.cell 2
          have d3 : wr.cell? ⟨D, 3, none⟩ = some fv := HF.out.cell 3
          have d4 : wr.cell? ⟨D, 4, none⟩ = some (.bool x.away) := HF.out.cell 4
          clear hlt x0
          go_wp2_with (fail)
          go_end0
          rw [HE.out]
          exact HFS.out
end Go.Proofs.YtfpkgcofkgpgnaaDoor
namespace Go.Proofs.YtfpkgcofkgpgnaaDoor
open Go.ChangeShapes Go.WideShapes Go.ChangeAt Go.RowKit Dk

/-- The disk's own block and its fuse's written anew, all else as it was. -/
theorem Lies.refuse {K : Nat → Prop} {w w' : World} {D s cs t ct : Nat} {lv fv fv' : Value} {x y : St} (h : Lies K w D s cs t ct lv fv x) (hh : w'.heap[D]? = some (.cells #[.slice (some ⟨s, 0, none⟩) x.n cs, .slice (some ⟨t, 0, none⟩) x.n ct, lv, fv', .bool y.away, .int .i64 (y.done : Int)] 64 (0, 0)))
    (hf : FuseAt K w' fv' y.fuse) (ho : ∀ (i : Nat) (c : Array Value) (u : TypeId), i ≠ D → u ≠ 88 → w.heap[i]? = some (.cells c u (0, 0)) → w'.heap[i]? = w.heap[i]?) (h1 : y.n = x.n) (h2 : y.safe = x.safe) (h3 : y.now = x.now) (h4 : y.loose = x.loose) : Lies K w' D s cs t ct lv fv' y := by
  obtain ⟨n, sa, no, lo, fu, aw, dn⟩ := y
  subst h1 h2 h3 h4
  refine ⟨hh, ?_, ?_, h.ne, h.cs, h.ct, own_keep h.lo (fun g hg => ?_), hf, h.pl, h.nb, h.kD, h.ks, h.kt, h.kl⟩
  · obtain ⟨c, hc, _⟩ := h.sr
    exact h.sr.of_block (ho s c _ h.neDs.symm (by decide) hc)
  · obtain ⟨c, hc, _⟩ := h.tr
    exact h.tr.of_block (ho t c _ h.neDt.symm (by decide) hc)
  · obtain ⟨c, hc⟩ := own_type h.lo g hg
    exact ho g c _ (h.neLD g hg) (by decide) hc
/-- A fuse's bools stay, whatever is written into the disk's rows. -/
theorem fuse_bools {K : Nat → Prop} {w : World} {D s cs t ct : Nat} {lv fv : Value} {x : St} (h : Lies K w D s cs t ct lv fv x) {kv : Value} {kl : List Bool} (hk : OwnBools K w kv kl) :
    ∀ w' : World, (∀ i, i < w.heap.size → i ≠ s → i ≠ t → w'.heap[i]? = w.heap[i]?) → BoolsAt w' kv kl := fun w' he => by
  obtain ⟨c, hc, _⟩ := h.sr
  obtain ⟨d, hd, _⟩ := h.tr
  exact (hk.keepT (fun i cur hi => he i (Array.getElem?_eq_some_iff.1 hi).1 (ne_type hi hc (by decide)) (ne_type hi hd (by decide)))).at_
section
variable (K : Nat → Prop) (w : World) (D : Nat) (x : St)
set_option maxRecDepth 100000 in
set_option maxHeartbeats 800000 in
theorem disk_burn_none (h : DiskAt K w D x) (hf : x.fuse = none) (hd : x.done < 4611686018427387904) :
    Calls Tryd.prog 24 #[.pointer (some ⟨D, 0, none⟩)] w (DiskSays K w D (.int .i64 0) x.burnt) := by
  obtain ⟨s, cs, t, ct, lv, fv, h⟩ := h
  have hfu := h.fu
  rw [hf] at hfu
  obtain rfl : fv = .pointer none := hfu
  have H := Lib.hid h
  have c3 : w.cell? ⟨D, 3, none⟩ = some (.pointer none) := h.cell 3
  have c5 : w.cell? ⟨D, 5, none⟩ = some (.int .i64 (x.done : Int)) := h.cell 5
  have f5 := h.fz 5
  have e1 : IntKind.i64.wrap ((x.done : Int) + 1) = (x.done : Int) + 1 := IntWalk.i64_in _ (by omega)
  have HH := Lib.hid (show Lies K (w.setCell ⟨D, 5, none⟩ (.int .i64 ((x.done : Int) + 1))) D s cs t ct lv (.pointer none) x.burnt from
    h.refuse (y := x.burnt) (heap_setCell_same w D 5 _ _ _ h.hd) (by show FuseAt K _ _ (x.fuse.map _); rw [hf]; rfl) (fun i c u hi _ _ => heap_setCell_other w ⟨D, 5, none⟩ i _ hi) rfl rfl rfl rfl)
  have HK := Lib.hid ((Kept.refl K w).setCell (a := ⟨D, 5, none⟩) (.inl h.kD) (.int .i64 ((x.done : Int) + 1)))
  clear h hf hd
  generalize (x.done : Int) = dn at c5 e1 HH HK
  go_enter Tryd.func24, Tryd.ntmps24
  go_wp2_with (fail)
  refine bodyPost_ret (results_tmp rfl _ _ _) rfl ?_
  exact ⟨rfl, ⟨s, cs, t, ct, lv, _, HH.out⟩, HK.out⟩
set_option maxRecDepth 100000 in
set_option maxHeartbeats 800000 in
theorem disk_burn_some (h : DiskAt K w D x) (l : Nat) (kl : List Bool) (hf : x.fuse = some (l + 1, kl)) (hd : x.done < 4611686018427387904) :
    Calls Tryd.prog 24 #[.pointer (some ⟨D, 0, none⟩)] w (DiskSays K w D (.int .i64 0) x.burnt) := by
  obtain ⟨s, cs, t, ct, lv, fv, h⟩ := h
  have hfu := h.fu
  rw [hf] at hfu
  obtain ⟨fb, kv, rfl, hfb, hkv, hlt, hkf⟩ := hfu
  have H := Lib.hid h
  have c3 : w.cell? ⟨D, 3, none⟩ = some (.pointer (some ⟨fb, 0, none⟩)) := h.cell 3
  have c5 : w.cell? ⟨D, 5, none⟩ = some (.int .i64 (x.done : Int)) := h.cell 5
  have f5 := h.fz 5
  have g0 : w.cell? ⟨fb, 0, none⟩ = some (.int .i64 ((l + 1 : Nat) : Int)) := cell_of_row w fb 0 _ _ _ hfb
  have z0 : w.frozen? ⟨fb, 0, none⟩ = false := frozen_of_row w fb 0 _ _ hfb
  have e1 : IntKind.i64.wrap ((x.done : Int) + 1) = (x.done : Int) + 1 := IntWalk.i64_in _ (by omega)
  have e2 : IntKind.i64.wrap (((l + 1 : Nat) : Int) - 1) = (l : Int) := (IntWalk.i64_in _ (by omega)).trans (by omega)
  have e3 : ¬ ((l + 1 : Nat) : Int) = 0 := by omega
  have e4 : (((l + 1 : Nat) : Int) == 0) = false := beq_eq_false_iff_ne.2 e3
  have hne : D ≠ fb := ne_type h.hd hfb (by decide)
  have n1 : (⟨fb, 0, none⟩ : Addr) ≠ ⟨D, 5, none⟩ := fun e => by injection e with e; exact hne e.symm
  have HH := Lib.hid (show Lies K ((w.setCell ⟨fb, 0, none⟩ (.int .i64 (l : Int))).setCell ⟨D, 5, none⟩ (.int .i64 ((x.done : Int) + 1))) D s cs t ct lv (.pointer (some ⟨fb, 0, none⟩)) x.burnt by
    have hD1 : (w.setCell ⟨fb, 0, none⟩ (.int .i64 (l : Int))).heap[D]? = w.heap[D]? := heap_setCell_other w ⟨fb, 0, none⟩ D _ hne
    have ho : ∀ i, i ≠ D → i ≠ fb → ((w.setCell ⟨fb, 0, none⟩ (.int .i64 (l : Int))).setCell ⟨D, 5, none⟩ (.int .i64 ((x.done : Int) + 1))).heap[i]? = w.heap[i]? := fun i hi hj => by
      rw [heap_setCell_other _ ⟨D, 5, none⟩ i _ hi, heap_setCell_other w ⟨fb, 0, none⟩ i _ hj]
    refine h.refuse (y := x.burnt) (heap_setCell_same _ D 5 _ _ _ (hD1.trans h.hd)) ?_ (fun i c u hi hu hc => ho i hi (ne_type hc hfb hu)) rfl rfl rfl rfl
    show FuseAt K _ _ (x.fuse.map _)
    rw [hf]
    refine ⟨fb, kv, rfl, ?_, hkv.keepT (fun i cur hi => ho i (ne_type hi h.hd (by decide)) (ne_type hi hfb (by decide))), by omega, hkf⟩
    rw [heap_setCell_other _ ⟨D, 5, none⟩ fb _ hne.symm]
    exact heap_setCell_same w fb 0 _ _ _ hfb)
  have HK := Lib.hid (((Kept.refl K w).setCell (a := ⟨fb, 0, none⟩) (.inl hkf) (.int .i64 (l : Int))).setCell (a := ⟨D, 5, none⟩) (.inl h.kD) (.int .i64 ((x.done : Int) + 1)))
  clear h hf hd hkv hfb hlt
  generalize (x.done : Int) = dn at c5 e1 HH HK
  generalize ((l + 1 : Nat) : Int) = l1 at g0 e2 e3 e4
  go_enter Tryd.func24, Tryd.ntmps24
  go_wp2_with (fail)
  refine bodyPost_ret (results_tmp rfl _ _ _) rfl ?_
  exact ⟨rfl, ⟨s, cs, t, ct, lv, _, HH.out⟩, HK.out⟩
set_option maxRecDepth 100000 in
set_option maxHeartbeats 800000 in
theorem disk_burn_end (h : DiskAt K w D x) (kl : List Bool) (hf : x.fuse = some (0, kl)) (hl : x.loose.length ≤ 1073741824) (hkl : kl.length ≤ 1099511627776) :
    Calls Tryd.prog 24 #[.pointer (some ⟨D, 0, none⟩)] w (DiskSays K w D (.int .i64 4) (x.fall kl)) := by
  obtain ⟨s, cs, t, ct, lv, fv, h⟩ := h
  have hfu := h.fu
  rw [hf] at hfu
  obtain ⟨fb, kv, rfl, hfb, hkv, hlt, hkf⟩ := hfu
  have HFA := Lib.hid (disk_fall K w D s cs t ct lv _ x h hl kv kl hkl hkv.at_ (fuse_bools h hkv))
  have c3 : w.cell? ⟨D, 3, none⟩ = some (.pointer (some ⟨fb, 0, none⟩)) := h.cell 3
  have g0 : w.cell? ⟨fb, 0, none⟩ = some (.int .i64 0) := cell_of_row w fb 0 _ _ _ hfb
  have g1 : w.cell? ⟨fb, 1, none⟩ = some kv := cell_of_row w fb 1 _ _ _ hfb
  have o1 : ∃ a n c, kv = .slice a n c := by
    rcases hkv with ⟨_, rfl⟩ | ⟨kb, c, cur, rfl, _⟩
    · exact ⟨_, _, _, rfl⟩
    · exact ⟨_, _, _, rfl⟩
  obtain ⟨a, n, c, rfl⟩ := o1
  clear h hf hkv hfb hlt
  go_enter Tryd.func24, Tryd.ntmps24
  go_wp2_with (fail)
  refine HFA.out.mono ?_
  rintro e w1 ⟨rfl, h1, h2⟩
  have H1 := Lib.hid h1
  have H2 := Lib.hid h2
  clear h1 h2 HFA
  go_wp2
  refine bodyPost_ret (results_tmp rfl _ _ _) rfl ?_
  exact ⟨rfl, H1.out, H2.out⟩
end
end Go.Proofs.YtfpkgcofkgpgnaaDoor
namespace Go.Proofs.YtfpkgcofkgpgnaaDoor
open Go.ChangeShapes Go.WideShapes Go.ChangeAt Go.RowKit Dk

/-- The disk behind a sync. -/
theorem falls_sync {K : Nat → Prop} {w wr : World} {D s cs t ct : Nat} {lv : Value} {fv : Value} {x : St} {f : Nat → UInt8} (h : Lies K w D s cs t ct lv fv x) (hf : Falls w wr D s cs t ct lv fv x f x.now) :
    DiskSays K w D (.int .i64 0) { x with safe := f, loose := [] } (.returned (.int .i64 0)) (wr.setCell ⟨D, 2, none⟩ (.slice none 0 0)) := by
  have ho : ∀ i, i ≠ D → (wr.setCell ⟨D, 2, none⟩ (.slice none 0 0)).heap[i]? = wr.heap[i]? := fun i hi => heap_setCell_other wr ⟨D, 2, none⟩ i _ hi
  have hfz : FuseAt K (wr.setCell ⟨D, 2, none⟩ (.slice none 0 0)) fv x.fuse := by
    obtain ⟨c1, hc1, _⟩ := h.sr
    obtain ⟨c2, hc2, _⟩ := h.tr
    have hk : ∀ (i : Nat) (c : Array Value) (u : TypeId), u ≠ 66 → u ≠ 64 → w.heap[i]? = some (.cells c u (0, 0)) → (wr.setCell ⟨D, 2, none⟩ (.slice none 0 0)).heap[i]? = w.heap[i]? := fun i c u h1 h2 hc =>
      (ho i (ne_type hc h.hd h2)).trans (hf.block i (Array.getElem?_eq_some_iff.1 hc).1 (ne_type hc hc1 h1) (ne_type hc hc2 h1))
    have hfu := h.fu
    generalize x.fuse = fu at hfu ⊢
    match fu, hfu with
    | none, h0 => exact h0
    | some (l, kl), ⟨fb, kv, h1, h2, h3, h4, h5⟩ => exact ⟨fb, kv, h1, (hk fb _ _ (by decide) (by decide) h2).trans h2, h3.keepT (fun i cur hi => hk i cur _ (by decide) (by decide) hi), h4, h5⟩
  exact ⟨rfl, ⟨s, cs, t, ct, .slice none 0 0, fv, heap_setCell_same wr D 2 _ _ _ hf.hd, hf.sr.of_block (ho s hf.ds.symm), hf.tr.of_block (ho t hf.dt.symm), hf.ne, h.cs, h.ct, World.ownsRow_nil _ _ _ _, hfz, fun y hy => (by cases hy), h.nb, h.kD, h.ks, h.kt, fun g hg => (by cases hg)⟩,
    ⟨hf.os, hf.tape, hf.output, Nat.le_trans hf.size (by simp [World.setCell]), fun i hi hk => (ho i (fun e => hk (by rw [e]; exact h.kD))).trans (hf.block i hi (fun e => hk (by rw [e]; exact h.ks)) (fun e => hk (by rw [e]; exact h.kt)))⟩⟩
theorem synced_eq (x : St) (L : List Wr) (m : Nat) (hL : L = x.loose) (hm : m = L.length) : x.synced = { x with safe := fs x.safe L (fun _ => true) m, loose := [] } := by subst hm hL; rfl
theorem DiskSays.after {K : Nat → Prop} {w w1 : World} {D : Nat} {v : Value} {x : St} (hk : Kept K w w1) : ∀ {e : Ending} {w2 : World}, DiskSays K w1 D v x e w2 → DiskSays K w D v x e w2 := fun ⟨a, b, c⟩ => ⟨a, b, hk.trans c⟩
section
variable (K : Nat → Prop) (w : World) (D : Nat) (x : St)
theorem disk_sync_away (h : DiskAt K w D x) (ha : x.away = true) : Calls Tryd.prog 9 #[.pointer (some ⟨D, 0, none⟩)] w fun e w' => e = .returned (.int .i64 4) ∧ w = w' := by
  obtain ⟨s, cs, t, ct, lv, fv, h⟩ := h
  have c4 : w.cell? ⟨D, 4, none⟩ = some (.bool x.away) := h.cell 4
  rw [ha] at c4
  clear h
  go_enter Tryd.func9, Tryd.ntmps9
  go_wp2_with (fail)
  refine bodyPost_ret (results_tmp rfl _ _ _) rfl ?_
  exact ⟨rfl, rfl⟩
theorem disk_sync_end (h : DiskAt K w D x) (ha : x.away = false) (kl : List Bool) (hf : x.fuse = some (0, kl)) (hl : x.loose.length ≤ 1073741824) (hkl : kl.length ≤ 1099511627776) :
    Calls Tryd.prog 9 #[.pointer (some ⟨D, 0, none⟩)] w (DiskSays K w D (.int .i64 4) (x.fall kl)) := by
  have HB := Lib.hid (disk_burn_end K w D x h kl hf hl hkl)
  obtain ⟨s, cs, t, ct, lv, fv, h⟩ := h
  have c4 : w.cell? ⟨D, 4, none⟩ = some (.bool x.away) := h.cell 4
  rw [ha] at c4
  clear h
  go_enter Tryd.func9, Tryd.ntmps9
  go_wp2_with (fail)
  refine HB.out.mono ?_
  rintro e w1 ⟨rfl, h1, h2⟩
  have H1 := Lib.hid h1
  have H2 := Lib.hid h2
  clear h1 h2 HB
  go_wp2
  refine bodyPost_ret (results_tmp rfl _ _ _) rfl ?_
  exact ⟨rfl, H1.out, H2.out⟩
set_option maxRecDepth 100000 in
set_option maxHeartbeats 3200000 in
/-- A sync, behind what the fuse burnt to. -/
theorem disk_sync_ok (h : DiskAt K w D x) (ha : x.away = false) (hl : x.loose.length ≤ 1073741824) (hb : Calls Tryd.prog 24 #[.pointer (some ⟨D, 0, none⟩)] w (DiskSays K w D (.int .i64 0) x.burnt)) :
    Calls Tryd.prog 9 #[.pointer (some ⟨D, 0, none⟩)] w (DiskSays K w D (.int .i64 0) x.burnt.synced) := by
  have HBU := Lib.hid hb
  obtain ⟨s, cs, t, ct, lv, fv, h⟩ := h
  have c4 : w.cell? ⟨D, 4, none⟩ = some (.bool x.away) := h.cell 4
  rw [ha] at c4
  clear h hb
  have hl2 : x.burnt.loose.length ≤ 1073741824 := hl
  generalize x.burnt = y at HBU hl2 ⊢
  clear hl ha s cs t ct lv fv
  go_enter Tryd.func9, Tryd.ntmps9
  go_wp2_with (fail)
  refine HBU.out.mono ?_
  rintro e w1 ⟨rfl, ⟨s, cs, t, ct, lv, fv, h⟩, hk⟩
  have H := Lib.hid h
  have HKP := Lib.hid hk
  have c2 : w1.cell? ⟨D, 2, none⟩ = some lv := h.cell 2
  clear h hk HBU c4
  rcases loose_form H.out.lo with ⟨rfl, hn⟩ | ⟨g, c, rfl⟩
  · have hL0 : y.loose = [] := List.length_eq_zero_iff.1 hn
    have HE := Lib.hid (synced_eq y [] 0 hL0.symm rfl)
    have f2 : w1.frozen? ⟨D, 2, none⟩ = false := H.out.fz 2
    have HFS := Lib.hid (DiskSays.after HKP.out (falls_sync H.out (Falls.start H.out)))
    go_wp2_with (fail)
    go_loopw [22] (fun i wr => i = .int .i64 0 ∧ w1 = wr) (fun _ _ => 0)
    case atStart => exact ⟨rfl, rfl⟩
    case round =>
      obtain ⟨rfl, rfl⟩ := hrel
      go_wp2_with (fail)
      refine bodyPost_ret (results_tmp rfl _ _ _) rfl ?_
      rw [HE.out]
      exact HFS.out
  obtain ⟨L, hL⟩ : ∃ L, L = y.loose := ⟨_, rfl⟩
  have HOW := Lib.hid (show w1.ownsRow 0 68 33 (.slice (some ⟨g, 0, none⟩) L.length c) L.length (lcells L) by rw [hL]; exact H.out.lo)
  have hgl : g < w1.heap.size := (H.out.lo.lt g rfl).2
  have hgs : g ≠ s := H.out.neLs g rfl
  have hgt : g ≠ t := H.out.neLt g rfl
  have HLN := Lib.hid (show ∀ u ∈ L, u.1 < y.n by rw [hL]; exact H.out.pl)
  have HF := Lib.hid (Falls.start H.out)
  rw [← hL] at c2 hl2 HF
  have HL := Lib.hid hL
  clear hL
  obtain ⟨m, hm⟩ : ∃ m, m = L.length := ⟨_, rfl⟩
  rw [← hm] at c2 hl2 HF
  have HM := Lib.hid hm
  clear hm
  go_wp2_with (fail)
  go_loopw [22] (fun i wr => ∃ k : Nat, i = .int .i64 (k : Int) ∧ k ≤ m ∧ Falls w1 wr D s cs t ct (.slice (some ⟨g, 0, none⟩) m c) fv y (fs y.safe L (fun _ => true) k) y.now) (fun i _ => match i with | .int _ k => m - k.toNat | _ => 0)
  case atStart => exact ⟨0, rfl, Nat.zero_le _, HF.out⟩
  case round =>
    clear HF c2
    obtain ⟨k, rfl, hkm, hf⟩ := hrel
    have HF := Lib.hid hf
    clear hf
    by_cases hlt : k < m
    · have hRG : wr.rangeAt g (k * 33) (wcells (L.getD k noWr)) := own_range (own_keep HOW.out (fun i hi => by cases hi; exact HF.out.block g hgl hgs hgt)) k (by rw [← HM.out]; exact hlt)
      have HRG := Lib.hid hRG
      have hpl : (L.getD k noWr).1 < y.n := HLN.out _ (by rw [List.getD_eq_getElem?_getD, List.getElem?_eq_getElem (by rw [← HM.out]; exact hlt)]; exact List.getElem_mem _)
      have HNX := Lib.hid (show fs y.safe L (fun _ => true) (k + 1) = putS (fs y.safe L (fun _ => true) k) (L.getD k noWr).1 (L.getD k noWr).2 from if_pos rfl)
      clear hRG
      generalize L.getD k noWr = z at HRG hpl HNX
      have x0 : (k : Int) < (m : Int) := by omega
      have x1 : decide ((k : Int) < (m : Int)) = true := decide_eq_true x0
      have x2 : (0 : Int) ≤ (k : Int) := by omega
      have HWI := Lib.hid (show (Tryd.prog.info? 68).map (·.size) = some (wcells z).length by rw [wcells_length]; exact sizeW)
      have HWA := Lib.hid (show (Tryd.prog.info? 68).map (·.size) = some (wrA z).size by rw [wrA_size]; exact sizeW)
      have HWO := Lib.hid (wrA_one z)
      have HFV := Lib.hid (fun q => falls_var HF.out q z)
      have HSI := Lib.hid (show (Tryd.prog.info? 66).map (·.size) = some (secL z.2).length by rw [secL_length]; exact sizeS)
      have HSA := Lib.hid (show (Tryd.prog.info? 66).map (·.size) = some (secL z.2).toArray.size by rw [List.size_toArray, secL_length]; exact sizeS)
      have HSO := Lib.hid (show (secL z.2).toArray.all (·.oneCell') = true by rw [secA_list]; exact secA_one z.2)
      have hD2 : D < wr.heap.size := (Array.getElem?_eq_some_iff.1 HF.out.hd).1
      have hs2 : s < wr.heap.size := HF.out.sr.lt
      go_wp2_with (first
        | (with_reducible refine wpList_load_mid rfl 68 _ rfl g (k * 33) rfl (wcells z) _ HRG.out Tryd.underlying68 rfl HWI.out ?_)
        | (refine wpList_store_row rfl 68 (.tmp 5) (.tmp 25) rfl wr.heap.size (wrA z) rfl rfl 68 _ (heap_alloc_new _ _) HWA.out (by rw [wrA_size]; rfl) HWO.out ?_
           refine gen_list (fun W => Falls w1 W D s cs t ct (.slice (some ⟨g, 0, none⟩) m c) fv y (fs y.safe L (fun _ => true) k) y.now ∧ WrAt W wr.heap.size z) (HFV.out _) ?_
           rintro w5 ⟨h5, v5⟩
           have d5 : w5.cell? ⟨D, 0, none⟩ = some (.slice (some ⟨s, 0, none⟩) y.n cs) := h5.cell 0
           have p5 := v5.place
           have H5 := Lib.hid h5
           have V5 := Lib.hid v5
           clear h5 v5))
      have q0 : 0 ≤ (z.1 : Int) := by omega
      have q1 : (z.1 : Int) < (y.n : Int) := by omega
      have H5d := Lib.hid H5.out.drew
      have V5d := Lib.hid (show WrAt w5.drew wr.heap.size z from V5.out)
      go_still_tail 9, (by kernel_rfl)
      refine wpStill_load_midK (by rfl) 66 (.tmp 32) rfl wr.heap.size 1 rfl (secL z.2) _ V5d.out.bytes Tryd.underlying66 rfl HSI.out ?_
      repeat still_step
      refine wpStill_nil ?_
      change wpList _ _ _ _ _ w5.drew
      clear d5 p5 H5 V5
      generalize w5.drew = w6 at H5d V5d ⊢
      have HTH := Lib.hid (show w6.there s (z.1 * 32) (secL z.2).toArray.size by rw [List.size_toArray, secL_length]; exact H5d.out.sr.there hpl)
      have HPF := Lib.hid (H5d.out.putF hpl z.2)
      refine wpList_store_mid rfl 66 (.tmp 34) (.tmp 33) rfl s (z.1 * 32) (secL z.2).toArray rfl rfl HTH.out HSA.out HSO.out ?_
      refine gen_list (fun W => Falls w1 W D s cs t ct (.slice (some ⟨g, 0, none⟩) m c) fv y (putS (fs y.safe L (fun _ => true) k) z.1 z.2) y.now) HPF.out ?_
      rintro w7 h7
      have H7 := Lib.hid h7
      clear h7 HPF HTH H5d V5d
      go_wp2_with (fail)
      exact ⟨⟨k + 1, rfl, by omega, by rw [HNX.out]; exact H7.out⟩, by show m - ((k : Int) + 1).toNat < m - (k : Int).toNat; omega⟩
    · have hke : k = m := by omega
      subst hke
      have x0 : ¬ (k : Int) < (k : Int) := by omega
      have x1 : decide ((k : Int) < (k : Int)) = false := decide_eq_false x0
      have d2 : wr.cell? ⟨D, 2, none⟩ = some (.slice (some ⟨g, 0, none⟩) k c) := HF.out.cell 2
      have f2 : wr.frozen? ⟨D, 2, none⟩ = false := frozen_of_row wr D 2 _ _ HF.out.hd
      have hfx : DiskSays K w D (.int .i64 0) { y with safe := fs y.safe L (fun _ => true) k, loose := [] } (.returned (.int .i64 0)) (wr.setCell ⟨D, 2, none⟩ (.slice none 0 0)) :=
        DiskSays.after HKP.out (falls_sync H.out (by have := HF.out; rw [HM.out, HL.out] at this; rw [HM.out]; rw [HL.out]; exact this))
      have HFS := Lib.hid hfx
      have HE := Lib.hid (synced_eq y L k HL.out HM.out)
      clear hlt x0 hfx
      go_wp2_with (fail)
      refine bodyPost_ret (results_tmp rfl _ _ _) rfl ?_
      rw [HE.out]
      exact HFS.out
end
end Go.Proofs.YtfpkgcofkgpgnaaDoor
