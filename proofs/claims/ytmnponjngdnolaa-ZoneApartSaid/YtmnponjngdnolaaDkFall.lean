/-
  Package disk: the power goes: what is kept of the writes that aren't safe. Conditions: the disk stands in blocks of its own; the bools that say what is kept lie in none of them, or in a row of bools.
-/
import Derived.Test.YtmnponjngdnolaaDkRead
import Derived.StillTailTactics
namespace Go.Proofs.Ytmnponjngdnolaa
open Go.ChangeShapes Go.WideShapes Go.ChangeAt Go.RowKit Dk

theorem sizeW : (Try.prog.info? 58).map (·.size) = some 33 := by kernel_rfl
theorem sizeS : (Try.prog.info? 52).map (·.size) = some 32 := by kernel_rfl
/-- A write's cells. -/
abbrev wrA (y : Wr) : Array Value := (wcells y).toArray
theorem wrA_list (y : Wr) : (wrA y).toList = wcells y := rfl
theorem wrA_size (y : Wr) : (wrA y).size = 33 := wcells_length y
theorem wrA_one (y : Wr) : (wrA y).all (·.oneCell') = true := all_oneCell_toArray (wcells_one y)
/-- A write stands in block v. -/
def WrAt (w : World) (v : Nat) (y : Wr) : Prop := w.heap[v]? = some (.cells (wrA y) 58 (0, 0))
namespace WrAt
variable {w w' : World} {v : Nat} {y : Wr}
theorem lt (h : WrAt w v y) : v < w.heap.size := (Array.getElem?_eq_some_iff.1 h).1
theorem place (h : WrAt w v y) : w.cell? ⟨v, 0, none⟩ = some (.int .i64 (y.1 : Int)) := cell_of_row w v 0 _ _ _ h
theorem bytes (h : WrAt w v y) : w.rangeAt v 1 (secL y.2) := fun j u hj => by
  rw [cell_of_row w v (1 + j) _ _ _ h]
  show (wcells y).toArray[1 + j]? = some u
  rw [List.getElem?_toArray, Nat.add_comm]
  exact hj
theorem of_block (h : WrAt w v y) (e : w'.heap[v]? = w.heap[v]?) : WrAt w' v y := e.trans h
end WrAt
/-- Within the falling: the disk's own block as it was, and both rows. -/
structure Falls (w wr : World) (D s cs t ct : Nat) (lv fv : Value) (x : St) (f g : Nat → UInt8) : Prop where
  hd : wr.heap[D]? = some (.cells #[.slice (some ⟨s, 0, none⟩) x.n cs, .slice (some ⟨t, 0, none⟩) x.n ct, lv, fv, .bool x.away, .int .i64 (x.done : Int)] 56 (0, 0))
  sr : Row wr s x.n f
  tr : Row wr t x.n g
  ne : s ≠ t
  ds : D ≠ s
  dt : D ≠ t
  os : wr.os = w.os
  tape : wr.tape = w.tape
  output : wr.output = w.output
  size : w.heap.size ≤ wr.heap.size
  block : ∀ i, i < w.heap.size → i ≠ s → i ≠ t → wr.heap[i]? = w.heap[i]?
namespace Falls
variable {w wr w' : World} {D s cs t ct : Nat} {lv fv : Value} {x : St} {f g : Nat → UInt8}
theorem start {K : Nat → Prop} (h : Lies K w D s cs t ct lv fv x) : Falls w w D s cs t ct lv fv x x.safe x.now := ⟨h.hd, h.sr, h.tr, h.ne, h.neDs, h.neDt, rfl, rfl, rfl, Nat.le_refl _, fun _ _ _ _ => rfl⟩
theorem then_below (h : Falls w wr D s cs t ct lv fv x f g) (hb : Below wr.heap.size wr w') : Falls w w' D s cs t ct lv fv x f g :=
  ⟨(hb.block D (Array.getElem?_eq_some_iff.1 h.hd).1).trans h.hd, h.sr.of_block (hb.block s h.sr.lt), h.tr.of_block (hb.block t h.tr.lt), h.ne, h.ds, h.dt, hb.os.trans h.os, hb.tape.trans h.tape, hb.output.trans h.output, Nat.le_trans h.size hb.size,
    fun i hi h1 h2 => (hb.block i (Nat.lt_of_lt_of_le hi h.size)).trans (h.block i hi h1 h2)⟩
theorem drew (h : Falls w wr D s cs t ct lv fv x f g) : Falls w wr.drew D s cs t ct lv fv x f g := h.then_below ((Below.refl _ _).drew)
theorem alloc (h : Falls w wr D s cs t ct lv fv x f g) (o : Obj) : Falls w (wr.alloc o) D s cs t ct lv fv x f g := h.then_below ((Below.refl _ _).alloc (Nat.le_refl _) o)
theorem new (h : Falls w wr D s cs t ct lv fv x f g) {b : Nat} (hb : w.heap.size ≤ b) (hs : b ≠ s) (ht : b ≠ t) (hD : b ≠ D) (he : w'.os = wr.os ∧ w'.tape = wr.tape ∧ w'.output = wr.output) (hz : wr.heap.size ≤ w'.heap.size) (ho : ∀ i, i ≠ b → w'.heap[i]? = wr.heap[i]?) : Falls w w' D s cs t ct lv fv x f g :=
  ⟨(ho D hD.symm).trans h.hd, h.sr.of_block (ho s hs.symm), h.tr.of_block (ho t ht.symm), h.ne, h.ds, h.dt, he.1.trans h.os, he.2.1.trans h.tape, he.2.2.trans h.output, Nat.le_trans h.size hz, fun i hi h1 h2 => (ho i (by omega)).trans (h.block i hi h1 h2)⟩
theorem putF (h : Falls w wr D s cs t ct lv fv x f g) {p : Nat} (hp : p < x.n) (q : Nat → UInt8) : Falls w (wr.setCells s (p * 32) (secL q)) D s cs t ct lv fv x (putS f p q) g := by
  obtain ⟨h1, h2, h3⟩ := setCells_os s (secL q) (p * 32) wr
  exact ⟨(setCells_other s D h.ds _ _ _).trans h.hd, h.sr.put hp q, h.tr.other h.ne.symm _ _, h.ne, h.ds, h.dt, h1.trans h.os, h2.trans h.tape, h3.trans h.output, by rw [setCells_size]; exact h.size, fun i hi hs ht => (setCells_other s i hs _ _ _).trans (h.block i hi hs ht)⟩
theorem putG (h : Falls w wr D s cs t ct lv fv x f g) {p : Nat} (hp : p < x.n) (q : Nat → UInt8) : Falls w (wr.setCells t (p * 32) (secL q)) D s cs t ct lv fv x f (putS g p q) := by
  obtain ⟨h1, h2, h3⟩ := setCells_os t (secL q) (p * 32) wr
  exact ⟨(setCells_other t D h.dt _ _ _).trans h.hd, h.sr.other h.ne _ _, h.tr.put hp q, h.ne, h.ds, h.dt, h1.trans h.os, h2.trans h.tape, h3.trans h.output, by rw [setCells_size]; exact h.size, fun i hi hs ht => (setCells_other t i ht _ _ _).trans (h.block i hi hs ht)⟩
theorem cell (h : Falls w wr D s cs t ct lv fv x f g) (i : Nat) : wr.cell? ⟨D, i, none⟩ = (#[.slice (some ⟨s, 0, none⟩) x.n cs, .slice (some ⟨t, 0, none⟩) x.n ct, lv, fv, .bool x.away, .int .i64 (x.done : Int)] : Array Value)[i]? := cell_of_row wr D i _ _ _ h.hd
end Falls
/-- What stands in the row of loose writes at its place k. -/
theorem own_range {w : World} {base g n c : Nat} {L : List Wr} (h : w.ownsRow base 58 33 (.slice (some ⟨g, 0, none⟩) n c) n (lcells L)) (k : Nat) (hk : k < L.length) : w.rangeAt g (k * 33) (wcells (L.getD k noWr)) := fun j u hj => by
  have hl := (List.getElem?_eq_some_iff.1 hj).1
  rw [wcells_length] at hl
  have := h.cells (g := g) rfl (k * 33 + j) u (by rw [lcells_at L k hk j hl]; exact hj)
  rwa [Addr.add_lit, Nat.zero_add] at this
theorem loose_form {w : World} {n : Nat} {v : Value} {xs : List Value} (h : w.ownsRow 0 58 33 v n xs) : (v = .slice none 0 0 ∧ n = 0) ∨ ∃ g c, v = .slice (some ⟨g, 0, none⟩) n c := by
  rcases h.2 with hn | ⟨g, cap, cur, rfl, _⟩
  · exact .inl hn
  · exact .inr ⟨g, cap, rfl⟩

/-- A load of many cells within a head that turns nothing. -/
theorem wpStill_load_midK {P : Program} {ops : Array Oper} {w : World} {Q : Act → Prop} {a : Act} {op : Oper} {rest : List Oper} (hw : Region.wanted op (yielded ops a.tmps) = true) (ty : TypeId) (x : Operand) (ho : op.op = .load ty x)
    (b o : Nat) (hx : a.eval x = .pointer (some ⟨b, o, none⟩)) (cs : List Value) (d : TypeDesc) (hc : w.rangeAt b o cs) (hu : P.underlying ty = some d) (hd : d.isRow = true) (hi : (P.info? ty).map (·.size) = some cs.length)
    (h : wpStill P ops w Q rest (a.put op.dst (.agg cs.toArray))) : wpStill P ops w Q (op :: rest) a := by
  refine wpStill_step (fun K hK => ?_)
  rw [if_pos hw]
  have hr : (execOp a.eval op).run P w = .ok (.value (.agg cs.toArray)) w := by
    unfold execOp
    simp only [ho, hx, Instr.loadAt, Instr.sureAddr, Sem.run_bind, Sem.run_pure, Result.andThen_ok, run_loadVar_mid w b o ty cs d hc hu hd hi]
  unfold Oper.still
  rw [hr]
  exact ⟨rfl, hK _ h⟩
/-- A variable that a round makes, and fills with a write. -/
theorem falls_var {w wr : World} {D s cs t ct : Nat} {lv fv : Value} {x : St} {f g : Nat → UInt8} (h : Falls w wr D s cs t ct lv fv x f g) (z : Array Value) (y : Wr) :
    Falls w ((wr.alloc (.cells z 58)).setRow wr.heap.size (wrA y)) D s cs t ct lv fv x f g ∧ WrAt ((wr.alloc (.cells z 58)).setRow wr.heap.size (wrA y)) wr.heap.size y :=
  ⟨h.then_below (below_setRow' ((Below.refl _ _).alloc (Nat.le_refl _) _) (Nat.le_refl _) _), setRow_heap _ _ _ _ _ _ (heap_alloc_new wr _)⟩
/-- The disk, when the power is gone. -/
theorem falls_end {K : Nat → Prop} {w wr wz : World} {D s cs t ct : Nat} {lv lv' fv fv' : Value} {x : St} {f g : Nat → UInt8} (h : Lies K w D s cs t ct lv' fv' x) (hf : Falls w wr D s cs t ct lv fv x f g)
    (hz : wz.heap[D]? = some (.cells #[.slice (some ⟨s, 0, none⟩) x.n cs, .slice (some ⟨t, 0, none⟩) x.n ct, .slice none 0 0, .pointer none, .bool true, .int .i64 (x.done : Int)] 56 (0, 0))) (ho : ∀ i, i ≠ D → wz.heap[i]? = wr.heap[i]?)
    (he : wz.os = wr.os ∧ wz.tape = wr.tape ∧ wz.output = wr.output) (hs : wr.heap.size ≤ wz.heap.size) :
    DiskSays K w D (.tuple #[]) { x with safe := f, now := g, loose := [], fuse := none, away := true } (.returned (.tuple #[])) wz :=
  ⟨rfl, ⟨s, cs, t, ct, .slice none 0 0, .pointer none, hz, hf.sr.of_block (ho s hf.ds.symm), hf.tr.of_block (ho t hf.dt.symm), hf.ne, h.cs, h.ct, World.ownsRow_nil _ _ _ _, rfl, fun y hy => (by cases hy), h.nb, h.kD, h.ks, h.kt, fun g hg => (by cases hg)⟩,
    ⟨he.1.trans hf.os, he.2.1.trans hf.tape, he.2.2.trans hf.output, Nat.le_trans hf.size hs, fun i hi hk => (ho i (fun e => hk (by rw [e]; exact h.kD))).trans (hf.block i hi (fun e => hk (by rw [e]; exact h.ks)) (fun e => hk (by rw [e]; exact h.kt)))⟩⟩
/-- The last three stores. -/
theorem falls_stores {K : Nat → Prop} {w wr : World} {D s cs t ct : Nat} {lv lv' fv fv' : Value} {x : St} {f g : Nat → UInt8} (h : Lies K w D s cs t ct lv' fv' x) (hf : Falls w wr D s cs t ct lv fv x f g) :
    DiskSays K w D (.tuple #[]) { x with safe := f, now := g, loose := [], fuse := none, away := true } (.returned (.tuple #[])) (((wr.setCell ⟨D, 2, none⟩ (.slice none 0 0)).setCell ⟨D, 3, none⟩ (.pointer none)).setCell ⟨D, 4, none⟩ (.bool true)) := by
  refine falls_end h hf ?_ ?_ ⟨rfl, rfl, rfl⟩ (by simp [World.setCell])
  · have h1 := heap_setCell_same wr D 2 _ _ (.slice none 0 0) hf.hd
    have h2 := heap_setCell_same _ D 3 _ _ (.pointer none) h1
    exact heap_setCell_same _ D 4 _ _ (.bool true) h2
  · intro i hi
    rw [heap_setCell_other _ ⟨D, 4, none⟩ i _ hi, heap_setCell_other _ ⟨D, 3, none⟩ i _ hi, heap_setCell_other _ ⟨D, 2, none⟩ i _ hi]
theorem fall_eq (x : St) (kl : List Bool) (L : List Wr) (m : Nat) (hL : L = x.loose) (hm : m = L.length) :
    x.fall kl = { x with safe := fs x.safe L (kp kl) m, now := fn (fs x.safe L (kp kl) m) x.now L m, loose := [], fuse := none, away := true } := by subst hm hL; rfl
set_option maxRecDepth 100000 in
set_option maxHeartbeats 3200000 in
theorem disk_fall (K : Nat → Prop) (w : World) (D s cs t ct : Nat) (lv fv : Value) (x : St) (h : Lies K w D s cs t ct lv fv x) (hl : x.loose.length ≤ 1073741824) (kv : Value) (kl : List Bool) (hkl : kl.length ≤ 1099511627776) (hk : BoolsAt w kv kl)
    (hkk : ∀ w' : World, (∀ i, i < w.heap.size → i ≠ s → i ≠ t → w'.heap[i]? = w.heap[i]?) → BoolsAt w' kv kl) :
    Calls Try.prog 38 #[.pointer (some ⟨D, 0, none⟩), kv] w (DiskSays K w D (.tuple #[]) (x.fall kl)) := by
  have H := Lib.hid h
  have HK := Lib.hid hkk
  have hD := h.lt
  have hcell := h.cell
  have c2 : w.cell? ⟨D, 2, none⟩ = some lv := hcell 2
  clear hcell
  clear h hkk
  obtain ⟨ka, kc, rfl⟩ : ∃ ka kc, kv = .slice ka kl.length kc := by
    rcases hk with ⟨rfl, a, c, rfl⟩ | ⟨b, o, c, rfl, _⟩
    · exact ⟨a, c, rfl⟩
    · exact ⟨_, _, rfl⟩
  clear hk
  have hkT : ∀ w' : World, (∀ i, i < w.heap.size → i ≠ s → i ≠ t → w'.heap[i]? = w.heap[i]?) → ∀ k, k < kl.length → ∃ b o, ka = some ⟨b, o, none⟩ ∧ kl.length ≤ kc ∧ w'.cell? ⟨b, o + k, none⟩ = some (.bool (kp kl k)) := fun w' h' k hkl => by
    rcases HK.out w' h' with ⟨rfl, _⟩ | ⟨b, o, c, he, hc, hx⟩
    · cases hkl
    · injection he with h1 h2 h3
      refine ⟨b, o, h1, by rw [h3]; exact hc, hx k _ ?_⟩
      unfold kp
      rw [List.getD_eq_getElem?_getD, List.getElem?_eq_getElem hkl]
      rfl
  have HKT := Lib.hid hkT
  clear hkT HK
  rcases loose_form H.out.lo with ⟨rfl, hn⟩ | ⟨g, c, rfl⟩
  · have hL0 : x.loose = [] := List.length_eq_zero_iff.1 hn
    have HE := Lib.hid (fall_eq x kl [] 0 hL0.symm rfl)
    have HF := Lib.hid (Falls.start H.out)
    clear HKT
    go_enter Try.func38, Try.ntmps38
    go_wp2_with (fail)
    go_loopw [13] (fun i wr => i = .int .i64 0 ∧ w = wr) (fun _ _ => 0)
    case atStart => exact ⟨rfl, rfl⟩
    case round =>
      obtain ⟨rfl, rfl⟩ := hrel
      go_wp2_with (fail)
      go_loopw [43] (fun i wr => i = .int .i64 0 ∧ w = wr) (fun _ _ => 0)
      case atStart => exact ⟨rfl, rfl⟩
      case round =>
        obtain ⟨rfl, rfl⟩ := hrel
        have HFS := Lib.hid (falls_stores H.out HF.out)
        have f2 : w.frozen? ⟨D, 2, none⟩ = false := H.out.fz 2
        have f3 : w.frozen? ⟨D, 3, none⟩ = false := H.out.fz 3
        have f4 : w.frozen? ⟨D, 4, none⟩ = false := H.out.fz 4
        have d3 : w.cell? ⟨D, 3, none⟩ = some fv := H.out.cell 3
        have d4 : w.cell? ⟨D, 4, none⟩ = some (.bool x.away) := H.out.cell 4
        go_wp2_with (fail)
        go_end0
        rw [HE.out]
        exact HFS.out
  obtain ⟨L, hL⟩ : ∃ L, L = x.loose := ⟨_, rfl⟩
  have HOW := Lib.hid (show w.ownsRow 0 58 33 (.slice (some ⟨g, 0, none⟩) L.length c) L.length (lcells L) by rw [hL]; exact H.out.lo)
  have hgl : g < w.heap.size := (H.out.lo.lt g rfl).2
  have hgs : g ≠ s := H.out.neLs g rfl
  have hgt : g ≠ t := H.out.neLt g rfl
  have HLN := Lib.hid (show ∀ y ∈ L, y.1 < x.n by rw [hL]; exact H.out.pl)
  have HF := Lib.hid (Falls.start H.out)
  rw [← hL] at c2 hl HF
  have HL := Lib.hid hL
  clear hL
  obtain ⟨m, hm⟩ : ∃ m, m = L.length := ⟨_, rfl⟩
  rw [← hm] at c2 hl HF
  have HM := Lib.hid hm
  clear hm
  go_enter Try.func38, Try.ntmps38
  go_wp2_with (fail)
  go_loopw [13] (fun i wr => ∃ k : Nat, i = .int .i64 (k : Int) ∧ k ≤ m ∧ Falls w wr D s cs t ct (.slice (some ⟨g, 0, none⟩) m c) fv x (fs x.safe L (kp kl) k) x.now) (fun i _ => match i with | .int _ k => m - k.toNat | _ => 0)
  case atStart => exact ⟨0, rfl, Nat.zero_le _, HF.out⟩
  case round =>
    clear HF c2
    obtain ⟨k, rfl, hkm, hf⟩ := hrel
    have HF := Lib.hid hf
    clear hf
    by_cases hlt : k < m
    · have hRG : wr.rangeAt g (k * 33) (wcells (L.getD k noWr)) := own_range (own_keep HOW.out (fun i hi => by cases hi; exact HF.out.block g hgl hgs hgt)) k (by rw [← HM.out]; exact hlt)
      have HRG := Lib.hid hRG
      have hpl : (L.getD k noWr).1 < x.n := HLN.out _ (by rw [List.getD_eq_getElem?_getD, List.getElem?_eq_getElem (by rw [← HM.out]; exact hlt)]; exact List.getElem_mem _)
      have HNX := Lib.hid (show fs x.safe L (kp kl) (k + 1) = if kp kl k then putS (fs x.safe L (kp kl) k) (L.getD k noWr).1 (L.getD k noWr).2 else fs x.safe L (kp kl) k from rfl)
      clear hRG
      generalize L.getD k noWr = y at HRG hpl HNX
      have x0 : (k : Int) < (m : Int) := by omega
      have x1 : decide ((k : Int) < (m : Int)) = true := decide_eq_true x0
      have x2 : (0 : Int) ≤ (k : Int) := by omega
      have HWI := Lib.hid (show (Try.prog.info? 58).map (·.size) = some (wcells y).length by rw [wcells_length]; exact sizeW)
      have HWA := Lib.hid (show (Try.prog.info? 58).map (·.size) = some (wrA y).size by rw [wrA_size]; exact sizeW)
      have HWO := Lib.hid (wrA_one y)
      have HFV := Lib.hid (fun z => falls_var HF.out z y)
      have hD2 : D < wr.heap.size := (Array.getElem?_eq_some_iff.1 HF.out.hd).1
      have hs2 : s < wr.heap.size := HF.out.sr.lt
      by_cases hkk : k < kl.length
      · obtain ⟨b, o, rfl, hkc, _⟩ := HKT.out wr (fun i hi h1 h2 => HF.out.block i hi h1 h2) k hkk
        have HK2 := Lib.hid (show ∀ w' : World, (∀ i, i < w.heap.size → i ≠ s → i ≠ t → w'.heap[i]? = w.heap[i]?) → w'.cell? ⟨b, o + k, none⟩ = some (.bool (kp kl k)) from fun w' h' => by
          obtain ⟨b', o', he, _, hx⟩ := HKT.out w' h' k hkk
          injection he with he
          injection he with h1 h2
          subst h1 h2
          exact hx)
        have y0 : (k : Int) < (kl.length : Int) := by omega
        have y1 : decide ((k : Int) < (kl.length : Int)) = true := decide_eq_true y0
        cases hkp : kp kl k with
        | true =>
          rw [hkp] at HK2 HNX
          rw [if_pos rfl] at HNX
          have HSI := Lib.hid (show (Try.prog.info? 52).map (·.size) = some (secL y.2).length by rw [secL_length]; exact sizeS)
          have HSA := Lib.hid (show (Try.prog.info? 52).map (·.size) = some (secL y.2).toArray.size by rw [List.size_toArray, secL_length]; exact sizeS)
          have HSO := Lib.hid (show (secL y.2).toArray.all (·.oneCell') = true by rw [secA_list]; exact secA_one y.2)
          go_wp2_with (first
            | (with_reducible refine wpList_load_mid rfl 58 _ rfl g (k * 33) rfl (wcells y) _ HRG.out Try.underlying58 rfl HWI.out ?_)
            | (refine wpList_store_row rfl 58 (.tmp 5) (.tmp 17) rfl wr.heap.size (wrA y) rfl rfl 58 _ (heap_alloc_new _ _) HWA.out (by rw [wrA_size]; rfl) HWO.out ?_
               refine gen_list (fun W => Falls w W D s cs t ct (.slice (some ⟨g, 0, none⟩) m c) fv x (fs x.safe L (kp kl) k) x.now ∧ WrAt W wr.heap.size y) (HFV.out _) ?_
               rintro w5 ⟨h5, v5⟩
               have k5 := HK2.out w5 (fun i hi h1 h2 => h5.block i hi h1 h2)
               have d5 : w5.cell? ⟨D, 0, none⟩ = some (.slice (some ⟨s, 0, none⟩) x.n cs) := h5.cell 0
               have p5 := v5.place
               have H5 := Lib.hid h5
               have V5 := Lib.hid v5
               clear h5 v5))
          have q0 : 0 ≤ (y.1 : Int) := by omega
          have q1 : (y.1 : Int) < (x.n : Int) := by omega
          have H5d := Lib.hid H5.out.drew
          have V5d := Lib.hid (show WrAt w5.drew wr.heap.size y from V5.out)
          go_still_tail 9, (by kernel_rfl)
          refine wpStill_load_midK (by rfl) 52 (.tmp 34) rfl wr.heap.size 1 rfl (secL y.2) _ V5d.out.bytes Try.underlying52 rfl HSI.out ?_
          repeat still_step
          refine wpStill_nil ?_
          change wpList _ _ _ _ _ w5.drew
          clear k5 d5 p5 H5 V5
          generalize w5.drew = w6 at H5d V5d ⊢
          have d6 : w6.cell? ⟨D, 0, none⟩ = some (.slice (some ⟨s, 0, none⟩) x.n cs) := H5d.out.cell 0
          have p6 := V5d.out.place
          have HTH := Lib.hid (show w6.there s (y.1 * 32) (secL y.2).toArray.size by rw [List.size_toArray, secL_length]; exact H5d.out.sr.there hpl)
          have HPF := Lib.hid (H5d.out.putF hpl y.2)
          refine wpList_store_mid rfl 52 (.tmp 36) (.tmp 35) rfl s (y.1 * 32) (secL y.2).toArray rfl rfl HTH.out HSA.out HSO.out ?_
          refine gen_list (fun W => Falls w W D s cs t ct (.slice (some ⟨g, 0, none⟩) m c) fv x (putS (fs x.safe L (kp kl) k) y.1 y.2) x.now) HPF.out ?_
          rintro w7 h7
          have H7 := Lib.hid h7
          clear h7 HPF HTH H5d V5d d6 p6
          go_wp2_with (fail)
          exact ⟨⟨k + 1, rfl, by omega, by rw [HNX.out]; exact H7.out⟩, by show m - ((k : Int) + 1).toNat < m - (k : Int).toNat; omega⟩
        | false =>
          rw [hkp] at HK2 HNX
          rw [if_neg Bool.false_ne_true] at HNX
          go_wp2_with (first
            | (with_reducible refine wpList_load_mid rfl 58 _ rfl g (k * 33) rfl (wcells y) _ HRG.out Try.underlying58 rfl HWI.out ?_)
            | (refine wpList_store_row rfl 58 (.tmp 5) (.tmp 17) rfl wr.heap.size (wrA y) rfl rfl 58 _ (heap_alloc_new _ _) HWA.out (by rw [wrA_size]; rfl) HWO.out ?_
               refine gen_list (fun W => Falls w W D s cs t ct (.slice (some ⟨g, 0, none⟩) m c) fv x (fs x.safe L (kp kl) k) x.now) (HFV.out _).1 ?_
               rintro w5 h5
               have k5 := HK2.out w5 (fun i hi h1 h2 => h5.block i hi h1 h2)
               have H5 := Lib.hid h5
               clear h5))
          exact ⟨⟨k + 1, rfl, by omega, by rw [HNX.out]; exact H5.out⟩, by show m - ((k : Int) + 1).toNat < m - (k : Int).toNat; omega⟩
      · have y0 : ¬ (k : Int) < (kl.length : Int) := by omega
        have y1 : decide ((k : Int) < (kl.length : Int)) = false := decide_eq_false y0
        have hkp : kp kl k = false := by unfold kp; rw [List.getD_eq_getElem?_getD, List.getElem?_eq_none (by omega)]; rfl
        rw [hkp, if_neg Bool.false_ne_true] at HNX
        clear hkp
        go_wp2_with (first
          | (with_reducible refine wpList_load_mid rfl 58 _ rfl g (k * 33) rfl (wcells y) _ HRG.out Try.underlying58 rfl HWI.out ?_)
          | (refine wpList_store_row rfl 58 (.tmp 5) (.tmp 17) rfl wr.heap.size (wrA y) rfl rfl 58 _ (heap_alloc_new _ _) HWA.out (by rw [wrA_size]; rfl) HWO.out ?_))
        exact ⟨⟨k + 1, rfl, by omega, by rw [HNX.out]; exact (HFV.out _).1⟩, by show m - ((k : Int) + 1).toNat < m - (k : Int).toNat; omega⟩
    · have hke : k = m := by omega
      subst hke
      have x0 : ¬ (k : Int) < (k : Int) := by omega
      have x1 : decide ((k : Int) < (k : Int)) = false := decide_eq_false x0
      have d2 : wr.cell? ⟨D, 2, none⟩ = some (.slice (some ⟨g, 0, none⟩) k c) := HF.out.cell 2
      clear hlt x0
      have HE := Lib.hid (fall_eq x kl L k HL.out HM.out)
      have HF0 := Lib.hid HF.out
      clear HKT HF
      go_wp2_with (fail)
      clear d2
      obtain ⟨F, hF⟩ : ∃ F, F = fs x.safe L (kp kl) k := ⟨_, rfl⟩
      rw [← hF] at HE HF0
      clear hF
      go_loopw [43] (fun i wy => ∃ q : Nat, i = .int .i64 (q : Int) ∧ q ≤ k ∧ Falls w wy D s cs t ct (.slice (some ⟨g, 0, none⟩) k c) fv x F (fn F x.now L q)) (fun i _ => match i with | .int _ q => k - q.toNat | _ => 0)
      case atStart => exact ⟨0, rfl, Nat.zero_le _, HF0.out⟩
      case round =>
        clear HF0 x1
        obtain ⟨q, rfl, hqk, hf⟩ := hrel
        have HF := Lib.hid hf
        clear hf
        by_cases hlt : q < k
        · have hRG : wr.rangeAt g (q * 33) (wcells (L.getD q noWr)) := own_range (own_keep HOW.out (fun i hi => by cases hi; exact HF.out.block g hgl hgs hgt)) q (by rw [← HM.out]; exact hlt)
          have HRG := Lib.hid hRG
          have hpl : (L.getD q noWr).1 < x.n := HLN.out _ (by rw [List.getD_eq_getElem?_getD, List.getElem?_eq_getElem (by rw [← HM.out]; exact hlt)]; exact List.getElem_mem _)
          have HNX := Lib.hid (show fn F x.now L (q + 1) = putS (fn F x.now L q) (L.getD q noWr).1 (sect F (L.getD q noWr).1) from rfl)
          clear hRG
          generalize L.getD q noWr = y at HRG hpl HNX
          have x0 : (q : Int) < (k : Int) := by omega
          have x1 : decide ((q : Int) < (k : Int)) = true := decide_eq_true x0
          have x2 : (0 : Int) ≤ (q : Int) := by omega
          have HWI := Lib.hid (show (Try.prog.info? 58).map (·.size) = some (wcells y).length by rw [wcells_length]; exact sizeW)
          have HWA := Lib.hid (show (Try.prog.info? 58).map (·.size) = some (wrA y).size by rw [wrA_size]; exact sizeW)
          have HWO := Lib.hid (wrA_one y)
          have HFV := Lib.hid (fun z => falls_var HF.out z y)
          have hD2 : D < wr.heap.size := (Array.getElem?_eq_some_iff.1 HF.out.hd).1
          have HSI := Lib.hid (show (Try.prog.info? 52).map (·.size) = some (secL (sect F y.1)).length by rw [secL_length]; exact sizeS)
          have HSA := Lib.hid (show (Try.prog.info? 52).map (·.size) = some (secL (sect F y.1)).toArray.size by rw [List.size_toArray, secL_length]; exact sizeS)
          have HSO := Lib.hid (show (secL (sect F y.1)).toArray.all (·.oneCell') = true by rw [secA_list]; exact secA_one _)
          go_wp2_with (first
            | (with_reducible refine wpList_load_mid rfl 58 _ rfl g (q * 33) rfl (wcells y) _ HRG.out Try.underlying58 rfl HWI.out ?_)
            | (refine wpList_store_row rfl 58 (.tmp 7) (.tmp 46) rfl wr.heap.size (wrA y) rfl rfl 58 _ (heap_alloc_new _ _) HWA.out (by rw [wrA_size]; rfl) HWO.out ?_
               refine gen_list (fun W => Falls w W D s cs t ct (.slice (some ⟨g, 0, none⟩) k c) fv x F (fn F x.now L q) ∧ WrAt W wr.heap.size y) (HFV.out _) ?_
               rintro w5 ⟨h5, v5⟩
               have d5 : w5.cell? ⟨D, 0, none⟩ = some (.slice (some ⟨s, 0, none⟩) x.n cs) := h5.cell 0
               have e5 : w5.cell? ⟨D, 1, none⟩ = some (.slice (some ⟨t, 0, none⟩) x.n ct) := h5.cell 1
               have p5 := v5.place
               have H5 := Lib.hid h5
               have V5 := Lib.hid v5
               clear h5 v5))
          have q0 : 0 ≤ (y.1 : Int) := by omega
          have q1 : (y.1 : Int) < (x.n : Int) := by omega
          have H5d := Lib.hid H5.out.drew
          go_still_tail 15, (by kernel_rfl)
          refine wpStill_load_midK (by rfl) 52 (.tmp 59) rfl s (y.1 * 32) rfl (secL (sect F y.1)) _ (H5d.out.sr.range hpl) Try.underlying52 rfl HSI.out ?_
          repeat still_step
          refine wpStill_nil ?_
          change wpList _ _ _ _ _ w5.drew
          clear d5 e5 p5 H5 V5
          generalize w5.drew = w6 at H5d ⊢
          have HTH := Lib.hid (show w6.there t (y.1 * 32) (secL (sect F y.1)).toArray.size by rw [List.size_toArray, secL_length]; exact H5d.out.tr.there hpl)
          have HPF := Lib.hid (H5d.out.putG hpl (sect F y.1))
          refine wpList_store_mid rfl 52 (.tmp 61) (.tmp 60) rfl t (y.1 * 32) (secL (sect F y.1)).toArray rfl rfl HTH.out HSA.out HSO.out ?_
          refine gen_list (fun W => Falls w W D s cs t ct (.slice (some ⟨g, 0, none⟩) k c) fv x F (putS (fn F x.now L q) y.1 (sect F y.1))) HPF.out ?_
          rintro w7 h7
          have H7 := Lib.hid h7
          clear h7 HPF HTH H5d
          go_wp2_with (fail)
          exact ⟨⟨q + 1, rfl, by omega, by rw [HNX.out]; exact H7.out⟩, by show k - ((q : Int) + 1).toNat < k - (q : Int).toNat; omega⟩
        · have hke : q = k := by omega
          subst hke
          have x0 : ¬ (q : Int) < (q : Int) := by omega
          have x1 : decide ((q : Int) < (q : Int)) = false := decide_eq_false x0
          have HFS := Lib.hid (falls_stores H.out HF.out)
          have f2 : wr.frozen? ⟨D, 2, none⟩ = false := frozen_of_row wr D 2 _ _ HF.out.hd
          have f3 : wr.frozen? ⟨D, 3, none⟩ = false := frozen_of_row wr D 3 _ _ HF.out.hd
          have f4 : wr.frozen? ⟨D, 4, none⟩ = false := frozen_of_row wr D 4 _ _ HF.out.hd
          have d2 : wr.cell? ⟨D, 2, none⟩ = some (.slice (some ⟨g, 0, none⟩) q c) := HF.out.cell 2
          have d3 : wr.cell? ⟨D, 3, none⟩ = some fv := HF.out.cell 3
          have d4 : wr.cell? ⟨D, 4, none⟩ = some (.bool x.away) := HF.out.cell 4
          clear hlt x0
          go_wp2_with (fail)
          go_end0
          rw [HE.out]
          exact HFS.out
end Go.Proofs.Ytmnponjngdnolaa
