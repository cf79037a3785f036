/-
  What every proof of this seat leans on: a law that answers true and turns nothing below the old heap's end meets its row. No conditions.
  Rows of cells told by a function: the block's own text, whole loads and stores. No program here. No conditions.
-/
import Derived.Test.YtlapinecmiacoaaRows
import Derived.WalkKit
import Derived.ProofKit
import Derived.OpenShut
import Derived.Lib.Hide
import Derived.Deep.QuietTactic
import Derived.BigQuiet
import Derived.Deep.OwnRows
import Derived.Laws.Tables
import Derived.Laws.Rows
set_option maxRecDepth 100000
namespace Go.Proofs.Ytlapinecmiacoaa
open Go.ChangeShapes Go.WideShapes Go.ChangeAt Go.RowKit

theorem ownIs : ownKnob Try.prog.godebug = none := by kernel_rfl
theorem laidIs : laidOutB Try.prog = true := by kernel_rfl

theorem as_val {P : Program} {f : FuncId} {args : Array Value} {w : World} {v v' : Value} {R : World → Prop} (h : Calls P f args w fun e w' => e = .returned v ∧ R w') (e : v = v') :
    Calls P f args w fun e w' => e = .returned v' ∧ R w' := by rw [← e]; exact h
theorem below_drewN {B : Nat} {a w : World} (h : Below B a w) (n : Nat) : Below B a (w.drewN n) := ⟨h.os, h.tape, h.output, h.size, h.block⟩

/-- A call that leaves the world as it is, behind draws. -/
theorem quiet_here {P : Program} {f : FuncId} {args : Array Value} {w : World} {n : Nat} {v : Value} (h : Calls P f args (w.drewN n) fun e w' => e = .returned v ∧ w.drewN n = w') :
    Calls P f args (w.drewN n) fun e w'' => e = .returned v ∧ ∃ m, w'' = w.drewN m :=
  h.mono fun _ _ ⟨he, hw⟩ => ⟨he, n, hw.symm⟩
theorem quiet_more {P : Program} {f : FuncId} {args : Array Value} {w : World} {n : Nat} {v : Value} (h : Calls P f args (w.drewN n) fun e w' => e = .returned v ∧ ∃ k, w' = (w.drewN n).drewN k) :
    Calls P f args (w.drewN n) fun e w'' => e = .returned v ∧ ∃ m, w'' = w.drewN m :=
  h.mono fun _ _ ⟨he, k, hw⟩ => ⟨he, n + k, by rw [hw, World.drewN_drewN]⟩
theorem quiet_here2 {P : Program} {f : FuncId} {args : Array Value} {w : World} {a n : Nat} {v : Value} (h : Calls P f args (w.drewN (a + n)) fun e w' => e = .returned v ∧ w.drewN (a + n) = w') :
    Calls P f args (w.drewN (a + n)) fun e w'' => e = .returned v ∧ ∃ m, w'' = w.drewN (a + m) :=
  h.mono fun _ _ ⟨he, hw⟩ => ⟨he, n, hw.symm⟩
theorem quiet_more2 {P : Program} {f : FuncId} {args : Array Value} {w : World} {a n : Nat} {v : Value} (h : Calls P f args (w.drewN (a + n)) fun e w' => e = .returned v ∧ ∃ k, w' = (w.drewN (a + n)).drewN k) :
    Calls P f args (w.drewN (a + n)) fun e w'' => e = .returned v ∧ ∃ m, w'' = w.drewN (a + m) :=
  h.mono fun _ _ ⟨he, k, hw⟩ => ⟨he, n + k, by rw [hw, World.drewN_drewN, Nat.add_assoc]⟩

/-- Each type can be read, and stands in the table. -/
def typesRead (P : Program) (ts : List TypeId) : Bool := ts.all fun t => P.readableRec t && decide (t < P.types.size)

section
variable {H : Type} {enc : TypeId × Value → H} {W W' : World} {P : Program}

theorem all_below (hl : laidOutB P = true) (hb : Below W.heap.size W W') (ts : List TypeId) : ∀ (vs : List Value) (ds : List (DataW H)) (ps : List MemPlace), typesRead P ts = true →
    DataW.TrodAll enc P W 0 (fun _ => true) true ts vs ds ps → (∀ x ∈ ps, x.block < W.heap.size) →
    DataW.TrodAll enc P W' 0 (fun b => decide (b < W.heap.size)) true ts vs ds ps := by
  induction ts with
  | nil =>
    intro vs ds ps _ h _
    obtain ⟨rfl, rfl, rfl⟩ := trodAll_nil h
    exact trodAll_mk0
  | cons t ts ih =>
    intro vs ds ps hr h hp
    obtain ⟨v, vs', d, ds', p, q, rfl, rfl, rfl, h1, h2⟩ := trodAll_cons h
    simp only [typesRead, List.all_cons, Bool.and_eq_true] at hr
    have hr1 := hr.1
    exact trodAll_cons_mk (Below.trod hl hr1.1 (of_decide_eq_true hr1.2) h1 hb fun x hx => hp x (by simp [hx]))
      (ih vs' ds' q (by simpa [typesRead] using hr.2) h2 fun x hx => hp x (by simp [hx]))

/-- A law's row, out of its two limbs. -/
theorem law_post {f : Func} {s : ChangeSpec} {args : Array Value} {ds gs : List (DataW H)} {before : List MemPlace} {t : TypeId} (hl : laidOutB P = true) (hb : Below W.heap.size W W')
    (hW : DataW.Whole enc P f.params.toList s.vars false W args.toList ds gs before) (hr : typesRead P f.params.toList = true) (hv : s.vars = [])
    (ht : f.resultTypes = #[t]) (hu : P.underlying t = some .bool)
    (hfn : (s.fn H (ds ++ [])).results = [.lit (.bool true)]) (hfa : (s.fn H (ds ++ [])).args = ds) (hfv : (s.fn H (ds ++ [])).vars = []) :
    s.post enc P f false true false false W args (.bool true) W' := by
  have hW' := hW
  obtain ⟨p, q, hA, hV, rfl, _, _⟩ := hW
  rw [hv] at hV
  obtain ⟨rfl, rfl⟩ := trodVars_none hV
  refine ⟨ds, [], p ++ [], [], p, [], hW', ?_, ?_, ?_, hb.frame _, fun h => by cases h⟩
  · rw [hfn, ht]
    exact trodAll_mk1 (shut_bool hu _)
  · rw [hfa]
    exact all_below hl hb _ _ _ _ hr hA fun x hx => hW'.lt x (by simp [hx])
  · rw [hfv, hv]
    rfl
end
end Go.Proofs.Ytlapinecmiacoaa
namespace Go.Proofs.Ytlapinecmiacoaa
open Go Go.RowKit

/-- n values, told by their places. -/
def vals (n : Nat) (f : Nat → Value) : Array Value := ((List.range n).map f).toArray
theorem vals_size (n : Nat) (f : Nat → Value) : (vals n f).size = n := by simp [vals]
theorem vals_get (n : Nat) (f : Nat → Value) (i : Nat) (h : i < n) : (vals n f)[i]? = some (f i) := by simp [vals, h]
theorem vals_congr {n : Nat} {f g : Nat → Value} (h : ∀ i, i < n → f i = g i) : vals n f = vals n g := by
  unfold vals
  congr 1
  exact List.map_congr_left fun i hi => h i (List.mem_range.1 hi)
theorem vals_one {n : Nat} {f : Nat → Value} (h : ∀ i, (f i).oneCell' = true) : (vals n f).all (·.oneCell') = true := by
  rw [Array.all_eq_true_iff_forall_mem]
  intro x hx
  simp only [vals, List.mem_toArray, List.mem_map] at hx
  obtain ⟨i, _, rfl⟩ := hx
  exact h i
theorem row_block {w : World} {b : Nat} {t : TypeId} {n : Nat} {f : Nat → Value} (h : w.rowIs b t n f) : w.heap[b]? = some (.cells (vals n f) t (0, 0)) := by
  obtain ⟨c, hb, hn, hc⟩ := h
  rw [hb]
  have : c = vals n f := by
    apply Array.ext (by rw [hn, vals_size])
    intro i h1 h2
    have h3 := hc i (by omega)
    have h4 := vals_get n f i (by omega)
    rw [Array.getElem?_eq_getElem h1] at h3
    rw [Array.getElem?_eq_getElem h2] at h4
    exact Option.some.inj (h3.trans h4.symm)
  rw [this]
theorem row_of_block {w : World} {b : Nat} {t : TypeId} {n : Nat} {f : Nat → Value} (h : w.heap[b]? = some (.cells (vals n f) t (0, 0))) : w.rowIs b t n f :=
  ⟨_, h, vals_size n f, fun i hi => vals_get n f i hi⟩
theorem info_vals {P : Program} {t : TypeId} {n : Nat} (f : Nat → Value) (h : (P.info? t).map (·.size) = some n) : (P.info? t).map (·.size) = some (vals n f).size := by rw [vals_size]; exact h
theorem row_alloc {w : World} {t : TypeId} {n : Nat} {f : Nat → Value} {c : Array Value} (b : Nat) (hb : b = w.heap.size) (h : c = vals n f) : (w.alloc (.cells c t)).rowIs b t n f := by
  subst hb h
  exact row_of_block (heap_alloc_new w _)
theorem row_setRow {w : World} {b : Nat} {t : TypeId} {n : Nat} {f g : Nat → Value} (h : w.rowIs b t n f) : (w.setRow b (vals n g)).rowIs b t n g :=
  row_of_block (setRow_heap w b _ _ t _ (row_block h))
theorem row_setRow_other {w : World} {b k : Nat} {t : TypeId} {n : Nat} {f : Nat → Value} {c : Array Value} (h : w.rowIs b t n f) (hk : b ≠ k) : (w.setRow k c).rowIs b t n f :=
  h.of_block (setRow_other w k b c hk)
theorem below_setRow' {B : Nat} {w0 w : World} (h : Below B w0 w) {g : Nat} (hg : B ≤ g) (c : Array Value) : Below B w0 (w.setRow g c) :=
  ⟨h.os, h.tape, h.output, by simpa using h.size, fun k hk => (setRow_other w g k c (by omega)).trans (h.block k hk)⟩

/-- Nothing that was there has turned but what block b holds. -/
structure Only (w w' : World) (b : Nat) : Prop where
  os : w'.os = w.os
  tape : w'.tape = w.tape
  output : w'.output = w.output
  size : w.heap.size ≤ w'.heap.size
  block : ∀ i, i < w.heap.size → i ≠ b → w'.heap[i]? = w.heap[i]?

namespace Only
variable {w w1 w2 : World} {b : Nat}
theorem refl (w : World) (b : Nat) : Only w w b := ⟨rfl, rfl, rfl, Nat.le_refl _, fun _ _ _ => rfl⟩
theorem trans (h : Only w w1 b) (k : Only w1 w2 b) : Only w w2 b :=
  ⟨k.os.trans h.os, k.tape.trans h.tape, k.output.trans h.output, Nat.le_trans h.size k.size, fun i hi hb => (k.block i (Nat.lt_of_lt_of_le hi h.size) hb).trans (h.block i hi hb)⟩
theorem drewN (h : Only w w1 b) (n : Nat) : Only w (w1.drewN n) b := ⟨h.os, h.tape, h.output, h.size, h.block⟩
theorem drew (h : Only w w1 b) : Only w w1.drew b := ⟨h.os, h.tape, h.output, h.size, h.block⟩
theorem of_below (h : Below w.heap.size w w1) (b : Nat) : Only w w1 b := ⟨h.os, h.tape, h.output, h.size, fun i hi _ => h.block i hi⟩
theorem then_below (h : Only w w1 b) (k : Below w1.heap.size w1 w2) : Only w w2 b := h.trans (of_below k b)
theorem alloc (h : Only w w1 b) (o : Obj) : Only w (w1.alloc o) b := h.then_below ((Below.refl _ _).alloc (Nat.le_refl _) o)
theorem setCell (h : Only w w1 b) {a : Addr} (ha : a.block = b ∨ w.heap.size ≤ a.block) (v : Value) : Only w (w1.setCell a v) b :=
  ⟨h.os, h.tape, h.output, by simpa [World.setCell] using h.size, fun i hi hb => (heap_setCell_other w1 a i v (by omega)).trans (h.block i hi hb)⟩
theorem setRow (h : Only w w1 b) {g : Nat} (hg : g = b ∨ w.heap.size ≤ g) (c : Array Value) : Only w (w1.setRow g c) b :=
  ⟨h.os, h.tape, h.output, by simpa using h.size, fun i hi hb => (setRow_other w1 g i c (by omega)).trans (h.block i hi hb)⟩
theorem cell (h : Only w w1 b) {a : Addr} (hlt : a.block < w.heap.size) (hne : a.block ≠ b) : w1.cell? a = w.cell? a := World.cell?_of_block (w := w) (h.block _ hlt hne)
theorem row (h : Only w w1 b) {g : Nat} {t : TypeId} {n : Nat} {f : Nat → Value} (hr : w.rowIs g t n f) (hne : g ≠ b) : w1.rowIs g t n f := hr.of_block (h.block g hr.lt hne)
/-- Nothing below B has turned, where b is not below B. -/
theorem below (h : Only w w1 b) {B : Nat} (hb : B ≤ b) (hB : B ≤ w.heap.size) : Below B w w1 :=
  ⟨h.os, h.tape, h.output, h.size, fun i hi => h.block i (by omega) (by omega)⟩
end Only
theorem gen_world {P : Program} {c : Code} {Q : Exit → Act → World → Prop} {a : Act} {w : World} (R : World → Prop) (h0 : R w) (h : ∀ wr, R wr → Code.wp P c Q a wr) : Code.wp P c Q a w := h w h0
theorem gen_list {P : Program} {ops : Array Oper} {l : List Oper} {Q : Exit → Act → World → Prop} {a : Act} {w : World} (R : World → Prop) (h0 : R w) (h : ∀ wr, R wr → wpList P ops Q l a wr) : wpList P ops Q l a w := h w h0
theorem wpList_build_to {P : Program} {ops : Array Oper} {rest : List Oper} {o : Oper} {a : Act} {w : World} {Q : Exit → Act → World → Prop} (hg : o.guard = none) (t : TypeId) (parts : Array (Nat × Operand)) (ho : o.op = .build t parts)
    (vs : List (Nat × Value)) (hv : parts.toList.map (fun p => (p.1, a.eval p.2)) = vs) (cells : Array Value) (hb : P.built t vs = some cells) (h : wpList P ops Q rest (a.put o.dst (.agg cells)) w) : wpList P ops Q (o :: rest) a w := by
  have e : P.built t (parts.map fun (i, x) => (i, a.eval x)).toList = some cells := by rw [Array.toList_map]; rw [← hb, ← hv]
  exact wpList_build hg t parts ho (by rw [e]; rfl) (by rw [e]; exact h)
theorem below_trans' {B : Nat} {w w1 w2 : World} (h : Below B w w1) (k : Below B w1 w2) : Below B w w2 := h.trans k
end Go.Proofs.Ytlapinecmiacoaa
