/-
  A disk's sectors, as they are safe and as they were written last, and the writes that aren't safe: in plain words, and where they lie. No program's function here. No conditions.
-/
import Derived.Test.YtgenpfhcbopokaaShaRow
import Derived.Deep.MidRow
import Derived.Laws.AppendOwn
import Derived.Laws.OwnMore
import Derived.OwnWalk
namespace Go.Proofs.Ytgenpfhcbopokaa
open Go Go.RowKit
namespace Dk

/-- A sector's cells. -/
def secA (g : Nat → UInt8) : Array Value := vals 32 fun j => .int .u8 ((g j).toNat : Int)
def secL (g : Nat → UInt8) : List Value := (secA g).toList
theorem secA_size (g : Nat → UInt8) : (secA g).size = 32 := vals_size 32 _
theorem secL_length (g : Nat → UInt8) : (secL g).length = 32 := by unfold secL; rw [Array.length_toList]; exact secA_size g
theorem secL_get (g : Nat → UInt8) (j : Nat) (h : j < 32) : (secL g)[j]? = some (.int .u8 ((g j).toNat : Int)) := by
  unfold secL
  rw [Array.getElem?_toList]
  exact vals_get 32 _ j h
theorem secA_one (g : Nat → UInt8) : (secA g).all (·.oneCell') = true := vals_one fun _ => rfl
theorem secA_list (g : Nat → UInt8) : (secL g).toArray = secA g := by unfold secL; rw [Array.toArray_toList]
theorem secA_congr {f g : Nat → UInt8} (h : ∀ j, j < 32 → f j = g j) : secA f = secA g := vals_congr fun j hj => by rw [h j hj]

/-- The bytes of a sector; all bytes, where a sector is written anew. -/
def sect (f : Nat → UInt8) (p j : Nat) : UInt8 := f (p * 32 + j)
def putS (f : Nat → UInt8) (p : Nat) (g : Nat → UInt8) (k : Nat) : UInt8 := if p * 32 ≤ k ∧ k < p * 32 + 32 then g (k - p * 32) else f k
theorem sect_put_same (f : Nat → UInt8) (p : Nat) (g : Nat → UInt8) (j : Nat) (h : j < 32) : sect (putS f p g) p j = g j := by
  unfold sect putS
  rw [if_pos ⟨by omega, by omega⟩]
  congr 1
  omega
theorem sect_put_other (f : Nat → UInt8) (p q : Nat) (g : Nat → UInt8) (j : Nat) (h : j < 32) (hne : p ≠ q) : sect (putS f p g) q j = sect f q j := by
  unfold sect putS
  rw [if_neg (by omega)]

/-- A write: which sector, and its bytes. -/
abbrev Wr := Nat × (Nat → UInt8)
def noWr : Wr := (0, fun _ => 0)
def wcells (x : Wr) : List Value := .int .i64 (x.1 : Int) :: secL x.2
theorem wcells_length (x : Wr) : (wcells x).length = 33 := by unfold wcells; rw [List.length_cons, secL_length]
def lcells (L : List Wr) : List Value := L.flatMap wcells
theorem lcells_nil : lcells [] = [] := rfl
theorem lcells_append (L M : List Wr) : lcells (L ++ M) = lcells L ++ lcells M := by unfold lcells; rw [List.flatMap_append]
theorem lcells_one (x : Wr) : lcells [x] = wcells x := by unfold lcells; simp
theorem lcells_length (L : List Wr) : (lcells L).length = L.length * 33 := by
  induction L with
  | nil => rfl
  | cons x L ih =>
    have : lcells (x :: L) = wcells x ++ lcells L := rfl
    rw [this, List.length_append, ih, wcells_length, List.length_cons]
    omega
theorem lcells_at (L : List Wr) : ∀ (k : Nat), k < L.length → ∀ j, j < 33 → (lcells L)[k * 33 + j]? = (wcells (L.getD k noWr))[j]? := by
  induction L with
  | nil => intro k h; cases h
  | cons x L ih =>
    intro k h j hj
    have e : lcells (x :: L) = wcells x ++ lcells L := rfl
    rw [e]
    cases k with
    | zero =>
      rw [List.getElem?_append_left (by rw [wcells_length]; omega), Nat.zero_mul, Nat.zero_add]
      rfl
    | succ k =>
      rw [List.getElem?_append_right (by rw [wcells_length]; omega), wcells_length, show (k + 1) * 33 + j - 33 = k * 33 + j by omega, ih k (by simpa using h) j hj]
      rfl
theorem wcells_one (x : Wr) : ∀ u ∈ wcells x, u.oneCell' = true := by
  intro u hu
  rcases List.mem_cons.1 hu with rfl | h
  · rfl
  · exact Array.all_eq_true_iff_forall_mem.1 (secA_one x.2) u (by simpa [secL] using h)

/-- What is safe behind the first k loose writes, of which some are kept. -/
def fs (safe : Nat → UInt8) (L : List Wr) (kp : Nat → Bool) : Nat → Nat → UInt8
  | 0 => safe
  | k + 1 => if kp k then putS (fs safe L kp k) (L.getD k noWr).1 (L.getD k noWr).2 else fs safe L kp k
/-- What is found: each sector that was written is as it is safe. -/
def fn (safe now : Nat → UInt8) (L : List Wr) : Nat → Nat → UInt8
  | 0 => now
  | k + 1 => putS (fn safe now L k) (L.getD k noWr).1 (sect safe (L.getD k noWr).1)
def kp (kl : List Bool) (k : Nat) : Bool := kl.getD k false

/-- A disk. -/
structure St where
  n : Nat
  safe : Nat → UInt8
  now : Nat → UInt8
  loose : List Wr
  fuse : Option (Nat × List Bool)
  away : Bool
  done : Nat
/-- The power goes. -/
def St.fall (x : St) (kl : List Bool) : St :=
  { x with safe := fs x.safe x.loose (kp kl) x.loose.length, now := fn (fs x.safe x.loose (kp kl) x.loose.length) x.now x.loose x.loose.length, loose := [], fuse := none, away := true }
def St.burnt (x : St) : St := { x with fuse := x.fuse.map (fun f => (f.1 - 1, f.2)), done := x.done + 1 }
def St.synced (x : St) : St := { x with safe := fs x.safe x.loose (fun _ => true) x.loose.length, loose := [] }
def St.come (x : St) : St := { x with away := false }
/-- A sector no loose write is of is as it is safe. -/
def St.Sane (x : St) : Prop := ∀ p j, p < x.n → j < 32 → (∀ y ∈ x.loose, y.1 ≠ p) → sect x.now p j = sect x.safe p j
end Dk
open Dk

theorem setCells_size (b : Nat) : ∀ (vs : List Value) (o : Nat) (w : World), (w.setCells b o vs).heap.size = w.heap.size
  | [], _, _ => rfl
  | v :: r, o, w => by rw [World.setCells, setCells_size b r]; simp [World.setCell]
theorem setCells_os (b : Nat) : ∀ (vs : List Value) (o : Nat) (w : World), (w.setCells b o vs).os = w.os ∧ (w.setCells b o vs).tape = w.tape ∧ (w.setCells b o vs).output = w.output
  | [], _, _ => ⟨rfl, rfl, rfl⟩
  | v :: r, o, w => by rw [World.setCells]; exact setCells_os b r (o + 1) _
theorem setCells_other (b k : Nat) (hk : k ≠ b) : ∀ (vs : List Value) (o : Nat) (w : World), (w.setCells b o vs).heap[k]? = w.heap[k]?
  | [], _, _ => rfl
  | v :: r, o, w => by rw [World.setCells, setCells_other b k hk r]; exact heap_setCell_other w ⟨b, o, none⟩ k v hk
theorem setCells_same (b : Nat) (t : TypeId) : ∀ (vs : List Value) (o : Nat) (w : World) (cur : Array Value), w.heap[b]? = some (.cells cur t (0, 0)) → ∃ cur', (w.setCells b o vs).heap[b]? = some (.cells cur' t (0, 0))
  | [], _, _, cur, h => ⟨cur, h⟩
  | v :: r, o, w, cur, h => by rw [World.setCells]; exact setCells_same b t r (o + 1) _ _ (heap_setCell_same w b o cur t v h)

/-- Nothing that was there has turned but what lies in blocks of K. -/
structure Kept (K : Nat → Prop) (w w' : World) : Prop where
  os : w'.os = w.os
  tape : w'.tape = w.tape
  output : w'.output = w.output
  size : w.heap.size ≤ w'.heap.size
  block : ∀ i, i < w.heap.size → ¬ K i → w'.heap[i]? = w.heap[i]?
namespace Kept
variable {K : Nat → Prop} {w w1 w2 : World}
theorem refl (K : Nat → Prop) (w : World) : Kept K w w := ⟨rfl, rfl, rfl, Nat.le_refl _, fun _ _ _ => rfl⟩
theorem trans (h : Kept K w w1) (k : Kept K w1 w2) : Kept K w w2 :=
  ⟨k.os.trans h.os, k.tape.trans h.tape, k.output.trans h.output, Nat.le_trans h.size k.size, fun i hi hb => (k.block i (Nat.lt_of_lt_of_le hi h.size) hb).trans (h.block i hi hb)⟩
theorem drewN (h : Kept K w w1) (n : Nat) : Kept K w (w1.drewN n) := ⟨h.os, h.tape, h.output, h.size, h.block⟩
theorem drew (h : Kept K w w1) : Kept K w w1.drew := ⟨h.os, h.tape, h.output, h.size, h.block⟩
theorem of_below (h : Below w.heap.size w w1) : Kept K w w1 := ⟨h.os, h.tape, h.output, h.size, fun i hi _ => h.block i hi⟩
theorem then_below (h : Kept K w w1) (k : Below w1.heap.size w1 w2) : Kept K w w2 := h.trans (of_below k)
theorem setCell (h : Kept K w w1) {a : Addr} (ha : K a.block ∨ w.heap.size ≤ a.block) (v : Value) : Kept K w (w1.setCell a v) :=
  ⟨h.os, h.tape, h.output, by simpa [World.setCell] using h.size, fun i hi hb => (heap_setCell_other w1 a i v (fun e => by subst e; rcases ha with ha | ha; exact hb ha; omega)).trans (h.block i hi hb)⟩
theorem setCells (h : Kept K w w1) {b : Nat} (hb : K b ∨ w.heap.size ≤ b) (o : Nat) (vs : List Value) : Kept K w (w1.setCells b o vs) := by
  obtain ⟨h1, h2, h3⟩ := setCells_os b vs o w1
  exact ⟨h1.trans h.os, h2.trans h.tape, h3.trans h.output, by rw [setCells_size]; exact h.size, fun i hi hk => (setCells_other b i (fun e => by subst e; rcases hb with hb | hb; exact hk hb; omega) vs o w1).trans (h.block i hi hk)⟩
theorem grown (h : Kept K w w1) {row : Option Nat} (hg : w1.grownBy w2 row) (hr : ∀ g, row = some g → K g ∨ w.heap.size ≤ g) : Kept K w w2 :=
  ⟨hg.os.trans h.os, hg.tape.trans h.tape, hg.output.trans h.output, Nat.le_trans h.size hg.size, fun i hi hk =>
    (hg.block i (Nat.lt_of_lt_of_le hi h.size) (fun e => by rcases hr i e.symm with h' | h'; exact hk h'; omega)).trans (h.block i hi hk)⟩
theorem below (h : Kept K w w1) {B : Nat} (hB : B ≤ w.heap.size) (hK : ∀ i, i < B → ¬ K i) : Below B w w1 := ⟨h.os, h.tape, h.output, h.size, fun i hi => h.block i (by omega) (hK i hi)⟩
theorem mono (h : Kept K w w1) {K' : Nat → Prop} (hk : ∀ i, K i → K' i) : Kept K' w w1 := ⟨h.os, h.tape, h.output, h.size, fun i hi hn => h.block i hi fun e => hn (hk i e)⟩
end Kept

namespace Row
variable {w w' : World} {b n : Nat} {f : Nat → UInt8}
end Row

/-- Bools of one's own. -/
def OwnBools (K : Nat → Prop) (w : World) (kv : Value) (kl : List Bool) : Prop :=
  (kl = [] ∧ kv = .slice none 0 0) ∨ ∃ (kb c : Nat) (cur : Array Value), kv = .slice (some ⟨kb, 0, none⟩) kl.length c ∧ kl.length ≤ c ∧ w.heap[kb]? = some (.cells cur 4 (0, 0)) ∧ (∀ (j : Nat) (x : Bool), kl[j]? = some x → cur[j]? = some (Value.bool x)) ∧ K kb
theorem OwnBools.keepT {K : Nat → Prop} {w w' : World} {kv : Value} {kl : List Bool} (h : OwnBools K w kv kl) (he : ∀ (i : Nat) (cur : Array Value), w.heap[i]? = some (Obj.cells cur 4 (0, 0)) → w'.heap[i]? = w.heap[i]?) : OwnBools K w' kv kl := by
  rcases h with h | ⟨kb, c, cur, rfl, hc, hb, hx, hk⟩
  · exact .inl h
  · exact .inr ⟨kb, c, cur, rfl, hc, (he kb _ hb).trans hb, hx, hk⟩
theorem own_keep {w w' : World} {base : Nat} {e : TypeId} {size n : Nat} {v : Value} {xs : List Value} (h : w.ownsRow base e size v n xs) (he : ∀ g, v.ownBlock = some g → w'.heap[g]? = w.heap[g]?) : w'.ownsRow base e size v n xs := by
  refine ⟨h.1, ?_⟩
  rcases h.2 with hn | ⟨g, cap, cur, rfl, hb, hg, r⟩
  · exact .inl hn
  · exact .inr ⟨g, cap, cur, rfl, hb, (he g rfl).trans hg, r⟩
theorem own_type {w : World} {base : Nat} {e : TypeId} {size n : Nat} {v : Value} {xs : List Value} (h : w.ownsRow base e size v n xs) : ∀ g, v.ownBlock = some g → ∃ cur, w.heap[g]? = some (.cells cur e (0, 0)) := by
  intro g hg
  rcases h.2 with ⟨rfl, _⟩ | ⟨g', cap, cur, rfl, _, hh, _⟩
  · cases hg
  · injection hg with hg
    subst hg
    exact ⟨cur, hh⟩
theorem ne_type {w : World} {a b : Nat} {c d : Array Value} {t u : TypeId} {x y : Nat × Nat} (ha : w.heap[a]? = some (.cells c t x)) (hb : w.heap[b]? = some (.cells d u y)) (h : t ≠ u) : a ≠ b := by
  rintro rfl
  rw [ha] at hb
  injection hb with hb
  injection hb with _ hb _
  exact h hb
namespace Lies
variable {K : Nat → Prop} {w w' : World} {D s cs t ct : Nat} {lv fv : Value} {x : St}
end Lies
namespace DiskAt
variable {K : Nat → Prop} {w w' : World} {D : Nat} {x : St}
end DiskAt
end Go.Proofs.Ytgenpfhcbopokaa
