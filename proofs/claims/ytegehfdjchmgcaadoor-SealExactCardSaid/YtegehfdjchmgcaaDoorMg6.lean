/-
  A disk's sectors, as they are safe and as they were written last, and the writes that aren't safe: in plain words, and where they lie. No program's function here. No conditions.
  A slice literal without elements. No program here. No conditions.
  Package disk: a new one of zeros, and one over a row of sectors. Conditions: from none to 4096 sectors.
  Package disk: what the calls that turn nothing answer. Conditions: the disk stands in blocks of its own.
  Package disk: the power goes: what is kept of the writes that aren't safe. Conditions: the disk stands in blocks of its own; the bools that say what is kept lie in none of them, or in a row of bools.
  Package disk: a fuse burns, or the power goes. Conditions: the disk stands in blocks of its own; fewer than 2^62 writes were done.
-/
import Derived.Test.YtegehfdjchmgcaaDoorMg1
import Derived.Deep.MidRow
import Derived.Laws.AppendOwn
import Derived.Laws.OwnMore
import Derived.OwnWalk
import Derived.Great.BuildSlice
import Derived.Lib.Hide
import Derived.IntWalk
import Derived.WalkKit
import Derived.Lib.LazyBuf
import Derived.Laws.BytesString
import Derived.StillTailTactics
set_option maxRecDepth 100000
namespace Go.Proofs.YtegehfdjchmgcaaDoor
open Go Go.RowKit
namespace Dk

/-- A sector's cells. -/
def secA (g : Nat → UInt8) : Array Value := vals 32 fun j => .int .u8 ((g j).toNat : Int)
def secL (g : Nat → UInt8) : List Value := (secA g).toList
theorem secA_size (g : Nat → UInt8) : (secA g).size = 32 := vals_size 32 _
theorem secL_length (g : Nat → UInt8) : (secL g).length = 32 := by unfold secL; rw [Array.length_toList]; exact secA_size g
theorem secL_get (g : Nat → UInt8) (j : Nat) (h : j < 32) : (secL g)[j]? = some (.int .u8 ((g j).toNat : Int)) := by
  unfold secL
  rw [Array.getElem?_toList]
  exact vals_get 32 _ j h
theorem secA_one (g : Nat → UInt8) : (secA g).all (·.oneCell') = true := vals_one fun _ => rfl
theorem secA_list (g : Nat → UInt8) : (secL g).toArray = secA g := by unfold secL; rw [Array.toArray_toList]
theorem secA_congr {f g : Nat → UInt8} (h : ∀ j, j < 32 → f j = g j) : secA f = secA g := vals_congr fun j hj => by rw [h j hj]

/-- The bytes of a sector; all bytes, where a sector is written anew. -/
def sect (f : Nat → UInt8) (p j : Nat) : UInt8 := f (p * 32 + j)
def putS (f : Nat → UInt8) (p : Nat) (g : Nat → UInt8) (k : Nat) : UInt8 := if p * 32 ≤ k ∧ k < p * 32 + 32 then g (k - p * 32) else f k
theorem sect_put_same (f : Nat → UInt8) (p : Nat) (g : Nat → UInt8) (j : Nat) (h : j < 32) : sect (putS f p g) p j = g j := by
  unfold sect putS
  rw [if_pos ⟨by omega, by omega⟩]
  congr 1
  omega
theorem sect_put_other (f : Nat → UInt8) (p q : Nat) (g : Nat → UInt8) (j : Nat) (h : j < 32) (hne : p ≠ q) : sect (putS f p g) q j = sect f q j := by
  unfold sect putS
  rw [if_neg (by omega)]

/-- A write: which sector, and its bytes. -/
abbrev Wr := Nat × (Nat → UInt8)
def noWr : Wr := (0, fun _ => 0)
def wcells (x : Wr) : List Value := .int .i64 (x.1 : Int) :: secL x.2
theorem wcells_length (x : Wr) : (wcells x).length = 33 := by unfold wcells; rw [List.length_cons, secL_length]
def lcells (L : List Wr) : List Value := L.flatMap wcells
theorem lcells_nil : lcells [] = [] := rfl
theorem lcells_append (L M : List Wr) : lcells (L ++ M) = lcells L ++ lcells M := by unfold lcells; rw [List.flatMap_append]
theorem lcells_one (x : Wr) : lcells [x] = wcells x := by unfold lcells; simp
theorem lcells_length (L : List Wr) : (lcells L).length = L.length * 33 := by
  induction L with
  | nil => rfl
  | cons x L ih =>
    have : lcells (x :: L) = wcells x ++ lcells L := rfl
    rw [this, List.length_append, ih, wcells_length, List.length_cons]
    omega
theorem lcells_at (L : List Wr) : ∀ (k : Nat), k < L.length → ∀ j, j < 33 → (lcells L)[k * 33 + j]? = (wcells (L.getD k noWr))[j]? := by
  induction L with
  | nil => intro k h; cases h
  | cons x L ih =>
    intro k h j hj
    have e : lcells (x :: L) = wcells x ++ lcells L := rfl
    rw [e]
    cases k with
    | zero =>
      rw [List.getElem?_append_left (by rw [wcells_length]; omega), Nat.zero_mul, Nat.zero_add]
      rfl
    | succ k =>
      rw [List.getElem?_append_right (by rw [wcells_length]; omega), wcells_length, show (k + 1) * 33 + j - 33 = k * 33 + j by omega, ih k (by simpa using h) j hj]
      rfl
theorem wcells_one (x : Wr) : ∀ u ∈ wcells x, u.oneCell' = true := by
  intro u hu
  rcases List.mem_cons.1 hu with rfl | h
  · rfl
  · exact Array.all_eq_true_iff_forall_mem.1 (secA_one x.2) u (by simpa [secL] using h)

/-- What is safe behind the first k loose writes, of which some are kept. -/
def fs (safe : Nat → UInt8) (L : List Wr) (kp : Nat → Bool) : Nat → Nat → UInt8
  | 0 => safe
  | k + 1 => if kp k then putS (fs safe L kp k) (L.getD k noWr).1 (L.getD k noWr).2 else fs safe L kp k
/-- What is found: each sector that was written is as it is safe. -/
def fn (safe now : Nat → UInt8) (L : List Wr) : Nat → Nat → UInt8
  | 0 => now
  | k + 1 => putS (fn safe now L k) (L.getD k noWr).1 (sect safe (L.getD k noWr).1)
def kp (kl : List Bool) (k : Nat) : Bool := kl.getD k false

/-- A disk. -/
structure St where
  n : Nat
  safe : Nat → UInt8
  now : Nat → UInt8
  loose : List Wr
  fuse : Option (Nat × List Bool)
  away : Bool
  done : Nat
/-- The power goes. -/
def St.fall (x : St) (kl : List Bool) : St :=
  { x with safe := fs x.safe x.loose (kp kl) x.loose.length, now := fn (fs x.safe x.loose (kp kl) x.loose.length) x.now x.loose x.loose.length, loose := [], fuse := none, away := true }
def St.burnt (x : St) : St := { x with fuse := x.fuse.map (fun f => (f.1 - 1, f.2)), done := x.done + 1 }
def St.put (x : St) (p : Nat) (g : Nat → UInt8) : St := { x with now := putS x.now p g, loose := x.loose ++ [(p, g)] }
def St.synced (x : St) : St := { x with safe := fs x.safe x.loose (fun _ => true) x.loose.length, loose := [] }
def St.come (x : St) : St := { x with away := false }
/-- A sector no loose write is of is as it is safe. -/
def St.Sane (x : St) : Prop := ∀ p j, p < x.n → j < 32 → (∀ y ∈ x.loose, y.1 ≠ p) → sect x.now p j = sect x.safe p j
end Dk
open Dk

theorem setCells_size (b : Nat) : ∀ (vs : List Value) (o : Nat) (w : World), (w.setCells b o vs).heap.size = w.heap.size
  | [], _, _ => rfl
  | v :: r, o, w => by rw [World.setCells, setCells_size b r]; simp [World.setCell]
theorem setCells_os (b : Nat) : ∀ (vs : List Value) (o : Nat) (w : World), (w.setCells b o vs).os = w.os ∧ (w.setCells b o vs).tape = w.tape ∧ (w.setCells b o vs).output = w.output
  | [], _, _ => ⟨rfl, rfl, rfl⟩
  | v :: r, o, w => by rw [World.setCells]; exact setCells_os b r (o + 1) _
theorem setCells_other (b k : Nat) (hk : k ≠ b) : ∀ (vs : List Value) (o : Nat) (w : World), (w.setCells b o vs).heap[k]? = w.heap[k]?
  | [], _, _ => rfl
  | v :: r, o, w => by rw [World.setCells, setCells_other b k hk r]; exact heap_setCell_other w ⟨b, o, none⟩ k v hk
theorem setCells_same (b : Nat) (t : TypeId) : ∀ (vs : List Value) (o : Nat) (w : World) (cur : Array Value), w.heap[b]? = some (.cells cur t (0, 0)) → ∃ cur', (w.setCells b o vs).heap[b]? = some (.cells cur' t (0, 0))
  | [], _, _, cur, h => ⟨cur, h⟩
  | v :: r, o, w, cur, h => by rw [World.setCells]; exact setCells_same b t r (o + 1) _ _ (heap_setCell_same w b o cur t v h)

/-- Nothing that was there has turned but what lies in blocks of K. -/
structure Kept (K : Nat → Prop) (w w' : World) : Prop where
  os : w'.os = w.os
  tape : w'.tape = w.tape
  output : w'.output = w.output
  size : w.heap.size ≤ w'.heap.size
  block : ∀ i, i < w.heap.size → ¬ K i → w'.heap[i]? = w.heap[i]?
namespace Kept
variable {K : Nat → Prop} {w w1 w2 : World}
theorem refl (K : Nat → Prop) (w : World) : Kept K w w := ⟨rfl, rfl, rfl, Nat.le_refl _, fun _ _ _ => rfl⟩
theorem trans (h : Kept K w w1) (k : Kept K w1 w2) : Kept K w w2 :=
  ⟨k.os.trans h.os, k.tape.trans h.tape, k.output.trans h.output, Nat.le_trans h.size k.size, fun i hi hb => (k.block i (Nat.lt_of_lt_of_le hi h.size) hb).trans (h.block i hi hb)⟩
theorem drewN (h : Kept K w w1) (n : Nat) : Kept K w (w1.drewN n) := ⟨h.os, h.tape, h.output, h.size, h.block⟩
theorem drew (h : Kept K w w1) : Kept K w w1.drew := ⟨h.os, h.tape, h.output, h.size, h.block⟩
theorem of_below (h : Below w.heap.size w w1) : Kept K w w1 := ⟨h.os, h.tape, h.output, h.size, fun i hi _ => h.block i hi⟩
theorem then_below (h : Kept K w w1) (k : Below w1.heap.size w1 w2) : Kept K w w2 := h.trans (of_below k)
theorem alloc (h : Kept K w w1) (o : Obj) : Kept K w (w1.alloc o) := h.then_below ((Below.refl _ _).alloc (Nat.le_refl _) o)
theorem setCell (h : Kept K w w1) {a : Addr} (ha : K a.block ∨ w.heap.size ≤ a.block) (v : Value) : Kept K w (w1.setCell a v) :=
  ⟨h.os, h.tape, h.output, by simpa [World.setCell] using h.size, fun i hi hb => (heap_setCell_other w1 a i v (fun e => by subst e; rcases ha with ha | ha; exact hb ha; omega)).trans (h.block i hi hb)⟩
theorem setCells (h : Kept K w w1) {b : Nat} (hb : K b ∨ w.heap.size ≤ b) (o : Nat) (vs : List Value) : Kept K w (w1.setCells b o vs) := by
  obtain ⟨h1, h2, h3⟩ := setCells_os b vs o w1
  exact ⟨h1.trans h.os, h2.trans h.tape, h3.trans h.output, by rw [setCells_size]; exact h.size, fun i hi hk => (setCells_other b i (fun e => by subst e; rcases hb with hb | hb; exact hk hb; omega) vs o w1).trans (h.block i hi hk)⟩
theorem grown (h : Kept K w w1) {row : Option Nat} (hg : w1.grownBy w2 row) (hr : ∀ g, row = some g → K g ∨ w.heap.size ≤ g) : Kept K w w2 :=
  ⟨hg.os.trans h.os, hg.tape.trans h.tape, hg.output.trans h.output, Nat.le_trans h.size hg.size, fun i hi hk =>
    (hg.block i (Nat.lt_of_lt_of_le hi h.size) (fun e => by rcases hr i e.symm with h' | h'; exact hk h'; omega)).trans (h.block i hi hk)⟩
theorem below (h : Kept K w w1) {B : Nat} (hB : B ≤ w.heap.size) (hK : ∀ i, i < B → ¬ K i) : Below B w w1 := ⟨h.os, h.tape, h.output, h.size, fun i hi => h.block i (by omega) (hK i hi)⟩
theorem mono (h : Kept K w w1) {K' : Nat → Prop} (hk : ∀ i, K i → K' i) : Kept K' w w1 := ⟨h.os, h.tape, h.output, h.size, fun i hi hn => h.block i hi fun e => hn (hk i e)⟩
end Kept

/-- Bytes of n sectors lie in block b. -/
def Row (w : World) (b n : Nat) (f : Nat → UInt8) : Prop := ∃ cur, w.heap[b]? = some (.cells cur 63 (0, 0)) ∧ ∀ k, k < n * 32 → cur[k]? = some (.int .u8 ((f k).toNat : Int))
namespace Row
variable {w w' : World} {b n : Nat} {f : Nat → UInt8}
theorem lt (h : Row w b n f) : b < w.heap.size := by obtain ⟨_, h, _⟩ := h; exact (Array.getElem?_eq_some_iff.1 h).1
theorem of_block (h : Row w b n f) (e : w'.heap[b]? = w.heap[b]?) : Row w' b n f := by obtain ⟨c, h, k⟩ := h; exact ⟨c, e.trans h, k⟩
theorem cell (h : Row w b n f) (k : Nat) (hk : k < n * 32) : w.cell? ⟨b, k, none⟩ = some (.int .u8 ((f k).toNat : Int)) := by
  obtain ⟨c, h, g⟩ := h
  rw [cell_of_row w b k _ _ _ h]
  exact g k hk
theorem fz (h : Row w b n f) (k : Nat) : w.frozen? ⟨b, k, none⟩ = false := by obtain ⟨c, h, _⟩ := h; exact frozen_of_row w b k _ _ h
theorem range (h : Row w b n f) {p : Nat} (hp : p < n) : w.rangeAt b (p * 32) (secL (sect f p)) := fun j v hj => by
  have hl := (List.getElem?_eq_some_iff.1 hj).1
  rw [secL_length] at hl
  rw [secL_get _ _ hl] at hj
  rw [h.cell _ (by omega), ← hj]
  rfl
theorem there (h : Row w b n f) {p : Nat} (hp : p < n) : w.there b (p * 32) 32 := fun j hj => ⟨by rw [h.cell _ (by omega)]; rfl, h.fz _⟩
theorem put (h : Row w b n f) {p : Nat} (hp : p < n) (g : Nat → UInt8) : Row (w.setCells b (p * 32) (secL g)) b n (putS f p g) := by
  have ht := h.there hp
  have hc := h.cell
  obtain ⟨c, h1, _⟩ := h
  obtain ⟨c', h2⟩ := setCells_same b _ (secL g) (p * 32) w c h1
  refine ⟨c', h2, fun k hk => ?_⟩
  rw [← cell_of_row _ b k _ _ _ h2]
  unfold putS
  by_cases hin : p * 32 ≤ k ∧ k < p * 32 + 32
  · rw [if_pos hin]
    obtain ⟨j, rfl⟩ := Nat.exists_eq_add_of_le hin.1
    rw [World.cell?_setCells_in b (secL g) (p * 32) w (fun i hi => (ht i (by rw [secL_length] at hi; exact hi)).1) j (by rw [secL_length]; omega), ← List.getElem?_eq_getElem, secL_get _ _ (by omega), Nat.add_sub_cancel_left]
  · rw [if_neg hin, World.cell?_setCells_out b _ _ _ _ (fun _ _ => by rw [secL_length]; show k < p * 32 ∨ p * 32 + 32 ≤ k; omega)]
    exact hc k hk
theorem other (h : Row w b n f) {g : Nat} (hne : b ≠ g) (o : Nat) (vs : List Value) : Row (w.setCells g o vs) b n f := h.of_block (setCells_other g b hne vs o w)
theorem congr (h : Row w b n f) {g : Nat → UInt8} (e : ∀ k, k < n * 32 → f k = g k) : Row w b n g := by
  obtain ⟨c, h, k⟩ := h
  exact ⟨c, h, fun i hi => by rw [← e i hi]; exact k i hi⟩
end Row

/-- Bools that lie behind a slice. -/
def BoolsAt (w : World) (kv : Value) (kl : List Bool) : Prop :=
  (kl = [] ∧ ∃ a c, kv = .slice a 0 c) ∨ ∃ b o c, kv = .slice (some ⟨b, o, none⟩) kl.length c ∧ kl.length ≤ c ∧ ∀ j x, kl[j]? = some x → w.cell? ⟨b, o + j, none⟩ = some (.bool x)
/-- Bools of one's own. -/
def OwnBools (K : Nat → Prop) (w : World) (kv : Value) (kl : List Bool) : Prop :=
  (kl = [] ∧ kv = .slice none 0 0) ∨ ∃ (kb c : Nat) (cur : Array Value), kv = .slice (some ⟨kb, 0, none⟩) kl.length c ∧ kl.length ≤ c ∧ w.heap[kb]? = some (.cells cur 4 (0, 0)) ∧ (∀ (j : Nat) (x : Bool), kl[j]? = some x → cur[j]? = some (Value.bool x)) ∧ K kb
theorem OwnBools.at_ {K : Nat → Prop} {w : World} {kv : Value} {kl : List Bool} (h : OwnBools K w kv kl) : BoolsAt w kv kl := by
  rcases h with ⟨rfl, rfl⟩ | ⟨kb, c, cur, rfl, hc, hb, hx, _⟩
  · exact .inl ⟨rfl, _, _, rfl⟩
  · exact .inr ⟨kb, 0, c, rfl, hc, fun j x hj => by rw [Nat.zero_add, cell_of_row w kb j _ _ _ hb]; exact hx j x hj⟩
theorem OwnBools.keep {K : Nat → Prop} {w w' : World} {kv : Value} {kl : List Bool} (h : OwnBools K w kv kl) (he : ∀ i, K i → i < w.heap.size → w'.heap[i]? = w.heap[i]?) : OwnBools K w' kv kl := by
  rcases h with h | ⟨kb, c, cur, rfl, hc, hb, hx, hk⟩
  · exact .inl h
  · exact .inr ⟨kb, c, cur, rfl, hc, (he kb hk (Array.getElem?_eq_some_iff.1 hb).1).trans hb, hx, hk⟩
theorem OwnBools.keepT {K : Nat → Prop} {w w' : World} {kv : Value} {kl : List Bool} (h : OwnBools K w kv kl) (he : ∀ (i : Nat) (cur : Array Value), w.heap[i]? = some (Obj.cells cur 4 (0, 0)) → w'.heap[i]? = w.heap[i]?) : OwnBools K w' kv kl := by
  rcases h with h | ⟨kb, c, cur, rfl, hc, hb, hx, hk⟩
  · exact .inl h
  · exact .inr ⟨kb, c, cur, rfl, hc, (he kb _ hb).trans hb, hx, hk⟩
theorem OwnBools.mono {K K' : Nat → Prop} {w : World} {kv : Value} {kl : List Bool} (h : OwnBools K w kv kl) (hk : ∀ i, K i → K' i) : OwnBools K' w kv kl := by
  rcases h with h | ⟨kb, c, cur, h1, h2, h3, h4, h5⟩
  · exact .inl h
  · exact .inr ⟨kb, c, cur, h1, h2, h3, h4, hk _ h5⟩
/-- A fuse and its own bools. -/
def FuseAt (K : Nat → Prop) (w : World) (fv : Value) : Option (Nat × List Bool) → Prop
  | none => fv = .pointer none
  | some (left, kl) => ∃ (f : Nat) (kv : Value), fv = .pointer (some ⟨f, 0, none⟩) ∧ w.heap[f]? = some (.cells #[.int .i64 (left : Int), kv] 104 (0, 0)) ∧ OwnBools K w kv kl ∧ left < 9223372036854775808 ∧ K f
/-- A disk stands in block D; all its blocks are of K. -/
structure Lies (K : Nat → Prop) (w : World) (D s cs t ct : Nat) (lv fv : Value) (x : St) : Prop where
  hd : w.heap[D]? = some (.cells #[.slice (some ⟨s, 0, none⟩) x.n cs, .slice (some ⟨t, 0, none⟩) x.n ct, lv, fv, .bool x.away, .int .i64 (x.done : Int)] 69 (0, 0))
  sr : Row w s x.n x.safe
  tr : Row w t x.n x.now
  ne : s ≠ t
  cs : x.n ≤ cs
  ct : x.n ≤ ct
  lo : w.ownsRow 0 83 33 lv x.loose.length (lcells x.loose)
  fu : FuseAt K w fv x.fuse
  pl : ∀ y ∈ x.loose, y.1 < x.n
  nb : x.n ≤ 4096
  kD : K D
  ks : K s
  kt : K t
  kl : ∀ g, lv.ownBlock = some g → K g
def DiskAt (K : Nat → Prop) (w : World) (D : Nat) (x : St) : Prop := ∃ s cs t ct lv fv, Lies K w D s cs t ct lv fv x
theorem own_keep {w w' : World} {base : Nat} {e : TypeId} {size n : Nat} {v : Value} {xs : List Value} (h : w.ownsRow base e size v n xs) (he : ∀ g, v.ownBlock = some g → w'.heap[g]? = w.heap[g]?) : w'.ownsRow base e size v n xs := by
  refine ⟨h.1, ?_⟩
  rcases h.2 with hn | ⟨g, cap, cur, rfl, hb, hg, r⟩
  · exact .inl hn
  · exact .inr ⟨g, cap, cur, rfl, hb, (he g rfl).trans hg, r⟩
theorem own_type {w : World} {base : Nat} {e : TypeId} {size n : Nat} {v : Value} {xs : List Value} (h : w.ownsRow base e size v n xs) : ∀ g, v.ownBlock = some g → ∃ cur, w.heap[g]? = some (.cells cur e (0, 0)) := by
  intro g hg
  rcases h.2 with ⟨rfl, _⟩ | ⟨g', cap, cur, rfl, _, hh, _⟩
  · cases hg
  · injection hg with hg
    subst hg
    exact ⟨cur, hh⟩
theorem ne_type {w : World} {a b : Nat} {c d : Array Value} {t u : TypeId} {x y : Nat × Nat} (ha : w.heap[a]? = some (.cells c t x)) (hb : w.heap[b]? = some (.cells d u y)) (h : t ≠ u) : a ≠ b := by
  rintro rfl
  rw [ha] at hb
  injection hb with hb
  injection hb with _ hb _
  exact h hb
theorem FuseAt.keep {K : Nat → Prop} {w w' : World} {fv : Value} : ∀ {fu : Option (Nat × List Bool)}, FuseAt K w fv fu → (∀ i, K i → i < w.heap.size → w'.heap[i]? = w.heap[i]?) → FuseAt K w' fv fu
  | none, h, _ => h
  | some (_, _), ⟨f, kv, h1, h2, h3, h4, h5⟩, he => ⟨f, kv, h1, (he f h5 (Array.getElem?_eq_some_iff.1 h2).1).trans h2, h3.keep he, h4, h5⟩
theorem FuseAt.mono {K K' : Nat → Prop} {w : World} {fv : Value} (hk : ∀ i, K i → K' i) : ∀ {fu : Option (Nat × List Bool)}, FuseAt K w fv fu → FuseAt K' w fv fu
  | none, h => h
  | some (_, _), ⟨f, kv, h1, h2, h3, h4, h5⟩ => ⟨f, kv, h1, h2, h3.mono hk, h4, hk f h5⟩
theorem FuseAt.keepD {K : Nat → Prop} {w w' : World} {fv : Value} {D : Nat} {c : Array Value} (hD : w.heap[D]? = some (.cells c 69 (0, 0))) (ho : ∀ i, i ≠ D → w'.heap[i]? = w.heap[i]?) : ∀ {fu : Option (Nat × List Bool)}, FuseAt K w fv fu → FuseAt K w' fv fu
  | none, h => h
  | some (_, _), ⟨f, kv, h1, h2, h3, h4, h5⟩ => ⟨f, kv, h1, (ho f (ne_type h2 hD (by decide))).trans h2, h3.keepT (fun i cur hi => ho i (ne_type hi hD (by decide))), h4, h5⟩
namespace Lies
variable {K : Nat → Prop} {w w' : World} {D s cs t ct : Nat} {lv fv : Value} {x : St}
theorem lt (h : Lies K w D s cs t ct lv fv x) : D < w.heap.size := (Array.getElem?_eq_some_iff.1 h.hd).1
theorem keep (h : Lies K w D s cs t ct lv fv x) (he : ∀ i, K i → i < w.heap.size → w'.heap[i]? = w.heap[i]?) : Lies K w' D s cs t ct lv fv x :=
  ⟨(he D h.kD h.lt).trans h.hd, h.sr.of_block (he s h.ks h.sr.lt), h.tr.of_block (he t h.kt h.tr.lt), h.ne, h.cs, h.ct,
    own_keep h.lo (fun g hg => he g (h.kl g hg) (h.lo.lt g hg).2), h.fu.keep he, h.pl, h.nb, h.kD, h.ks, h.kt, h.kl⟩
theorem below (h : Lies K w D s cs t ct lv fv x) (hb : Below w.heap.size w w') : Lies K w' D s cs t ct lv fv x := h.keep fun i _ hi => hb.block i hi
theorem alloc (h : Lies K w D s cs t ct lv fv x) (o : Obj) : Lies K (w.alloc o) D s cs t ct lv fv x := h.below ((Below.refl _ _).alloc (Nat.le_refl _) o)
theorem cell (h : Lies K w D s cs t ct lv fv x) (i : Nat) : w.cell? ⟨D, i, none⟩ = (#[.slice (some ⟨s, 0, none⟩) x.n cs, .slice (some ⟨t, 0, none⟩) x.n ct, lv, fv, .bool x.away, .int .i64 (x.done : Int)] : Array Value)[i]? := cell_of_row w D i _ _ _ h.hd
theorem fz (h : Lies K w D s cs t ct lv fv x) (i : Nat) : w.frozen? ⟨D, i, none⟩ = false := frozen_of_row w D i _ _ h.hd
theorem neDs (h : Lies K w D s cs t ct lv fv x) : D ≠ s := by obtain ⟨c, hc, _⟩ := h.sr; exact ne_type h.hd hc (by decide)
theorem neDt (h : Lies K w D s cs t ct lv fv x) : D ≠ t := by obtain ⟨c, hc, _⟩ := h.tr; exact ne_type h.hd hc (by decide)
theorem neLD (h : Lies K w D s cs t ct lv fv x) : ∀ g, lv.ownBlock = some g → g ≠ D := fun g hg => by obtain ⟨c, hc⟩ := own_type h.lo g hg; exact ne_type hc h.hd (by decide)
/-- The disk's own block written anew, all else as it was. -/
theorem reheadD (h : Lies K w D s cs t ct lv fv x) {y : St} (hh : w'.heap[D]? = some (.cells #[.slice (some ⟨s, 0, none⟩) x.n cs, .slice (some ⟨t, 0, none⟩) x.n ct, lv, fv, .bool y.away, .int .i64 (y.done : Int)] 69 (0, 0)))
    (ho : ∀ i, i ≠ D → w'.heap[i]? = w.heap[i]?) (h1 : y.n = x.n) (h2 : y.safe = x.safe) (h3 : y.now = x.now) (h4 : y.loose = x.loose) (h5 : y.fuse = x.fuse) : Lies K w' D s cs t ct lv fv y := by
  obtain ⟨n, sa, no, lo, fu, aw, dn⟩ := y
  subst h1 h2 h3 h4 h5
  refine ⟨hh, h.sr.of_block (ho s h.neDs.symm), h.tr.of_block (ho t h.neDt.symm), h.ne, h.cs, h.ct, own_keep h.lo (fun g hg => ho g (h.neLD g hg)), ?_, h.pl, h.nb, h.kD, h.ks, h.kt, h.kl⟩
  exact h.fu.keepD h.hd ho
theorem neLs (h : Lies K w D s cs t ct lv fv x) : ∀ g, lv.ownBlock = some g → g ≠ s := fun g hg => by obtain ⟨c, hc⟩ := own_type h.lo g hg; obtain ⟨d, hd, _⟩ := h.sr; exact ne_type hc hd (by decide)
theorem neLt (h : Lies K w D s cs t ct lv fv x) : ∀ g, lv.ownBlock = some g → g ≠ t := fun g hg => by obtain ⟨c, hc⟩ := own_type h.lo g hg; obtain ⟨d, hd, _⟩ := h.tr; exact ne_type hc hd (by decide)
end Lies
namespace DiskAt
variable {K : Nat → Prop} {w w' : World} {D : Nat} {x : St}
theorem keep (h : DiskAt K w D x) (he : ∀ i, K i → i < w.heap.size → w'.heap[i]? = w.heap[i]?) : DiskAt K w' D x := by
  obtain ⟨s, cs, t, ct, lv, fv, h⟩ := h
  exact ⟨s, cs, t, ct, lv, fv, h.keep he⟩
theorem below (h : DiskAt K w D x) (hb : Below w.heap.size w w') : DiskAt K w' D x := h.keep fun i _ hi => hb.block i hi
theorem mono (h : DiskAt K w D x) {K' : Nat → Prop} (hk : ∀ i, K i → K' i) : DiskAt K' w D x := by
  obtain ⟨s, cs, t, ct, lv, fv, h⟩ := h
  exact ⟨s, cs, t, ct, lv, fv, h.hd, h.sr, h.tr, h.ne, h.cs, h.ct, h.lo, h.fu.mono hk, h.pl, h.nb, hk _ h.kD, hk _ h.ks, hk _ h.kt, fun g hg => hk g (h.kl g hg)⟩
end DiskAt
/-- Behind a call on the disk in block D: what it answered, and what stands there. -/
def DiskSays (K : Nat → Prop) (w : World) (D : Nat) (v : Value) (x : St) (e : Ending) (w' : World) : Prop := e = .returned v ∧ DiskAt K w' D x ∧ Kept K w w'
end Go.Proofs.YtegehfdjchmgcaaDoor
namespace Go.Proofs.YtegehfdjchmgcaaDoor
open Go Go.RowKit

/-- '[]T{}': a new row of nothing. -/
theorem run_buildNone {P : Program} (w : World) (t e : TypeId) (ie : TypeInfo) (hu : P.underlying t = some (.slice e)) (hie : P.info? e = some ie) :
    (Instr.buildSlice t 0 #[]).run P w = .ok (.slice (some ⟨w.heap.size, 0, none⟩) 0 0) (w.alloc (.cells #[] e)) := by
  simp [Instr.buildSlice, run_underlying hu, sizeOf, typeInfo, hie, newRow, Instr.fill]
  congr
  apply Array.eq_empty_of_size_eq_zero
  simp
theorem wpList_buildNone {P : Program} {ops : Array Oper} {rest : List Oper} {o : Oper} {a : Act} {w : World} {Q : Exit → Act → World → Prop} (hg : o.guard = none) (t e : TypeId) (ho : o.op = .buildSlice t 0 #[]) (ie : TypeInfo)
    (hu : P.underlying t = some (.slice e)) (hie : P.info? e = some ie) (h : wpList P ops Q rest (a.put o.dst (.slice (some ⟨w.heap.size, 0, none⟩) 0 0)) (w.alloc (.cells #[] e))) : wpList P ops Q (o :: rest) a w :=
  wpList_plain hg fun _ hK => by
    unfold Oper.wp execOp
    have e : ((#[] : Array (Nat × Operand)).map fun (i, x) => (i, a.eval x)) = #[] := by simp
    simp only [ho, Sem.run_bind, e, run_buildNone w t _ ie hu hie, Result.andThen_ok]
    exact hK _ _ h
end Go.Proofs.YtegehfdjchmgcaaDoor
namespace Go.Proofs.YtegehfdjchmgcaaDoor
open Go.ChangeShapes Go.WideShapes Go.ChangeAt Go.RowKit Dk

theorem infoS : (Tryd.prog.info? 63).map (fun i => (i.zero, i.size, i.bytes)) = some (some (.agg (secA fun _ => 0)), 32, 32) := by kernel_rfl
/-- Cells of bytes. -/
def bcellsK (f : Nat → UInt8) (m : Nat) : List Value := (List.range m).map fun k => .int .u8 ((f k).toNat : Int)
theorem bcellsK_length (f : Nat → UInt8) (m : Nat) : (bcellsK f m).length = m := by simp [bcellsK]
theorem bcellsK_get (f : Nat → UInt8) (m k : Nat) (h : k < m) : (bcellsK f m)[k]? = some (.int .u8 ((f k).toNat : Int)) := by simp [bcellsK, h]
theorem bcellsK_one (f : Nat → UInt8) (m : Nat) : ∀ u ∈ bcellsK f m, u.oneCell' = true := by
  intro u hu
  obtain ⟨b, _, rfl⟩ := List.mem_map.1 hu
  rfl
theorem row_own {w : World} {base b n c : Nat} {f : Nat → UInt8} (h : w.ownsRow base 63 32 (.slice (some ⟨b, 0, none⟩) n c) n (bcellsK f (n * 32))) : Row w b n f ∧ n ≤ c := by
  rcases h.2 with ⟨hn, _⟩ | ⟨g, cap, cur, hv, hb, hg, hnc, _, _, ht⟩
  · cases hn
  · injection hv with h1 h2 h3
    injection h1 with h1
    injection h1 with h1
    subst h1 h3
    refine ⟨⟨cur, hg, fun k hk => ?_⟩, hnc⟩
    rw [← bcellsK_get f (n * 32) k hk, ← ht, List.getElem?_take_of_lt hk, Array.getElem?_toList]
theorem own_formK {w : World} {base : Nat} {e : TypeId} {size n : Nat} {v : Value} {xs : List Value} (h : w.ownsRow base e size v n xs) (hv : v ≠ .slice none 0 0) : ∃ g cap, v = .slice (some ⟨g, 0, none⟩) n cap ∧ base ≤ g := by
  rcases h.2 with ⟨hn, _⟩ | ⟨g, cap, cur, rfl, hb, _⟩
  · exact absurd hn hv
  · exact ⟨g, cap, rfl, hb⟩
theorem src_row {w : World} {b n : Nat} {f : Nat → UInt8} (h : Row w b n f) (o : Obj) : ∀ j u, (bcellsK f (n * 32))[j]? = some u → (w.alloc o).cell? ((⟨b, 0, none⟩ : Addr).add j) = some u := fun j u hj => by
  have hl := (List.getElem?_eq_some_iff.1 hj).1
  rw [bcellsK_length] at hl
  rw [Addr.add_lit, Nat.zero_add, World.cell?_alloc_lt _ _ _ h.lt, h.cell j hl, ← bcellsK_get f (n * 32) j hl, hj]
set_option maxHeartbeats 800000 in
theorem clone_rows (w : World) (b n c : Nat) (f : Nat → UInt8) (h : Row w b n f) (hn : n ≤ 4096) :
    Calls Tryd.prog 51 #[.slice (some ⟨b, 0, none⟩) n c] w fun e w' => ∃ t ct, e = .returned (.slice (some ⟨t, 0, none⟩) n ct) ∧ Row w' t n f ∧ n ≤ ct ∧ w.heap.size ≤ t ∧ Below w.heap.size w w' := by
  have H := Lib.hid h
  obtain ⟨i0, hi, hz0, hz1, hz2⟩ := info_parts infoS
  have HI := Lib.hid hi
  have HZ0 := Lib.hid hz0
  have HZ1 := Lib.hid hz1
  have HZ2 := Lib.hid hz2
  have HZS := Lib.hid (show (Value.agg (secA fun _ => 0)).cells.size = 32 from vals_size 32 _)
  have HN := Lib.hid hn
  have HLN := Lib.hid (bcellsK_length f (n * 32))
  have HO1 := Lib.hid (bcellsK_one f (n * 32))
  clear h hi hz0 hz1 hz2 hn
  have HOWN := Lib.hid (show (w.alloc (.cells #[] 63)).ownsRow w.heap.size 63 32 (.slice (some ⟨w.heap.size, 0, none⟩) 0 0) 0 [] from World.ownsRow_made w #[] 0 (Nat.le_refl _) (Nat.zero_le _) rfl)
  have HSRC := Lib.hid (src_row H.out (.cells #[] 63))
  have heq : ∀ W : World, (binOp .eql 62 (.slice (some ⟨b, 0, none⟩) n c) (.slice none 0 0)).run Tryd.prog W = .ok (.bool false) W := fun W => run_eql_slice_nil W _ _ _ n c Tryd.underlying62
  go_enter Tryd.func51, Tryd.ntmps51
  go_wp2_with (first
    | (with_reducible refine wpList_buildNone rfl 62 63 rfl i0 Tryd.underlying62 HI.out ?_)
    | (at_builtin; refine wpList_append_own _ rfl (.tmp 5) (.tmp 6) 62 rfl w.heap.size 63 i0 _ 32 32 Tryd.underlying62 HI.out HZ0.out HZ1.out HZ2.out HZS.out (by omega) (.slice (some ⟨w.heap.size, 0, none⟩) 0 0) 0 [] rfl HOWN.out ⟨b, 0, none⟩ n c (bcellsK f (n * 32)) rfl HLN.out HSRC.out HO1.out (by have := HN.out; unfold maxLen; omega) (by have := HN.out; omega) (by simp) ?_; intro v9 w9 hown9 hg9 hnil; obtain ⟨g9, c9, rfl, hg9b⟩ := own_formK hown9 (fun h' => by have := (hnil.1 h').1; simp at this)))
  rw [Nat.zero_add, List.nil_append] at hown9
  obtain ⟨hr, hc⟩ := row_own hown9
  have hb := ((Below.refl w.heap.size w).alloc (Nat.le_refl _) (.cells #[] 63)).grown hg9 (by simp) (fun k hk => by
    have : k = w.heap.size := by simpa [Value.ownBlock] using hk.symm
    omega)
  refine bodyPost_ret (results_tmp rfl _ _ _) rfl ?_
  exact ⟨g9, c9, rfl, hr, hc, hg9b, hb⟩
theorem madeCells_bytes (n : Nat) : (madeCells (Value.agg (secA fun _ => 0)).cells (n * 32)).toList = bcellsK (fun _ => 0) (n * 32) := by
  apply List.ext_getElem?
  intro j
  by_cases hj : j < n * 32
  · rw [bcellsK_get _ _ _ hj]
    have hs : (Value.agg (secA fun _ => 0)).cells.size = 32 := vals_size 32 _
    have h2 : (Value.agg (secA fun _ => 0)).cells[j % 32]? = some (.int .u8 0) := vals_get 32 _ _ (by omega)
    rw [Array.getElem?_toList]
    unfold madeCells
    rw [Array.getElem?_map, Array.getElem?_range, if_pos hj, Option.map_some, hs, Array.getElem!_eq_getD, Array.getD_eq_getD_getElem?, h2]
    rfl
  · rw [List.getElem?_eq_none (by rw [Array.length_toList, size_madeCells]; omega), List.getElem?_eq_none (by rw [bcellsK_length]; omega)]

/-- A disk over a row of sectors. -/
def freshSt (n : Nat) (f : Nat → UInt8) : St := { n := n, safe := f, now := f, loose := [], fuse := none, away := false, done := 0 }
theorem disk_of (K : Nat → Prop) (w : World) (s n c : Nat) (f : Nat → UInt8) (h : Row w s n f) (hn : n ≤ 4096) (hc : n ≤ c) (hs : K s) (hK : ∀ i, w.heap.size ≤ i → K i) :
    Calls Tryd.prog 30 #[.slice (some ⟨s, 0, none⟩) n c] w fun e w' => ∃ D, e = .returned (.pointer (some ⟨D, 0, none⟩)) ∧ w.heap.size ≤ D ∧ DiskAt K w' D (freshSt n f) ∧ Below w.heap.size w w' := by
  have H := Lib.hid h
  have HK := Lib.hid hK
  clear h hK
  go_enter Tryd.func30, Tryd.ntmps30
  go_wp2_with (fail)
  refine (clone_rows w s n c f H.out hn).mono ?_
  rintro e w1 ⟨t, ct, rfl, ht, hct, htb, hb⟩
  have HT := Lib.hid ht
  have HB := Lib.hid hb
  clear ht hb
  go_wp2
  refine bodyPost_ret (results_tmp rfl _ _ _) rfl ?_
  have hsl := H.out.lt
  have hs1 := H.out.of_block (HB.out.block s hsl)
  have htl := HT.out.lt
  refine ⟨_, rfl, HB.out.size, ⟨s, c, t, ct, .slice none 0 0, .pointer none, heap_alloc_new w1 _, hs1.of_block (heap_alloc_old w1 _ hs1.lt), HT.out.of_block (heap_alloc_old w1 _ htl), by omega, hc, hct, World.ownsRow_nil _ _ _ _, rfl, (fun y hy => by cases hy), hn, HK.out _ HB.out.size, hs, HK.out _ htb, fun g hg => by cases hg⟩, HB.out.alloc HB.out.size _⟩
theorem disk_new (K : Nat → Prop) (w : World) (m : Int) (n : Nat) (hn : (n : Int) = min (max m 0) 4096) (hK : ∀ i, w.heap.size ≤ i → K i) :
    Calls Tryd.prog 21 #[.int .i64 m] w fun e w' => ∃ D, e = .returned (.pointer (some ⟨D, 0, none⟩)) ∧ w.heap.size ≤ D ∧ DiskAt K w' D (freshSt n fun _ => 0) ∧ Below w.heap.size w w' := by
  have HK := Lib.hid hK
  obtain ⟨i0, hi, hz0, hz1, hz2⟩ := info_parts infoS
  have HI := Lib.hid hi
  have HZ0 := Lib.hid hz0
  have HZ1 := Lib.hid hz1
  have HZ2 := Lib.hid hz2
  have HN := Lib.hid hn
  have hnb : n ≤ 4096 := by omega
  clear hK hi hz0 hz1 hz2 hn
  have hval : (m < 0 ∧ n = 0) ∨ (¬ m < 0 ∧ m ≤ 4096 ∧ m = (n : Int)) ∨ (¬ m < 0 ∧ ¬ m ≤ 4096 ∧ n = 4096) := by have := HN.out; omega
  have hfin : ∀ (w1 : World), w1.ownsRow w.heap.size 63 32 (.slice (some ⟨w.heap.size, 0, none⟩) n n) n (madeCells (Value.agg (secA fun _ => 0)).cells (n * 32)).toList → w.grownBy w1 none →
      Calls Tryd.prog 30 #[.slice (some ⟨w.heap.size, 0, none⟩) n n] w1 fun e w' => ∃ D, e = .returned (.pointer (some ⟨D, 0, none⟩)) ∧ w.heap.size ≤ D ∧ DiskAt K w' D (freshSt n fun _ => 0) ∧ Below w.heap.size w w' := fun w1 ho hg => by
    rw [madeCells_bytes] at ho
    obtain ⟨hr, hc⟩ := row_own ho
    have hb := (Below.refl w.heap.size w).grown hg (Nat.le_refl _) (fun k hk => by cases hk)
    refine (disk_of K w1 w.heap.size n n _ hr hnb hc (HK.out _ (Nat.le_refl _)) (fun i hi => HK.out i (Nat.le_trans hb.size hi))).mono ?_
    rintro e w2 ⟨D, rfl, h1, h2, h3⟩
    exact ⟨D, rfl, Nat.le_trans hb.size h1, h2, hb.trans (h3.mono hb.size)⟩
  have HFIN := Lib.hid hfin
  clear hfin
  rcases hval with ⟨h1, h2⟩ | ⟨h1, h2, h3⟩ | ⟨h1, h2, h3⟩
  · have h1' : ¬ 0 ≤ m := by omega
    subst h2
    clear HN hnb
    go_enter Tryd.func21, Tryd.ntmps21
    go_wp2_with (at_make; refine wpList_make_full _ rfl _ _ 62 rfl w.heap.size 63 i0 _ 32 Tryd.underlying62 HI.out HZ0.out HZ1.out .i64 .i64 _ _ 0 rfl rfl rfl rfl (by omega) (by unfold maxLen; omega) (Nat.le_refl _) ?_; intro w1 hown hg1)
    refine (HFIN.out w1 hown hg1).mono ?_
    rintro e w2 ⟨D, rfl, g1, g2, g3⟩
    have G2 := Lib.hid g2
    clear g2 hown hg1 HFIN HK
    go_wp2
    exact bodyPost_ret (results_tmp rfl _ _ _) rfl ⟨D, rfl, g1, G2.out, g3⟩
  · have h1' : 0 ≤ m := by omega
    subst h3
    clear HN
    go_enter Tryd.func21, Tryd.ntmps21
    go_wp2_with (at_make; refine wpList_make_full _ rfl _ _ 62 rfl w.heap.size 63 i0 _ 32 Tryd.underlying62 HI.out HZ0.out HZ1.out .i64 .i64 _ _ n rfl rfl rfl rfl (by rw [HZ2.out]; omega) (by unfold maxLen; omega) (Nat.le_refl _) ?_; intro w1 hown hg1)
    refine (HFIN.out w1 hown hg1).mono ?_
    rintro e w2 ⟨D, rfl, g1, g2, g3⟩
    have G2 := Lib.hid g2
    clear g2 hown hg1 HFIN HK
    go_wp2
    exact bodyPost_ret (results_tmp rfl _ _ _) rfl ⟨D, rfl, g1, G2.out, g3⟩
  · have h1' : 0 ≤ m := by omega
    have h2' : 4096 < m := by omega
    subst h3
    clear HN
    go_enter Tryd.func21, Tryd.ntmps21
    go_wp2_with (at_make; refine wpList_make_full _ rfl _ _ 62 rfl w.heap.size 63 i0 _ 32 Tryd.underlying62 HI.out HZ0.out HZ1.out .i64 .i64 _ _ 4096 rfl rfl rfl rfl (by rw [HZ2.out]; omega) (by unfold maxLen; omega) (Nat.le_refl _) ?_; intro w1 hown hg1)
    refine (HFIN.out w1 hown hg1).mono ?_
    rintro e w2 ⟨D, rfl, g1, g2, g3⟩
    have G2 := Lib.hid g2
    clear g2 hown hg1 HFIN HK
    go_wp2
    exact bodyPost_ret (results_tmp rfl _ _ _) rfl ⟨D, rfl, g1, G2.out, g3⟩
end Go.Proofs.YtegehfdjchmgcaaDoor
namespace Go.Proofs.YtegehfdjchmgcaaDoor
open Go.ChangeShapes Go.WideShapes Go.ChangeAt Go.RowKit Dk

section
variable (K : Nat → Prop) (w : World) (D : Nat) (x : St)
theorem disk_isOn (h : DiskAt K w D x) : Calls Tryd.prog 42 #[.pointer (some ⟨D, 0, none⟩)] w fun e w' => e = .returned (.bool (!x.away)) ∧ w = w' := by
  obtain ⟨s, cs, t, ct, lv, fv, h⟩ := h
  have c4 := h.cell 4
  simp only [List.getElem?_toArray, List.getElem?_cons_succ, List.getElem?_cons_zero] at c4
  clear h
  generalize x.away = aw at c4 ⊢
  go_enter Tryd.func42, Tryd.ntmps42
  go_wp2
  go_ret
  exact ⟨rfl, rfl⟩
theorem disk_len (h : DiskAt K w D x) : Calls Tryd.prog 13 #[.pointer (some ⟨D, 0, none⟩)] w fun e w' => e = .returned (.int .i64 (x.n : Int)) ∧ w = w' := by
  obtain ⟨s, cs, t, ct, lv, fv, h⟩ := h
  have c0 := h.cell 0
  simp only [List.getElem?_toArray, List.getElem?_cons_zero] at c0
  clear h
  generalize x.n = n at c0 ⊢
  go_enter Tryd.func13, Tryd.ntmps13
  go_wp2
  go_ret
  exact ⟨rfl, rfl⟩
theorem disk_loose (h : DiskAt K w D x) : Calls Tryd.prog 18 #[.pointer (some ⟨D, 0, none⟩)] w fun e w' => e = .returned (.int .i64 (x.loose.length : Int)) ∧ w = w' := by
  obtain ⟨s, cs, t, ct, lv, fv, h⟩ := h
  have c2 := h.cell 2
  simp only [List.getElem?_toArray, List.getElem?_cons_succ, List.getElem?_cons_zero] at c2
  have hv : ∃ a c, lv = .slice a x.loose.length c := by
    rcases h.lo.2 with ⟨rfl, h0⟩ | ⟨g, cap, cur, rfl, _⟩
    · exact ⟨_, _, by rw [h0]⟩
    · exact ⟨_, _, rfl⟩
  obtain ⟨a, c, rfl⟩ := hv
  clear h
  generalize x.loose.length = n at c2 ⊢
  go_enter Tryd.func18, Tryd.ntmps18
  go_wp2
  go_ret
  exact ⟨rfl, rfl⟩
end
namespace Dk
/-- Whether there is such a sector, and the power to get at it. -/
def St.reach (x : St) (p : Int) : Int := if p < 0 ∨ (x.n : Int) ≤ p then 3 else if x.away then 4 else 0
theorem reach_out {x : St} {p : Int} (h : p < 0 ∨ (x.n : Int) ≤ p) : x.reach p = 3 := if_pos h
theorem reach_in {x : St} {p : Int} (h0 : ¬ p < 0) (h1 : ¬ (x.n : Int) ≤ p) : x.reach p = if x.away then 4 else 0 := if_neg (by omega)
end Dk
section
variable (K : Nat → Prop) (w : World) (D : Nat) (x : St)
theorem disk_reach (h : DiskAt K w D x) (p : Int) : Calls Tryd.prog 68 #[.pointer (some ⟨D, 0, none⟩), .int .i64 p] w fun e w' => e = .returned (.int .i64 (x.reach p)) ∧ w = w' := by
  obtain ⟨s, cs, t, ct, lv, fv, h⟩ := h
  have c0 := h.cell 0
  have c4 := h.cell 4
  simp only [List.getElem?_toArray, List.getElem?_cons_succ, List.getElem?_cons_zero] at c0 c4
  clear h
  by_cases h0 : p < 0
  · have h0' : decide (p < 0) = true := decide_eq_true h0
    rw [reach_out (.inl h0)]
    go_enter Tryd.func68, Tryd.ntmps68
    go_wp2
    go_ret
    exact ⟨rfl, rfl⟩
  · have h0' : decide (p < 0) = false := decide_eq_false h0
    by_cases h1 : (x.n : Int) ≤ p
    · have h1' : decide ((x.n : Int) ≤ p) = true := decide_eq_true h1
      rw [reach_out (.inr h1)]
      generalize x.n = n at c0 h1 h1'
      go_enter Tryd.func68, Tryd.ntmps68
      go_wp2
      go_ret
      exact ⟨rfl, rfl⟩
    · have h1' : decide ((x.n : Int) ≤ p) = false := decide_eq_false h1
      rw [reach_in h0 h1]
      generalize x.n = n at c0 h1 h1'
      cases ha : x.away with
      | true =>
        rw [ha] at c4
        rw [if_pos rfl]
        go_enter Tryd.func68, Tryd.ntmps68
        go_wp2
        go_ret
        exact ⟨rfl, rfl⟩
      | false =>
        rw [ha] at c4
        rw [if_neg Bool.false_ne_true]
        go_enter Tryd.func68, Tryd.ntmps68
        go_wp2
        go_ret
        exact ⟨rfl, rfl⟩
end
namespace Dk
/-- A sector's bytes as a text. -/
def secS (g : Nat → UInt8) : ByteArray := ⟨((List.range 32).map g).toArray⟩
theorem secS_congr {f g : Nat → UInt8} (h : ∀ j, j < 32 → f j = g j) : secS f = secS g := by
  unfold secS
  rw [List.map_congr_left fun j hj => h j (List.mem_range.1 hj)]
theorem secS_inj {f g : Nat → UInt8} (h : secS f = secS g) : ∀ j, j < 32 → f j = g j := by
  intro j hj
  have h2 := congrArg (fun b : ByteArray => b.data.toList[j]?) h
  simpa [secS, hj] using h2
theorem secS_size (g : Nat → UInt8) : (secS g).size = 32 := by
  show ((List.range 32).map g).toArray.size = 32
  simp
end Dk
theorem foldl_pushK (ns : List UInt8) : ∀ r : ByteArray, ns.foldl (fun r b => r.push b) r = ⟨(r.data.toList ++ ns).toArray⟩ := by
  induction ns with
  | nil => intro r; simp
  | cons a ns ih =>
    intro r
    rw [List.foldl_cons, ih]
    simp [ByteArray.push]
theorem foldl_pushK_int (ns : List UInt8) (r : ByteArray) : (ns.map fun b => (b.toNat : Int)).foldl (fun r n => r.push (UInt8.ofNat n.toNat)) r = ns.foldl (fun r b => r.push b) r := by
  rw [List.foldl_map]
  congr 1
  funext r b
  rw [Int.toNat_natCast, UInt8.ofNat_toNat]
/-- A slice of bytes as a string. -/
theorem run_textK (w : World) (a : Addr) (n cap : Nat) (l : List UInt8) (hn : n = l.length) (h : ∀ j u, (l.map fun b => Value.int .u8 (b.toNat : Int))[j]? = some u → w.cell? (a.add j) = some u) :
    (convert 59 9 (.slice (some a) n cap)).run Tryd.prog w = .ok (.string ⟨l.toArray⟩) w := by
  subst hn
  rw [run_convert_bytes_string w _ _ 5 _ l.length cap Tryd.underlying59 Tryd.underlying5 Tryd.underlying9]
  have hl := run_loadCells_list (P := Tryd.prog) w a _ h
  have e : (l.map fun b => Value.int .u8 (b.toNat : Int)) = (l.map fun b => (b.toNat : Int)).map (Value.int .u8) := by simp [List.map_map, Function.comp_def]
  rw [e] at hl
  rw [List.length_map, List.length_map] at hl
  rw [run_bytesToString w a l.length cap (l.map fun b => (b.toNat : Int)) hl, foldl_pushK_int, foldl_pushK]
  simp
theorem range_text {w : World} {b n p : Nat} {f : Nat → UInt8} (h : Row w b n f) (hp : p < n) (cap : Nat) : (convert 59 9 (.slice (some ⟨b, p * 32, none⟩) 32 cap)).run Tryd.prog w = .ok (.string (secS (sect f p))) w := by
  refine run_textK w _ 32 cap ((List.range 32).map (sect f p)) (by simp) fun j u hj => ?_
  rw [Addr.add_lit]
  have hl := (List.getElem?_eq_some_iff.1 hj).1
  simp only [List.length_map, List.length_range] at hl
  rw [h.range hp j (.int .u8 ((sect f p j).toNat : Int)) (secL_get _ _ hl), ← hj]
  simp [hl]
theorem disk_read (K : Nat → Prop) (w : World) (D : Nat) (x : St) (h : DiskAt K w D x) (ha : x.away = false) (p : Nat) (hp : p < x.n) :
    Calls Tryd.prog 53 #[.pointer (some ⟨D, 0, none⟩), .int .i64 (p : Int)] w fun e w' => e = .returned (.tuple #[.string (secS (sect x.now p)), .int .i64 0]) ∧ w = w' := by
  have hr := disk_reach K w D x h (p : Int)
  rw [reach_in (by omega) (by omega), ha, if_neg Bool.false_ne_true] at hr
  have HR := Lib.hid hr
  obtain ⟨s, cs, t, ct, lv, fv, h⟩ := h
  have c1 := h.cell 1
  simp only [List.getElem?_toArray, List.getElem?_cons_succ, List.getElem?_cons_zero] at c1
  have hx := range_text h.tr hp 32
  have h1 : (p : Int) < (x.n : Int) := by omega
  have h2 : ¬ (p : Int) < 0 := by omega
  have h3 : 0 ≤ (p : Int) := by omega
  have h4 : p < x.n := hp
  clear h hr
  generalize x.n = n at c1 h1 h4
  generalize secS (sect x.now p) = z at hx ⊢
  go_enter Tryd.func53, Tryd.ntmps53
  go_wp2_with (fail)
  refine HR.out.mono ?_
  rintro e w1 ⟨rfl, rfl⟩
  clear HR
  go_wp2
  refine bodyPost_ret (results_tmp2 rfl _ _ _) rfl ?_
  exact ⟨rfl, rfl⟩
end Go.Proofs.YtegehfdjchmgcaaDoor
namespace Go.Proofs.YtegehfdjchmgcaaDoor
open Go.ChangeShapes Go.WideShapes Go.ChangeAt Go.RowKit Dk

theorem sizeW : (Tryd.prog.info? 83).map (·.size) = some 33 := by kernel_rfl
theorem sizeS : (Tryd.prog.info? 63).map (·.size) = some 32 := by kernel_rfl
/-- A write's cells. -/
abbrev wrA (y : Wr) : Array Value := (wcells y).toArray
theorem wrA_list (y : Wr) : (wrA y).toList = wcells y := rfl
theorem wrA_size (y : Wr) : (wrA y).size = 33 := wcells_length y
theorem wrA_one (y : Wr) : (wrA y).all (·.oneCell') = true := all_oneCell_toArray (wcells_one y)
/-- A write stands in block v. -/
def WrAt (w : World) (v : Nat) (y : Wr) : Prop := w.heap[v]? = some (.cells (wrA y) 83 (0, 0))
namespace WrAt
variable {w w' : World} {v : Nat} {y : Wr}
theorem lt (h : WrAt w v y) : v < w.heap.size := (Array.getElem?_eq_some_iff.1 h).1
theorem place (h : WrAt w v y) : w.cell? ⟨v, 0, none⟩ = some (.int .i64 (y.1 : Int)) := cell_of_row w v 0 _ _ _ h
theorem bytes (h : WrAt w v y) : w.rangeAt v 1 (secL y.2) := fun j u hj => by
  rw [cell_of_row w v (1 + j) _ _ _ h]
  show (wcells y).toArray[1 + j]? = some u
  rw [List.getElem?_toArray, Nat.add_comm]
  exact hj
theorem of_block (h : WrAt w v y) (e : w'.heap[v]? = w.heap[v]?) : WrAt w' v y := e.trans h
end WrAt
/-- Within the falling: the disk's own block as it was, and both rows. -/
structure Falls (w wr : World) (D s cs t ct : Nat) (lv fv : Value) (x : St) (f g : Nat → UInt8) : Prop where
  hd : wr.heap[D]? = some (.cells #[.slice (some ⟨s, 0, none⟩) x.n cs, .slice (some ⟨t, 0, none⟩) x.n ct, lv, fv, .bool x.away, .int .i64 (x.done : Int)] 69 (0, 0))
  sr : Row wr s x.n f
  tr : Row wr t x.n g
  ne : s ≠ t
  ds : D ≠ s
  dt : D ≠ t
  os : wr.os = w.os
  tape : wr.tape = w.tape
  output : wr.output = w.output
  size : w.heap.size ≤ wr.heap.size
  block : ∀ i, i < w.heap.size → i ≠ s → i ≠ t → wr.heap[i]? = w.heap[i]?
namespace Falls
variable {w wr w' : World} {D s cs t ct : Nat} {lv fv : Value} {x : St} {f g : Nat → UInt8}
theorem start {K : Nat → Prop} (h : Lies K w D s cs t ct lv fv x) : Falls w w D s cs t ct lv fv x x.safe x.now := ⟨h.hd, h.sr, h.tr, h.ne, h.neDs, h.neDt, rfl, rfl, rfl, Nat.le_refl _, fun _ _ _ _ => rfl⟩
theorem then_below (h : Falls w wr D s cs t ct lv fv x f g) (hb : Below wr.heap.size wr w') : Falls w w' D s cs t ct lv fv x f g :=
  ⟨(hb.block D (Array.getElem?_eq_some_iff.1 h.hd).1).trans h.hd, h.sr.of_block (hb.block s h.sr.lt), h.tr.of_block (hb.block t h.tr.lt), h.ne, h.ds, h.dt, hb.os.trans h.os, hb.tape.trans h.tape, hb.output.trans h.output, Nat.le_trans h.size hb.size,
    fun i hi h1 h2 => (hb.block i (Nat.lt_of_lt_of_le hi h.size)).trans (h.block i hi h1 h2)⟩
theorem drew (h : Falls w wr D s cs t ct lv fv x f g) : Falls w wr.drew D s cs t ct lv fv x f g := h.then_below ((Below.refl _ _).drew)
theorem alloc (h : Falls w wr D s cs t ct lv fv x f g) (o : Obj) : Falls w (wr.alloc o) D s cs t ct lv fv x f g := h.then_below ((Below.refl _ _).alloc (Nat.le_refl _) o)
theorem new (h : Falls w wr D s cs t ct lv fv x f g) {b : Nat} (hb : w.heap.size ≤ b) (hs : b ≠ s) (ht : b ≠ t) (hD : b ≠ D) (he : w'.os = wr.os ∧ w'.tape = wr.tape ∧ w'.output = wr.output) (hz : wr.heap.size ≤ w'.heap.size) (ho : ∀ i, i ≠ b → w'.heap[i]? = wr.heap[i]?) : Falls w w' D s cs t ct lv fv x f g :=
  ⟨(ho D hD.symm).trans h.hd, h.sr.of_block (ho s hs.symm), h.tr.of_block (ho t ht.symm), h.ne, h.ds, h.dt, he.1.trans h.os, he.2.1.trans h.tape, he.2.2.trans h.output, Nat.le_trans h.size hz, fun i hi h1 h2 => (ho i (by omega)).trans (h.block i hi h1 h2)⟩
theorem putF (h : Falls w wr D s cs t ct lv fv x f g) {p : Nat} (hp : p < x.n) (q : Nat → UInt8) : Falls w (wr.setCells s (p * 32) (secL q)) D s cs t ct lv fv x (putS f p q) g := by
  obtain ⟨h1, h2, h3⟩ := setCells_os s (secL q) (p * 32) wr
  exact ⟨(setCells_other s D h.ds _ _ _).trans h.hd, h.sr.put hp q, h.tr.other h.ne.symm _ _, h.ne, h.ds, h.dt, h1.trans h.os, h2.trans h.tape, h3.trans h.output, by rw [setCells_size]; exact h.size, fun i hi hs ht => (setCells_other s i hs _ _ _).trans (h.block i hi hs ht)⟩
theorem putG (h : Falls w wr D s cs t ct lv fv x f g) {p : Nat} (hp : p < x.n) (q : Nat → UInt8) : Falls w (wr.setCells t (p * 32) (secL q)) D s cs t ct lv fv x f (putS g p q) := by
  obtain ⟨h1, h2, h3⟩ := setCells_os t (secL q) (p * 32) wr
  exact ⟨(setCells_other t D h.dt _ _ _).trans h.hd, h.sr.other h.ne _ _, h.tr.put hp q, h.ne, h.ds, h.dt, h1.trans h.os, h2.trans h.tape, h3.trans h.output, by rw [setCells_size]; exact h.size, fun i hi hs ht => (setCells_other t i ht _ _ _).trans (h.block i hi hs ht)⟩
theorem cell (h : Falls w wr D s cs t ct lv fv x f g) (i : Nat) : wr.cell? ⟨D, i, none⟩ = (#[.slice (some ⟨s, 0, none⟩) x.n cs, .slice (some ⟨t, 0, none⟩) x.n ct, lv, fv, .bool x.away, .int .i64 (x.done : Int)] : Array Value)[i]? := cell_of_row wr D i _ _ _ h.hd
end Falls
/-- What stands in the row of loose writes at its place k. -/
theorem own_range {w : World} {base g n c : Nat} {L : List Wr} (h : w.ownsRow base 83 33 (.slice (some ⟨g, 0, none⟩) n c) n (lcells L)) (k : Nat) (hk : k < L.length) : w.rangeAt g (k * 33) (wcells (L.getD k noWr)) := fun j u hj => by
  have hl := (List.getElem?_eq_some_iff.1 hj).1
  rw [wcells_length] at hl
  have := h.cells (g := g) rfl (k * 33 + j) u (by rw [lcells_at L k hk j hl]; exact hj)
  rwa [Addr.add_lit, Nat.zero_add] at this
theorem loose_form {w : World} {n : Nat} {v : Value} {xs : List Value} (h : w.ownsRow 0 83 33 v n xs) : (v = .slice none 0 0 ∧ n = 0) ∨ ∃ g c, v = .slice (some ⟨g, 0, none⟩) n c := by
  rcases h.2 with hn | ⟨g, cap, cur, rfl, _⟩
  · exact .inl hn
  · exact .inr ⟨g, cap, rfl⟩

/-- A load of many cells within a head that turns nothing. -/
theorem wpStill_load_midK {P : Program} {ops : Array Oper} {w : World} {Q : Act → Prop} {a : Act} {op : Oper} {rest : List Oper} (hw : Region.wanted op (yielded ops a.tmps) = true) (ty : TypeId) (x : Operand) (ho : op.op = .load ty x)
    (b o : Nat) (hx : a.eval x = .pointer (some ⟨b, o, none⟩)) (cs : List Value) (d : TypeDesc) (hc : w.rangeAt b o cs) (hu : P.underlying ty = some d) (hd : d.isRow = true) (hi : (P.info? ty).map (·.size) = some cs.length)
    (h : wpStill P ops w Q rest (a.put op.dst (.agg cs.toArray))) : wpStill P ops w Q (op :: rest) a := by
  refine wpStill_step (fun K hK => ?_)
  rw [if_pos hw]
  have hr : (execOp a.eval op).run P w = .ok (.value (.agg cs.toArray)) w := by
    unfold execOp
    simp only [ho, hx, Instr.loadAt, Instr.sureAddr, Sem.run_bind, Sem.run_pure, Result.andThen_ok, run_loadVar_mid w b o ty cs d hc hu hd hi]
  unfold Oper.still
  rw [hr]
  exact ⟨rfl, hK _ h⟩
/-- A variable that a round makes, and fills with a write. -/
theorem falls_var {w wr : World} {D s cs t ct : Nat} {lv fv : Value} {x : St} {f g : Nat → UInt8} (h : Falls w wr D s cs t ct lv fv x f g) (z : Array Value) (y : Wr) :
    Falls w ((wr.alloc (.cells z 83)).setRow wr.heap.size (wrA y)) D s cs t ct lv fv x f g ∧ WrAt ((wr.alloc (.cells z 83)).setRow wr.heap.size (wrA y)) wr.heap.size y :=
  ⟨h.then_below (below_setRow' ((Below.refl _ _).alloc (Nat.le_refl _) _) (Nat.le_refl _) _), setRow_heap _ _ _ _ _ _ (heap_alloc_new wr _)⟩
/-- The disk, when the power is gone. -/
theorem falls_end {K : Nat → Prop} {w wr wz : World} {D s cs t ct : Nat} {lv lv' fv fv' : Value} {x : St} {f g : Nat → UInt8} (h : Lies K w D s cs t ct lv' fv' x) (hf : Falls w wr D s cs t ct lv fv x f g)
    (hz : wz.heap[D]? = some (.cells #[.slice (some ⟨s, 0, none⟩) x.n cs, .slice (some ⟨t, 0, none⟩) x.n ct, .slice none 0 0, .pointer none, .bool true, .int .i64 (x.done : Int)] 69 (0, 0))) (ho : ∀ i, i ≠ D → wz.heap[i]? = wr.heap[i]?)
    (he : wz.os = wr.os ∧ wz.tape = wr.tape ∧ wz.output = wr.output) (hs : wr.heap.size ≤ wz.heap.size) :
    DiskSays K w D (.tuple #[]) { x with safe := f, now := g, loose := [], fuse := none, away := true } (.returned (.tuple #[])) wz :=
  ⟨rfl, ⟨s, cs, t, ct, .slice none 0 0, .pointer none, hz, hf.sr.of_block (ho s hf.ds.symm), hf.tr.of_block (ho t hf.dt.symm), hf.ne, h.cs, h.ct, World.ownsRow_nil _ _ _ _, rfl, fun y hy => (by cases hy), h.nb, h.kD, h.ks, h.kt, fun g hg => (by cases hg)⟩,
    ⟨he.1.trans hf.os, he.2.1.trans hf.tape, he.2.2.trans hf.output, Nat.le_trans hf.size hs, fun i hi hk => (ho i (fun e => hk (by rw [e]; exact h.kD))).trans (hf.block i hi (fun e => hk (by rw [e]; exact h.ks)) (fun e => hk (by rw [e]; exact h.kt)))⟩⟩
/-- The last three stores. -/
theorem falls_stores {K : Nat → Prop} {w wr : World} {D s cs t ct : Nat} {lv lv' fv fv' : Value} {x : St} {f g : Nat → UInt8} (h : Lies K w D s cs t ct lv' fv' x) (hf : Falls w wr D s cs t ct lv fv x f g) :
    DiskSays K w D (.tuple #[]) { x with safe := f, now := g, loose := [], fuse := none, away := true } (.returned (.tuple #[])) (((wr.setCell ⟨D, 2, none⟩ (.slice none 0 0)).setCell ⟨D, 3, none⟩ (.pointer none)).setCell ⟨D, 4, none⟩ (.bool true)) := by
  refine falls_end h hf ?_ ?_ ⟨rfl, rfl, rfl⟩ (by simp [World.setCell])
  · have h1 := heap_setCell_same wr D 2 _ _ (.slice none 0 0) hf.hd
    have h2 := heap_setCell_same _ D 3 _ _ (.pointer none) h1
    exact heap_setCell_same _ D 4 _ _ (.bool true) h2
  · intro i hi
    rw [heap_setCell_other _ ⟨D, 4, none⟩ i _ hi, heap_setCell_other _ ⟨D, 3, none⟩ i _ hi, heap_setCell_other _ ⟨D, 2, none⟩ i _ hi]
theorem fall_eq (x : St) (kl : List Bool) (L : List Wr) (m : Nat) (hL : L = x.loose) (hm : m = L.length) :
    x.fall kl = { x with safe := fs x.safe L (kp kl) m, now := fn (fs x.safe L (kp kl) m) x.now L m, loose := [], fuse := none, away := true } := by subst hm hL; rfl
set_option maxRecDepth 100000 in
set_option maxHeartbeats 3200000 in
theorem disk_fall (K : Nat → Prop) (w : World) (D s cs t ct : Nat) (lv fv : Value) (x : St) (h : Lies K w D s cs t ct lv fv x) (hl : x.loose.length ≤ 1073741824) (kv : Value) (kl : List Bool) (hkl : kl.length ≤ 1099511627776) (hk : BoolsAt w kv kl)
    (hkk : ∀ w' : World, (∀ i, i < w.heap.size → i ≠ s → i ≠ t → w'.heap[i]? = w.heap[i]?) → BoolsAt w' kv kl) :
    Calls Tryd.prog 43 #[.pointer (some ⟨D, 0, none⟩), kv] w (DiskSays K w D (.tuple #[]) (x.fall kl)) := by
  have H := Lib.hid h
  have HK := Lib.hid hkk
  have hD := h.lt
  have hcell := h.cell
  have c2 : w.cell? ⟨D, 2, none⟩ = some lv := hcell 2
  clear hcell
  clear h hkk
  obtain ⟨ka, kc, rfl⟩ : ∃ ka kc, kv = .slice ka kl.length kc := by
    rcases hk with ⟨rfl, a, c, rfl⟩ | ⟨b, o, c, rfl, _⟩
    · exact ⟨a, c, rfl⟩
    · exact ⟨_, _, rfl⟩
  clear hk
  have hkT : ∀ w' : World, (∀ i, i < w.heap.size → i ≠ s → i ≠ t → w'.heap[i]? = w.heap[i]?) → ∀ k, k < kl.length → ∃ b o, ka = some ⟨b, o, none⟩ ∧ kl.length ≤ kc ∧ w'.cell? ⟨b, o + k, none⟩ = some (.bool (kp kl k)) := fun w' h' k hkl => by
    rcases HK.out w' h' with ⟨rfl, _⟩ | ⟨b, o, c, he, hc, hx⟩
    · cases hkl
    · injection he with h1 h2 h3
      refine ⟨b, o, h1, by rw [h3]; exact hc, hx k _ ?_⟩
      unfold kp
      rw [List.getD_eq_getElem?_getD, List.getElem?_eq_getElem hkl]
      rfl
  have HKT := Lib.hid hkT
  clear hkT HK
  rcases loose_form H.out.lo with ⟨rfl, hn⟩ | ⟨g, c, rfl⟩
  · have hL0 : x.loose = [] := List.length_eq_zero_iff.1 hn
    have HE := Lib.hid (fall_eq x kl [] 0 hL0.symm rfl)
    have HF := Lib.hid (Falls.start H.out)
    clear HKT
    go_enter Tryd.func43, Tryd.ntmps43
    go_wp2_with (fail)
    go_loopw [13] (fun i wr => i = .int .i64 0 ∧ w = wr) (fun _ _ => 0)
    case atStart => exact ⟨rfl, rfl⟩
    case round =>
      obtain ⟨rfl, rfl⟩ := hrel
      go_wp2_with (fail)
      go_loopw [43] (fun i wr => i = .int .i64 0 ∧ w = wr) (fun _ _ => 0)
      case atStart => exact ⟨rfl, rfl⟩
      case round =>
        obtain ⟨rfl, rfl⟩ := hrel
        have HFS := Lib.hid (falls_stores H.out HF.out)
        have f2 : w.frozen? ⟨D, 2, none⟩ = false := H.out.fz 2
        have f3 : w.frozen? ⟨D, 3, none⟩ = false := H.out.fz 3
        have f4 : w.frozen? ⟨D, 4, none⟩ = false := H.out.fz 4
        have d3 : w.cell? ⟨D, 3, none⟩ = some fv := H.out.cell 3
        have d4 : w.cell? ⟨D, 4, none⟩ = some (.bool x.away) := H.out.cell 4
        go_wp2_with (fail)
        go_end0
        rw [HE.out]
        exact HFS.out
  obtain ⟨L, hL⟩ : ∃ L, L = x.loose := ⟨_, rfl⟩
  have HOW := Lib.hid (show w.ownsRow 0 83 33 (.slice (some ⟨g, 0, none⟩) L.length c) L.length (lcells L) by rw [hL]; exact H.out.lo)
  have hgl : g < w.heap.size := (H.out.lo.lt g rfl).2
  have hgs : g ≠ s := H.out.neLs g rfl
  have hgt : g ≠ t := H.out.neLt g rfl
  have HLN := Lib.hid (show ∀ y ∈ L, y.1 < x.n by rw [hL]; exact H.out.pl)
  have HF := Lib.hid (Falls.start H.out)
  rw [← hL] at c2 hl HF
  have HL := Lib.hid hL
  clear hL
  obtain ⟨m, hm⟩ : ∃ m, m = L.length := ⟨_, rfl⟩
  rw [← hm] at c2 hl HF
  have HM := Lib.hid hm
  clear hm
  go_enter Tryd.func43, Tryd.ntmps43
  go_wp2_with (fail)
  go_loopw [13] (fun i wr => ∃ k : Nat, i = .int .i64 (k : Int) ∧ k ≤ m ∧ Falls w wr D s cs t ct (.slice (some ⟨g, 0, none⟩) m c) fv x (fs x.safe L (kp kl) k) x.now) (fun i _ => match i with | .int _ k => m - k.toNat | _ => 0)
  case atStart => exact ⟨0, rfl, Nat.zero_le _, HF.out⟩
  case round =>
    clear HF c2
    obtain ⟨k, rfl, hkm, hf⟩ := hrel
    have HF := Lib.hid hf
    clear hf
    by_cases hlt : k < m
    · have hRG : wr.rangeAt g (k * 33) (wcells (L.getD k noWr)) := own_range (own_keep HOW.out (fun i hi => by cases hi; exact HF.out.block g hgl hgs hgt)) k (by rw [← HM.out]; exact hlt)
      have HRG := Lib.hid hRG
      have hpl : (L.getD k noWr).1 < x.n := HLN.out _ (by rw [List.getD_eq_getElem?_getD, List.getElem?_eq_getElem (by rw [← HM.out]; exact hlt)]; exact List.getElem_mem _)
      have HNX := Lib.hid (show fs x.safe L (kp kl) (k + 1) = if kp kl k then putS (fs x.safe L (kp kl) k) (L.getD k noWr).1 (L.getD k noWr).2 else fs x.safe L (kp kl) k from rfl)
      clear hRG
      generalize L.getD k noWr = y at HRG hpl HNX
      have x0 : (k : Int) < (m : Int) := by omega
      have x1 : decide ((k : Int) < (m : Int)) = true := decide_eq_true x0
      have x2 : (0 : Int) ≤ (k : Int) := by omega
      have HWI := Lib.hid (show (Tryd.prog.info? 83).map (·.size) = some (wcells y).length by rw [wcells_length]; exact sizeW)
      have HWA := Lib.hid (show (Tryd.prog.info? 83).map (·.size) = some (wrA y).size by rw [wrA_size]; exact sizeW)
      have HWO := Lib.hid (wrA_one y)
      have HFV := Lib.hid (fun z => falls_var HF.out z y)
      have hD2 : D < wr.heap.size := (Array.getElem?_eq_some_iff.1 HF.out.hd).1
      have hs2 : s < wr.heap.size := HF.out.sr.lt
      by_cases hkk : k < kl.length
      · obtain ⟨b, o, rfl, hkc, _⟩ := HKT.out wr (fun i hi h1 h2 => HF.out.block i hi h1 h2) k hkk
        have HK2 := Lib.hid (show ∀ w' : World, (∀ i, i < w.heap.size → i ≠ s → i ≠ t → w'.heap[i]? = w.heap[i]?) → w'.cell? ⟨b, o + k, none⟩ = some (.bool (kp kl k)) from fun w' h' => by
          obtain ⟨b', o', he, _, hx⟩ := HKT.out w' h' k hkk
          injection he with he
          injection he with h1 h2
          subst h1 h2
          exact hx)
        have y0 : (k : Int) < (kl.length : Int) := by omega
        have y1 : decide ((k : Int) < (kl.length : Int)) = true := decide_eq_true y0
        cases hkp : kp kl k with
        | true =>
          rw [hkp] at HK2 HNX
          rw [if_pos rfl] at HNX
          have HSI := Lib.hid (show (Tryd.prog.info? 63).map (·.size) = some (secL y.2).length by rw [secL_length]; exact sizeS)
          have HSA := Lib.hid (show (Tryd.prog.info? 63).map (·.size) = some (secL y.2).toArray.size by rw [List.size_toArray, secL_length]; exact sizeS)
          have HSO := Lib.hid (show (secL y.2).toArray.all (·.oneCell') = true by rw [secA_list]; exact secA_one y.2)
          go_wp2_with (first
            | (with_reducible refine wpList_load_mid rfl 83 _ rfl g (k * 33) rfl (wcells y) _ HRG.out Tryd.underlying83 rfl HWI.out ?_)
            | (refine wpList_store_row rfl 83 (.tmp 5) (.tmp 17) rfl wr.heap.size (wrA y) rfl rfl 83 _ (heap_alloc_new _ _) HWA.out (by rw [wrA_size]; rfl) HWO.out ?_
               refine gen_list (fun W => Falls w W D s cs t ct (.slice (some ⟨g, 0, none⟩) m c) fv x (fs x.safe L (kp kl) k) x.now ∧ WrAt W wr.heap.size y) (HFV.out _) ?_
               rintro w5 ⟨h5, v5⟩
               have k5 := HK2.out w5 (fun i hi h1 h2 => h5.block i hi h1 h2)
               have d5 : w5.cell? ⟨D, 0, none⟩ = some (.slice (some ⟨s, 0, none⟩) x.n cs) := h5.cell 0
               have p5 := v5.place
               have H5 := Lib.hid h5
               have V5 := Lib.hid v5
               clear h5 v5))
          have q0 : 0 ≤ (y.1 : Int) := by omega
          have q1 : (y.1 : Int) < (x.n : Int) := by omega
          have H5d := Lib.hid H5.out.drew
          have V5d := Lib.hid (show WrAt w5.drew wr.heap.size y from V5.out)
          go_still_tail 9, (by kernel_rfl)
          refine wpStill_load_midK (by rfl) 63 (.tmp 34) rfl wr.heap.size 1 rfl (secL y.2) _ V5d.out.bytes Tryd.underlying63 rfl HSI.out ?_
          repeat still_step
          refine wpStill_nil ?_
          change wpList _ _ _ _ _ w5.drew
          clear k5 d5 p5 H5 V5
          generalize w5.drew = w6 at H5d V5d ⊢
          have d6 : w6.cell? ⟨D, 0, none⟩ = some (.slice (some ⟨s, 0, none⟩) x.n cs) := H5d.out.cell 0
          have p6 := V5d.out.place
          have HTH := Lib.hid (show w6.there s (y.1 * 32) (secL y.2).toArray.size by rw [List.size_toArray, secL_length]; exact H5d.out.sr.there hpl)
          have HPF := Lib.hid (H5d.out.putF hpl y.2)
          refine wpList_store_mid rfl 63 (.tmp 36) (.tmp 35) rfl s (y.1 * 32) (secL y.2).toArray rfl rfl HTH.out HSA.out HSO.out ?_
          refine gen_list (fun W => Falls w W D s cs t ct (.slice (some ⟨g, 0, none⟩) m c) fv x (putS (fs x.safe L (kp kl) k) y.1 y.2) x.now) HPF.out ?_
          rintro w7 h7
          have H7 := Lib.hid h7
          clear h7 HPF HTH H5d V5d d6 p6
          go_wp2_with (fail)
          exact ⟨⟨k + 1, rfl, by omega, by rw [HNX.out]; exact H7.out⟩, by show m - ((k : Int) + 1).toNat < m - (k : Int).toNat; omega⟩
        | false =>
          rw [hkp] at HK2 HNX
          rw [if_neg Bool.false_ne_true] at HNX
          go_wp2_with (first
            | (with_reducible refine wpList_load_mid rfl 83 _ rfl g (k * 33) rfl (wcells y) _ HRG.out Tryd.underlying83 rfl HWI.out ?_)
            | (refine wpList_store_row rfl 83 (.tmp 5) (.tmp 17) rfl wr.heap.size (wrA y) rfl rfl 83 _ (heap_alloc_new _ _) HWA.out (by rw [wrA_size]; rfl) HWO.out ?_
               refine gen_list (fun W => Falls w W D s cs t ct (.slice (some ⟨g, 0, none⟩) m c) fv x (fs x.safe L (kp kl) k) x.now) (HFV.out _).1 ?_
               rintro w5 h5
               have k5 := HK2.out w5 (fun i hi h1 h2 => h5.block i hi h1 h2)
               have H5 := Lib.hid h5
               clear h5))
          exact ⟨⟨k + 1, rfl, by omega, by rw [HNX.out]; exact H5.out⟩, by show m - ((k : Int) + 1).toNat < m - (k : Int).toNat; omega⟩
      · have y0 : ¬ (k : Int) < (kl.length : Int) := by omega
        have y1 : decide ((k : Int) < (kl.length : Int)) = false := decide_eq_false y0
        have hkp : kp kl k = false := by unfold kp; rw [List.getD_eq_getElem?_getD, List.getElem?_eq_none (by omega)]; rfl
        rw [hkp, if_neg Bool.false_ne_true] at HNX
        clear hkp
        go_wp2_with (first
          | (with_reducible refine wpList_load_mid rfl 83 _ rfl g (k * 33) rfl (wcells y) _ HRG.out Tryd.underlying83 rfl HWI.out ?_)
          | (refine wpList_store_row rfl 83 (.tmp 5) (.tmp 17) rfl wr.heap.size (wrA y) rfl rfl 83 _ (heap_alloc_new _ _) HWA.out (by rw [wrA_size]; rfl) HWO.out ?_))
        exact ⟨⟨k + 1, rfl, by omega, by rw [HNX.out]; exact (HFV.out _).1⟩, by show m - ((k : Int) + 1).toNat < m - (k : Int).toNat; omega⟩
    · have hke : k = m := by omega
      subst hke
      have x0 : ¬ (k : Int) < (k : Int) := by omega
      have x1 : decide ((k : Int) < (k : Int)) = false := decide_eq_false x0
      have d2 : wr.cell? ⟨D, 2, none⟩ = some (.slice (some ⟨g, 0, none⟩) k c) := HF.out.cell 2
      clear hlt x0
      have HE := Lib.hid (fall_eq x kl L k HL.out HM.out)
      have HF0 := Lib.hid HF.out
      clear HKT HF
      go_wp2_with (fail)
      clear d2
      obtain ⟨F, hF⟩ : ∃ F, F = fs x.safe L (kp kl) k := ⟨_, rfl⟩
      rw [← hF] at HE HF0
      clear hF
      go_loopw [43] (fun i wy => ∃ q : Nat, i = .int .i64 (q : Int) ∧ q ≤ k ∧ Falls w wy D s cs t ct (.slice (some ⟨g, 0, none⟩) k c) fv x F (fn F x.now L q)) (fun i _ => match i with | .int _ q => k - q.toNat | _ => 0)
      case atStart => exact ⟨0, rfl, Nat.zero_le _, HF0.out⟩
      case round =>
        clear HF0 x1
        obtain ⟨q, rfl, hqk, hf⟩ := hrel
        have HF := Lib.hid hf
        clear hf
        by_cases hlt : q < k
        · have hRG : wr.rangeAt g (q * 33) (wcells (L.getD q noWr)) := own_range (own_keep HOW.out (fun i hi => by cases hi; exact HF.out.block g hgl hgs hgt)) q (by rw [← HM.out]; exact hlt)
          have HRG := Lib.hid hRG
          have hpl : (L.getD q noWr).1 < x.n := HLN.out _ (by rw [List.getD_eq_getElem?_getD, List.getElem?_eq_getElem (by rw [← HM.out]; exact hlt)]; exact List.getElem_mem _)
          have HNX := Lib.hid (show fn F x.now L (q + 1) = putS (fn F x.now L q) (L.getD q noWr).1 (sect F (L.getD q noWr).1) from rfl)
          clear hRG
          generalize L.getD q noWr = y at HRG hpl HNX
          have x0 : (q : Int) < (k : Int) := by omega
          have x1 : decide ((q : Int) < (k : Int)) = true := decide_eq_true x0
          have x2 : (0 : Int) ≤ (q : Int) := by omega
          have HWI := Lib.hid (show (Tryd.prog.info? 83).map (·.size) = some (wcells y).length by rw [wcells_length]; exact sizeW)
          have HWA := Lib.hid (show (Tryd.prog.info? 83).map (·.size) = some (wrA y).size by rw [wrA_size]; exact sizeW)
          have HWO := Lib.hid (wrA_one y)
          have HFV := Lib.hid (fun z => falls_var HF.out z y)
          have hD2 : D < wr.heap.size := (Array.getElem?_eq_some_iff.1 HF.out.hd).1
          have HSI := Lib.hid (show (Tryd.prog.info? 63).map (·.size) = some (secL (sect F y.1)).length by rw [secL_length]; exact sizeS)
          have HSA := Lib.hid (show (Tryd.prog.info? 63).map (·.size) = some (secL (sect F y.1)).toArray.size by rw [List.size_toArray, secL_length]; exact sizeS)
          have HSO := Lib.hid (show (secL (sect F y.1)).toArray.all (·.oneCell') = true by rw [secA_list]; exact secA_one _)
          go_wp2_with (first
            | (with_reducible refine wpList_load_mid rfl 83 _ rfl g (q * 33) rfl (wcells y) _ HRG.out Tryd.underlying83 rfl HWI.out ?_)
            | (refine wpList_store_row rfl 83 (.tmp 7) (.tmp 46) rfl wr.heap.size (wrA y) rfl rfl 83 _ (heap_alloc_new _ _) HWA.out (by rw [wrA_size]; rfl) HWO.out ?_
               refine gen_list (fun W => Falls w W D s cs t ct (.slice (some ⟨g, 0, none⟩) k c) fv x F (fn F x.now L q) ∧ WrAt W wr.heap.size y) (HFV.out _) ?_
               rintro w5 ⟨h5, v5⟩
               have d5 : w5.cell? ⟨D, 0, none⟩ = some (.slice (some ⟨s, 0, none⟩) x.n cs) := h5.cell 0
               have e5 : w5.cell? ⟨D, 1, none⟩ = some (.slice (some ⟨t, 0, none⟩) x.n ct) := h5.cell 1
               have p5 := v5.place
               have H5 := Lib.hid h5
               have V5 := Lib.hid v5
               clear h5 v5))
          have q0 : 0 ≤ (y.1 : Int) := by omega
          have q1 : (y.1 : Int) < (x.n : Int) := by omega
          have H5d := Lib.hid H5.out.drew
          go_still_tail 15, (by kernel_rfl)
          refine wpStill_load_midK (by rfl) 63 (.tmp 59) rfl s (y.1 * 32) rfl (secL (sect F y.1)) _ (H5d.out.sr.range hpl) Tryd.underlying63 rfl HSI.out ?_
          repeat still_step
          refine wpStill_nil ?_
          change wpList _ _ _ _ _ w5.drew
          clear d5 e5 p5 H5 V5
          generalize w5.drew = w6 at H5d ⊢
          have HTH := Lib.hid (show w6.there t (y.1 * 32) (secL (sect F y.1)).toArray.size by rw [List.size_toArray, secL_length]; exact H5d.out.tr.there hpl)
          have HPF := Lib.hid (H5d.out.putG hpl (sect F y.1))
          refine wpList_store_mid rfl 63 (.tmp 61) (.tmp 60) rfl t (y.1 * 32) (secL (sect F y.1)).toArray rfl rfl HTH.out HSA.out HSO.out ?_
          refine gen_list (fun W => Falls w W D s cs t ct (.slice (some ⟨g, 0, none⟩) k c) fv x F (putS (fn F x.now L q) y.1 (sect F y.1))) HPF.out ?_
          rintro w7 h7
          have H7 := Lib.hid h7
          clear h7 HPF HTH H5d
          go_wp2_with (fail)
          exact ⟨⟨q + 1, rfl, by omega, by rw [HNX.out]; exact H7.out⟩, by show k - ((q : Int) + 1).toNat < k - (q : Int).toNat; omega⟩
        · have hke : q = k := by omega
          subst hke
          have x0 : ¬ (q : Int) < (q : Int) := by omega
          have x1 : decide ((q : Int) < (q : Int)) = false := decide_eq_false x0
          have HFS := Lib.hid (falls_stores H.out HF.out)
          have f2 : wr.frozen? ⟨D, 2, none⟩ = false := frozen_of_row wr D 2 _ _ HF.out.hd
          have f3 : wr.frozen? ⟨D, 3, none⟩ = false := frozen_of_row wr D 3 _ _ HF.out.hd
          have f4 : wr.frozen? ⟨D, 4, none⟩ = false := frozen_of_row wr D 4 _ _ HF.out.hd
          have d2 : wr.cell? ⟨D, 2, none⟩ = some (.slice (some ⟨g, 0, none⟩) q c) := HF.out.cell 2
          have d3 : wr.cell? ⟨D, 3, none⟩ = some fv := HF.out.cell 3
          have d4 : wr.cell? ⟨D, 4, none⟩ = some (.bool x.away) := HF.out.cell 4
          clear hlt x0
          go_wp2_with (fail)
          go_end0
          rw [HE.out]
          exact HFS.out
end Go.Proofs.YtegehfdjchmgcaaDoor
namespace Go.Proofs.YtegehfdjchmgcaaDoor
open Go.ChangeShapes Go.WideShapes Go.ChangeAt Go.RowKit Dk

/-- The disk's own block and its fuse's written anew, all else as it was. -/
theorem Lies.refuse {K : Nat → Prop} {w w' : World} {D s cs t ct : Nat} {lv fv fv' : Value} {x y : St} (h : Lies K w D s cs t ct lv fv x) (hh : w'.heap[D]? = some (.cells #[.slice (some ⟨s, 0, none⟩) x.n cs, .slice (some ⟨t, 0, none⟩) x.n ct, lv, fv', .bool y.away, .int .i64 (y.done : Int)] 69 (0, 0)))
    (hf : FuseAt K w' fv' y.fuse) (ho : ∀ (i : Nat) (c : Array Value) (u : TypeId), i ≠ D → u ≠ 104 → w.heap[i]? = some (.cells c u (0, 0)) → w'.heap[i]? = w.heap[i]?) (h1 : y.n = x.n) (h2 : y.safe = x.safe) (h3 : y.now = x.now) (h4 : y.loose = x.loose) : Lies K w' D s cs t ct lv fv' y := by
  obtain ⟨n, sa, no, lo, fu, aw, dn⟩ := y
  subst h1 h2 h3 h4
  refine ⟨hh, ?_, ?_, h.ne, h.cs, h.ct, own_keep h.lo (fun g hg => ?_), hf, h.pl, h.nb, h.kD, h.ks, h.kt, h.kl⟩
  · obtain ⟨c, hc, _⟩ := h.sr
    exact h.sr.of_block (ho s c _ h.neDs.symm (by decide) hc)
  · obtain ⟨c, hc, _⟩ := h.tr
    exact h.tr.of_block (ho t c _ h.neDt.symm (by decide) hc)
  · obtain ⟨c, hc⟩ := own_type h.lo g hg
    exact ho g c _ (h.neLD g hg) (by decide) hc
/-- A fuse's bools stay, whatever is written into the disk's rows. -/
theorem fuse_bools {K : Nat → Prop} {w : World} {D s cs t ct : Nat} {lv fv : Value} {x : St} (h : Lies K w D s cs t ct lv fv x) {kv : Value} {kl : List Bool} (hk : OwnBools K w kv kl) :
    ∀ w' : World, (∀ i, i < w.heap.size → i ≠ s → i ≠ t → w'.heap[i]? = w.heap[i]?) → BoolsAt w' kv kl := fun w' he => by
  obtain ⟨c, hc, _⟩ := h.sr
  obtain ⟨d, hd, _⟩ := h.tr
  exact (hk.keepT (fun i cur hi => he i (Array.getElem?_eq_some_iff.1 hi).1 (ne_type hi hc (by decide)) (ne_type hi hd (by decide)))).at_
section
variable (K : Nat → Prop) (w : World) (D : Nat) (x : St)
set_option maxHeartbeats 800000 in
theorem disk_burn_none (h : DiskAt K w D x) (hf : x.fuse = none) (hd : x.done < 4611686018427387904) :
    Calls Tryd.prog 41 #[.pointer (some ⟨D, 0, none⟩)] w (DiskSays K w D (.int .i64 0) x.burnt) := by
  obtain ⟨s, cs, t, ct, lv, fv, h⟩ := h
  have hfu := h.fu
  rw [hf] at hfu
  obtain rfl : fv = .pointer none := hfu
  have H := Lib.hid h
  have c3 : w.cell? ⟨D, 3, none⟩ = some (.pointer none) := h.cell 3
  have c5 : w.cell? ⟨D, 5, none⟩ = some (.int .i64 (x.done : Int)) := h.cell 5
  have f5 := h.fz 5
  have e1 : IntKind.i64.wrap ((x.done : Int) + 1) = (x.done : Int) + 1 := IntWalk.i64_in _ (by omega)
  have HH := Lib.hid (show Lies K (w.setCell ⟨D, 5, none⟩ (.int .i64 ((x.done : Int) + 1))) D s cs t ct lv (.pointer none) x.burnt from
    h.refuse (y := x.burnt) (heap_setCell_same w D 5 _ _ _ h.hd) (by show FuseAt K _ _ (x.fuse.map _); rw [hf]; rfl) (fun i c u hi _ _ => heap_setCell_other w ⟨D, 5, none⟩ i _ hi) rfl rfl rfl rfl)
  have HK := Lib.hid ((Kept.refl K w).setCell (a := ⟨D, 5, none⟩) (.inl h.kD) (.int .i64 ((x.done : Int) + 1)))
  clear h hf hd
  generalize (x.done : Int) = dn at c5 e1 HH HK
  go_enter Tryd.func41, Tryd.ntmps41
  go_wp2_with (fail)
  refine bodyPost_ret (results_tmp rfl _ _ _) rfl ?_
  exact ⟨rfl, ⟨s, cs, t, ct, lv, _, HH.out⟩, HK.out⟩
set_option maxHeartbeats 800000 in
theorem disk_burn_some (h : DiskAt K w D x) (l : Nat) (kl : List Bool) (hf : x.fuse = some (l + 1, kl)) (hd : x.done < 4611686018427387904) :
    Calls Tryd.prog 41 #[.pointer (some ⟨D, 0, none⟩)] w (DiskSays K w D (.int .i64 0) x.burnt) := by
  obtain ⟨s, cs, t, ct, lv, fv, h⟩ := h
  have hfu := h.fu
  rw [hf] at hfu
  obtain ⟨fb, kv, rfl, hfb, hkv, hlt, hkf⟩ := hfu
  have H := Lib.hid h
  have c3 : w.cell? ⟨D, 3, none⟩ = some (.pointer (some ⟨fb, 0, none⟩)) := h.cell 3
  have c5 : w.cell? ⟨D, 5, none⟩ = some (.int .i64 (x.done : Int)) := h.cell 5
  have f5 := h.fz 5
  have g0 : w.cell? ⟨fb, 0, none⟩ = some (.int .i64 ((l + 1 : Nat) : Int)) := cell_of_row w fb 0 _ _ _ hfb
  have z0 : w.frozen? ⟨fb, 0, none⟩ = false := frozen_of_row w fb 0 _ _ hfb
  have e1 : IntKind.i64.wrap ((x.done : Int) + 1) = (x.done : Int) + 1 := IntWalk.i64_in _ (by omega)
  have e2 : IntKind.i64.wrap (((l + 1 : Nat) : Int) - 1) = (l : Int) := (IntWalk.i64_in _ (by omega)).trans (by omega)
  have e3 : ¬ ((l + 1 : Nat) : Int) = 0 := by omega
  have e4 : (((l + 1 : Nat) : Int) == 0) = false := beq_eq_false_iff_ne.2 e3
  have hne : D ≠ fb := ne_type h.hd hfb (by decide)
  have n1 : (⟨fb, 0, none⟩ : Addr) ≠ ⟨D, 5, none⟩ := fun e => by injection e with e; exact hne e.symm
  have HH := Lib.hid (show Lies K ((w.setCell ⟨fb, 0, none⟩ (.int .i64 (l : Int))).setCell ⟨D, 5, none⟩ (.int .i64 ((x.done : Int) + 1))) D s cs t ct lv (.pointer (some ⟨fb, 0, none⟩)) x.burnt by
    have hD1 : (w.setCell ⟨fb, 0, none⟩ (.int .i64 (l : Int))).heap[D]? = w.heap[D]? := heap_setCell_other w ⟨fb, 0, none⟩ D _ hne
    have ho : ∀ i, i ≠ D → i ≠ fb → ((w.setCell ⟨fb, 0, none⟩ (.int .i64 (l : Int))).setCell ⟨D, 5, none⟩ (.int .i64 ((x.done : Int) + 1))).heap[i]? = w.heap[i]? := fun i hi hj => by
      rw [heap_setCell_other _ ⟨D, 5, none⟩ i _ hi, heap_setCell_other w ⟨fb, 0, none⟩ i _ hj]
    refine h.refuse (y := x.burnt) (heap_setCell_same _ D 5 _ _ _ (hD1.trans h.hd)) ?_ (fun i c u hi hu hc => ho i hi (ne_type hc hfb hu)) rfl rfl rfl rfl
    show FuseAt K _ _ (x.fuse.map _)
    rw [hf]
    refine ⟨fb, kv, rfl, ?_, hkv.keepT (fun i cur hi => ho i (ne_type hi h.hd (by decide)) (ne_type hi hfb (by decide))), by omega, hkf⟩
    rw [heap_setCell_other _ ⟨D, 5, none⟩ fb _ hne.symm]
    exact heap_setCell_same w fb 0 _ _ _ hfb)
  have HK := Lib.hid (((Kept.refl K w).setCell (a := ⟨fb, 0, none⟩) (.inl hkf) (.int .i64 (l : Int))).setCell (a := ⟨D, 5, none⟩) (.inl h.kD) (.int .i64 ((x.done : Int) + 1)))
  clear h hf hd hkv hfb hlt
  generalize (x.done : Int) = dn at c5 e1 HH HK
  generalize ((l + 1 : Nat) : Int) = l1 at g0 e2 e3 e4
  go_enter Tryd.func41, Tryd.ntmps41
  go_wp2_with (fail)
  refine bodyPost_ret (results_tmp rfl _ _ _) rfl ?_
  exact ⟨rfl, ⟨s, cs, t, ct, lv, _, HH.out⟩, HK.out⟩
set_option maxHeartbeats 800000 in
theorem disk_burn_end (h : DiskAt K w D x) (kl : List Bool) (hf : x.fuse = some (0, kl)) (hl : x.loose.length ≤ 1073741824) (hkl : kl.length ≤ 1099511627776) :
    Calls Tryd.prog 41 #[.pointer (some ⟨D, 0, none⟩)] w (DiskSays K w D (.int .i64 4) (x.fall kl)) := by
  obtain ⟨s, cs, t, ct, lv, fv, h⟩ := h
  have hfu := h.fu
  rw [hf] at hfu
  obtain ⟨fb, kv, rfl, hfb, hkv, hlt, hkf⟩ := hfu
  have HFA := Lib.hid (disk_fall K w D s cs t ct lv _ x h hl kv kl hkl hkv.at_ (fuse_bools h hkv))
  have c3 : w.cell? ⟨D, 3, none⟩ = some (.pointer (some ⟨fb, 0, none⟩)) := h.cell 3
  have g0 : w.cell? ⟨fb, 0, none⟩ = some (.int .i64 0) := cell_of_row w fb 0 _ _ _ hfb
  have g1 : w.cell? ⟨fb, 1, none⟩ = some kv := cell_of_row w fb 1 _ _ _ hfb
  have o1 : ∃ a n c, kv = .slice a n c := by
    rcases hkv with ⟨_, rfl⟩ | ⟨kb, c, cur, rfl, _⟩
    · exact ⟨_, _, _, rfl⟩
    · exact ⟨_, _, _, rfl⟩
  obtain ⟨a, n, c, rfl⟩ := o1
  clear h hf hkv hfb hlt
  go_enter Tryd.func41, Tryd.ntmps41
  go_wp2_with (fail)
  refine HFA.out.mono ?_
  rintro e w1 ⟨rfl, h1, h2⟩
  have H1 := Lib.hid h1
  have H2 := Lib.hid h2
  clear h1 h2 HFA
  go_wp2
  refine bodyPost_ret (results_tmp rfl _ _ _) rfl ?_
  exact ⟨rfl, H1.out, H2.out⟩
end
end Go.Proofs.YtegehfdjchmgcaaDoor
