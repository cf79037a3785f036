/-
  A disk's sectors, as they are safe and as they were written last, and the writes that aren't safe: in plain words, and where they lie. No program's function here. No conditions.
  A slice literal without elements. No program here. No conditions.
  Package disk: a new one of zeros, and one over a row of sectors. Conditions: from none to 4096 sectors.
-/
import Derived.Test.YtnmgkkjnjllpbaaGreatDoorMg1
import Derived.Deep.MidRow
import Derived.Laws.AppendOwn
import Derived.Laws.OwnMore
import Derived.OwnWalk
import Derived.Great.BuildSlice
import Derived.Lib.Hide
import Derived.IntWalk
import Derived.WalkKit
import Derived.Lib.LazyBuf
set_option maxRecDepth 100000
namespace Go.Proofs.YtnmgkkjnjllpbaaGreatDoor
open Go Go.RowKit
namespace Dk

/-- A sector's cells. -/
def secA (g : Nat → UInt8) : Array Value := vals 32 fun j => .int .u8 ((g j).toNat : Int)
def secL (g : Nat → UInt8) : List Value := (secA g).toList
theorem secA_size (g : Nat → UInt8) : (secA g).size = 32 := vals_size 32 _
theorem secL_length (g : Nat → UInt8) : (secL g).length = 32 := by unfold secL; rw [Array.length_toList]; exact secA_size g
theorem secL_get (g : Nat → UInt8) (j : Nat) (h : j < 32) : (secL g)[j]? = some (.int .u8 ((g j).toNat : Int)) := by
  unfold secL
  rw [Array.getElem?_toList]
  exact vals_get 32 _ j h
theorem secA_one (g : Nat → UInt8) : (secA g).all (·.oneCell') = true := vals_one fun _ => rfl
theorem secA_list (g : Nat → UInt8) : (secL g).toArray = secA g := by unfold secL; rw [Array.toArray_toList]
theorem secA_congr {f g : Nat → UInt8} (h : ∀ j, j < 32 → f j = g j) : secA f = secA g := vals_congr fun j hj => by rw [h j hj]

/-- The bytes of a sector; all bytes, where a sector is written anew. -/
def sect (f : Nat → UInt8) (p j : Nat) : UInt8 := f (p * 32 + j)
def putS (f : Nat → UInt8) (p : Nat) (g : Nat → UInt8) (k : Nat) : UInt8 := if p * 32 ≤ k ∧ k < p * 32 + 32 then g (k - p * 32) else f k
theorem sect_put_same (f : Nat → UInt8) (p : Nat) (g : Nat → UInt8) (j : Nat) (h : j < 32) : sect (putS f p g) p j = g j := by
  unfold sect putS
  rw [if_pos ⟨by omega, by omega⟩]
  congr 1
  omega
theorem sect_put_other (f : Nat → UInt8) (p q : Nat) (g : Nat → UInt8) (j : Nat) (h : j < 32) (hne : p ≠ q) : sect (putS f p g) q j = sect f q j := by
  unfold sect putS
  rw [if_neg (by omega)]

/-- A write: which sector, and its bytes. -/
abbrev Wr := Nat × (Nat → UInt8)
def noWr : Wr := (0, fun _ => 0)
def wcells (x : Wr) : List Value := .int .i64 (x.1 : Int) :: secL x.2
theorem wcells_length (x : Wr) : (wcells x).length = 33 := by unfold wcells; rw [List.length_cons, secL_length]
def lcells (L : List Wr) : List Value := L.flatMap wcells
theorem lcells_nil : lcells [] = [] := rfl
theorem lcells_append (L M : List Wr) : lcells (L ++ M) = lcells L ++ lcells M := by unfold lcells; rw [List.flatMap_append]
theorem lcells_one (x : Wr) : lcells [x] = wcells x := by unfold lcells; simp
theorem lcells_length (L : List Wr) : (lcells L).length = L.length * 33 := by
  induction L with
  | nil => rfl
  | cons x L ih =>
    have : lcells (x :: L) = wcells x ++ lcells L := rfl
    rw [this, List.length_append, ih, wcells_length, List.length_cons]
    omega
theorem lcells_at (L : List Wr) : ∀ (k : Nat), k < L.length → ∀ j, j < 33 → (lcells L)[k * 33 + j]? = (wcells (L.getD k noWr))[j]? := by
  induction L with
  | nil => intro k h; cases h
  | cons x L ih =>
    intro k h j hj
    have e : lcells (x :: L) = wcells x ++ lcells L := rfl
    rw [e]
    cases k with
    | zero =>
      rw [List.getElem?_append_left (by rw [wcells_length]; omega), Nat.zero_mul, Nat.zero_add]
      rfl
    | succ k =>
      rw [List.getElem?_append_right (by rw [wcells_length]; omega), wcells_length, show (k + 1) * 33 + j - 33 = k * 33 + j by omega, ih k (by simpa using h) j hj]
      rfl
theorem wcells_one (x : Wr) : ∀ u ∈ wcells x, u.oneCell' = true := by
  intro u hu
  rcases List.mem_cons.1 hu with rfl | h
  · rfl
  · exact Array.all_eq_true_iff_forall_mem.1 (secA_one x.2) u (by simpa [secL] using h)

/-- What is safe behind the first k loose writes, of which some are kept. -/
def fs (safe : Nat → UInt8) (L : List Wr) (kp : Nat → Bool) : Nat → Nat → UInt8
  | 0 => safe
  | k + 1 => if kp k then putS (fs safe L kp k) (L.getD k noWr).1 (L.getD k noWr).2 else fs safe L kp k
/-- What is found: each sector that was written is as it is safe. -/
def fn (safe now : Nat → UInt8) (L : List Wr) : Nat → Nat → UInt8
  | 0 => now
  | k + 1 => putS (fn safe now L k) (L.getD k noWr).1 (sect safe (L.getD k noWr).1)
def kp (kl : List Bool) (k : Nat) : Bool := kl.getD k false

/-- A disk. -/
structure St where
  n : Nat
  safe : Nat → UInt8
  now : Nat → UInt8
  loose : List Wr
  fuse : Option (Nat × List Bool)
  away : Bool
  done : Nat
/-- The power goes. -/
def St.fall (x : St) (kl : List Bool) : St :=
  { x with safe := fs x.safe x.loose (kp kl) x.loose.length, now := fn (fs x.safe x.loose (kp kl) x.loose.length) x.now x.loose x.loose.length, loose := [], fuse := none, away := true }
def St.burnt (x : St) : St := { x with fuse := x.fuse.map (fun f => (f.1 - 1, f.2)), done := x.done + 1 }
def St.put (x : St) (p : Nat) (g : Nat → UInt8) : St := { x with now := putS x.now p g, loose := x.loose ++ [(p, g)] }
def St.synced (x : St) : St := { x with safe := fs x.safe x.loose (fun _ => true) x.loose.length, loose := [] }
def St.come (x : St) : St := { x with away := false }
/-- A sector no loose write is of is as it is safe. -/
def St.Sane (x : St) : Prop := ∀ p j, p < x.n → j < 32 → (∀ y ∈ x.loose, y.1 ≠ p) → sect x.now p j = sect x.safe p j
end Dk
open Dk

theorem setCells_size (b : Nat) : ∀ (vs : List Value) (o : Nat) (w : World), (w.setCells b o vs).heap.size = w.heap.size
  | [], _, _ => rfl
  | v :: r, o, w => by rw [World.setCells, setCells_size b r]; simp [World.setCell]
theorem setCells_os (b : Nat) : ∀ (vs : List Value) (o : Nat) (w : World), (w.setCells b o vs).os = w.os ∧ (w.setCells b o vs).tape = w.tape ∧ (w.setCells b o vs).output = w.output
  | [], _, _ => ⟨rfl, rfl, rfl⟩
  | v :: r, o, w => by rw [World.setCells]; exact setCells_os b r (o + 1) _
theorem setCells_other (b k : Nat) (hk : k ≠ b) : ∀ (vs : List Value) (o : Nat) (w : World), (w.setCells b o vs).heap[k]? = w.heap[k]?
  | [], _, _ => rfl
  | v :: r, o, w => by rw [World.setCells, setCells_other b k hk r]; exact heap_setCell_other w ⟨b, o, none⟩ k v hk
theorem setCells_same (b : Nat) (t : TypeId) : ∀ (vs : List Value) (o : Nat) (w : World) (cur : Array Value), w.heap[b]? = some (.cells cur t (0, 0)) → ∃ cur', (w.setCells b o vs).heap[b]? = some (.cells cur' t (0, 0))
  | [], _, _, cur, h => ⟨cur, h⟩
  | v :: r, o, w, cur, h => by rw [World.setCells]; exact setCells_same b t r (o + 1) _ _ (heap_setCell_same w b o cur t v h)

/-- Nothing that was there has turned but what lies in blocks of K. -/
structure Kept (K : Nat → Prop) (w w' : World) : Prop where
  os : w'.os = w.os
  tape : w'.tape = w.tape
  output : w'.output = w.output
  size : w.heap.size ≤ w'.heap.size
  block : ∀ i, i < w.heap.size → ¬ K i → w'.heap[i]? = w.heap[i]?
namespace Kept
variable {K : Nat → Prop} {w w1 w2 : World}
theorem refl (K : Nat → Prop) (w : World) : Kept K w w := ⟨rfl, rfl, rfl, Nat.le_refl _, fun _ _ _ => rfl⟩
theorem trans (h : Kept K w w1) (k : Kept K w1 w2) : Kept K w w2 :=
  ⟨k.os.trans h.os, k.tape.trans h.tape, k.output.trans h.output, Nat.le_trans h.size k.size, fun i hi hb => (k.block i (Nat.lt_of_lt_of_le hi h.size) hb).trans (h.block i hi hb)⟩
theorem drewN (h : Kept K w w1) (n : Nat) : Kept K w (w1.drewN n) := ⟨h.os, h.tape, h.output, h.size, h.block⟩
theorem drew (h : Kept K w w1) : Kept K w w1.drew := ⟨h.os, h.tape, h.output, h.size, h.block⟩
theorem of_below (h : Below w.heap.size w w1) : Kept K w w1 := ⟨h.os, h.tape, h.output, h.size, fun i hi _ => h.block i hi⟩
theorem then_below (h : Kept K w w1) (k : Below w1.heap.size w1 w2) : Kept K w w2 := h.trans (of_below k)
theorem alloc (h : Kept K w w1) (o : Obj) : Kept K w (w1.alloc o) := h.then_below ((Below.refl _ _).alloc (Nat.le_refl _) o)
theorem setCell (h : Kept K w w1) {a : Addr} (ha : K a.block ∨ w.heap.size ≤ a.block) (v : Value) : Kept K w (w1.setCell a v) :=
  ⟨h.os, h.tape, h.output, by simpa [World.setCell] using h.size, fun i hi hb => (heap_setCell_other w1 a i v (fun e => by subst e; rcases ha with ha | ha; exact hb ha; omega)).trans (h.block i hi hb)⟩
theorem setCells (h : Kept K w w1) {b : Nat} (hb : K b ∨ w.heap.size ≤ b) (o : Nat) (vs : List Value) : Kept K w (w1.setCells b o vs) := by
  obtain ⟨h1, h2, h3⟩ := setCells_os b vs o w1
  exact ⟨h1.trans h.os, h2.trans h.tape, h3.trans h.output, by rw [setCells_size]; exact h.size, fun i hi hk => (setCells_other b i (fun e => by subst e; rcases hb with hb | hb; exact hk hb; omega) vs o w1).trans (h.block i hi hk)⟩
theorem grown (h : Kept K w w1) {row : Option Nat} (hg : w1.grownBy w2 row) (hr : ∀ g, row = some g → K g ∨ w.heap.size ≤ g) : Kept K w w2 :=
  ⟨hg.os.trans h.os, hg.tape.trans h.tape, hg.output.trans h.output, Nat.le_trans h.size hg.size, fun i hi hk =>
    (hg.block i (Nat.lt_of_lt_of_le hi h.size) (fun e => by rcases hr i e.symm with h' | h'; exact hk h'; omega)).trans (h.block i hi hk)⟩
theorem below (h : Kept K w w1) {B : Nat} (hB : B ≤ w.heap.size) (hK : ∀ i, i < B → ¬ K i) : Below B w w1 := ⟨h.os, h.tape, h.output, h.size, fun i hi => h.block i (by omega) (hK i hi)⟩
theorem mono (h : Kept K w w1) {K' : Nat → Prop} (hk : ∀ i, K i → K' i) : Kept K' w w1 := ⟨h.os, h.tape, h.output, h.size, fun i hi hn => h.block i hi fun e => hn (hk i e)⟩
end Kept

/-- Bytes of n sectors lie in block b. -/
def Row (w : World) (b n : Nat) (f : Nat → UInt8) : Prop := ∃ cur, w.heap[b]? = some (.cells cur 73 (0, 0)) ∧ ∀ k, k < n * 32 → cur[k]? = some (.int .u8 ((f k).toNat : Int))
namespace Row
variable {w w' : World} {b n : Nat} {f : Nat → UInt8}
theorem lt (h : Row w b n f) : b < w.heap.size := by obtain ⟨_, h, _⟩ := h; exact (Array.getElem?_eq_some_iff.1 h).1
theorem of_block (h : Row w b n f) (e : w'.heap[b]? = w.heap[b]?) : Row w' b n f := by obtain ⟨c, h, k⟩ := h; exact ⟨c, e.trans h, k⟩
theorem cell (h : Row w b n f) (k : Nat) (hk : k < n * 32) : w.cell? ⟨b, k, none⟩ = some (.int .u8 ((f k).toNat : Int)) := by
  obtain ⟨c, h, g⟩ := h
  rw [cell_of_row w b k _ _ _ h]
  exact g k hk
theorem fz (h : Row w b n f) (k : Nat) : w.frozen? ⟨b, k, none⟩ = false := by obtain ⟨c, h, _⟩ := h; exact frozen_of_row w b k _ _ h
theorem range (h : Row w b n f) {p : Nat} (hp : p < n) : w.rangeAt b (p * 32) (secL (sect f p)) := fun j v hj => by
  have hl := (List.getElem?_eq_some_iff.1 hj).1
  rw [secL_length] at hl
  rw [secL_get _ _ hl] at hj
  rw [h.cell _ (by omega), ← hj]
  rfl
theorem there (h : Row w b n f) {p : Nat} (hp : p < n) : w.there b (p * 32) 32 := fun j hj => ⟨by rw [h.cell _ (by omega)]; rfl, h.fz _⟩
theorem put (h : Row w b n f) {p : Nat} (hp : p < n) (g : Nat → UInt8) : Row (w.setCells b (p * 32) (secL g)) b n (putS f p g) := by
  have ht := h.there hp
  have hc := h.cell
  obtain ⟨c, h1, _⟩ := h
  obtain ⟨c', h2⟩ := setCells_same b _ (secL g) (p * 32) w c h1
  refine ⟨c', h2, fun k hk => ?_⟩
  rw [← cell_of_row _ b k _ _ _ h2]
  unfold putS
  by_cases hin : p * 32 ≤ k ∧ k < p * 32 + 32
  · rw [if_pos hin]
    obtain ⟨j, rfl⟩ := Nat.exists_eq_add_of_le hin.1
    rw [World.cell?_setCells_in b (secL g) (p * 32) w (fun i hi => (ht i (by rw [secL_length] at hi; exact hi)).1) j (by rw [secL_length]; omega), ← List.getElem?_eq_getElem, secL_get _ _ (by omega), Nat.add_sub_cancel_left]
  · rw [if_neg hin, World.cell?_setCells_out b _ _ _ _ (fun _ _ => by rw [secL_length]; show k < p * 32 ∨ p * 32 + 32 ≤ k; omega)]
    exact hc k hk
theorem other (h : Row w b n f) {g : Nat} (hne : b ≠ g) (o : Nat) (vs : List Value) : Row (w.setCells g o vs) b n f := h.of_block (setCells_other g b hne vs o w)
theorem congr (h : Row w b n f) {g : Nat → UInt8} (e : ∀ k, k < n * 32 → f k = g k) : Row w b n g := by
  obtain ⟨c, h, k⟩ := h
  exact ⟨c, h, fun i hi => by rw [← e i hi]; exact k i hi⟩
end Row

/-- Bools that lie behind a slice. -/
def BoolsAt (w : World) (kv : Value) (kl : List Bool) : Prop :=
  (kl = [] ∧ ∃ a c, kv = .slice a 0 c) ∨ ∃ b o c, kv = .slice (some ⟨b, o, none⟩) kl.length c ∧ kl.length ≤ c ∧ ∀ j x, kl[j]? = some x → w.cell? ⟨b, o + j, none⟩ = some (.bool x)
/-- Bools of one's own. -/
def OwnBools (K : Nat → Prop) (w : World) (kv : Value) (kl : List Bool) : Prop :=
  (kl = [] ∧ kv = .slice none 0 0) ∨ ∃ (kb c : Nat) (cur : Array Value), kv = .slice (some ⟨kb, 0, none⟩) kl.length c ∧ kl.length ≤ c ∧ w.heap[kb]? = some (.cells cur 4 (0, 0)) ∧ (∀ (j : Nat) (x : Bool), kl[j]? = some x → cur[j]? = some (Value.bool x)) ∧ K kb
theorem OwnBools.at_ {K : Nat → Prop} {w : World} {kv : Value} {kl : List Bool} (h : OwnBools K w kv kl) : BoolsAt w kv kl := by
  rcases h with ⟨rfl, rfl⟩ | ⟨kb, c, cur, rfl, hc, hb, hx, _⟩
  · exact .inl ⟨rfl, _, _, rfl⟩
  · exact .inr ⟨kb, 0, c, rfl, hc, fun j x hj => by rw [Nat.zero_add, cell_of_row w kb j _ _ _ hb]; exact hx j x hj⟩
theorem OwnBools.keep {K : Nat → Prop} {w w' : World} {kv : Value} {kl : List Bool} (h : OwnBools K w kv kl) (he : ∀ i, K i → i < w.heap.size → w'.heap[i]? = w.heap[i]?) : OwnBools K w' kv kl := by
  rcases h with h | ⟨kb, c, cur, rfl, hc, hb, hx, hk⟩
  · exact .inl h
  · exact .inr ⟨kb, c, cur, rfl, hc, (he kb hk (Array.getElem?_eq_some_iff.1 hb).1).trans hb, hx, hk⟩
theorem OwnBools.keepT {K : Nat → Prop} {w w' : World} {kv : Value} {kl : List Bool} (h : OwnBools K w kv kl) (he : ∀ (i : Nat) (cur : Array Value), w.heap[i]? = some (Obj.cells cur 4 (0, 0)) → w'.heap[i]? = w.heap[i]?) : OwnBools K w' kv kl := by
  rcases h with h | ⟨kb, c, cur, rfl, hc, hb, hx, hk⟩
  · exact .inl h
  · exact .inr ⟨kb, c, cur, rfl, hc, (he kb _ hb).trans hb, hx, hk⟩
theorem OwnBools.mono {K K' : Nat → Prop} {w : World} {kv : Value} {kl : List Bool} (h : OwnBools K w kv kl) (hk : ∀ i, K i → K' i) : OwnBools K' w kv kl := by
  rcases h with h | ⟨kb, c, cur, h1, h2, h3, h4, h5⟩
  · exact .inl h
  · exact .inr ⟨kb, c, cur, h1, h2, h3, h4, hk _ h5⟩
/-- A fuse and its own bools. -/
def FuseAt (K : Nat → Prop) (w : World) (fv : Value) : Option (Nat × List Bool) → Prop
  | none => fv = .pointer none
  | some (left, kl) => ∃ (f : Nat) (kv : Value), fv = .pointer (some ⟨f, 0, none⟩) ∧ w.heap[f]? = some (.cells #[.int .i64 (left : Int), kv] 107 (0, 0)) ∧ OwnBools K w kv kl ∧ left < 9223372036854775808 ∧ K f
/-- A disk stands in block D; all its blocks are of K. -/
structure Lies (K : Nat → Prop) (w : World) (D s cs t ct : Nat) (lv fv : Value) (x : St) : Prop where
  hd : w.heap[D]? = some (.cells #[.slice (some ⟨s, 0, none⟩) x.n cs, .slice (some ⟨t, 0, none⟩) x.n ct, lv, fv, .bool x.away, .int .i64 (x.done : Int)] 78 (0, 0))
  sr : Row w s x.n x.safe
  tr : Row w t x.n x.now
  ne : s ≠ t
  cs : x.n ≤ cs
  ct : x.n ≤ ct
  lo : w.ownsRow 0 101 33 lv x.loose.length (lcells x.loose)
  fu : FuseAt K w fv x.fuse
  pl : ∀ y ∈ x.loose, y.1 < x.n
  nb : x.n ≤ 4096
  kD : K D
  ks : K s
  kt : K t
  kl : ∀ g, lv.ownBlock = some g → K g
def DiskAt (K : Nat → Prop) (w : World) (D : Nat) (x : St) : Prop := ∃ s cs t ct lv fv, Lies K w D s cs t ct lv fv x
theorem own_keep {w w' : World} {base : Nat} {e : TypeId} {size n : Nat} {v : Value} {xs : List Value} (h : w.ownsRow base e size v n xs) (he : ∀ g, v.ownBlock = some g → w'.heap[g]? = w.heap[g]?) : w'.ownsRow base e size v n xs := by
  refine ⟨h.1, ?_⟩
  rcases h.2 with hn | ⟨g, cap, cur, rfl, hb, hg, r⟩
  · exact .inl hn
  · exact .inr ⟨g, cap, cur, rfl, hb, (he g rfl).trans hg, r⟩
theorem own_type {w : World} {base : Nat} {e : TypeId} {size n : Nat} {v : Value} {xs : List Value} (h : w.ownsRow base e size v n xs) : ∀ g, v.ownBlock = some g → ∃ cur, w.heap[g]? = some (.cells cur e (0, 0)) := by
  intro g hg
  rcases h.2 with ⟨rfl, _⟩ | ⟨g', cap, cur, rfl, _, hh, _⟩
  · cases hg
  · injection hg with hg
    subst hg
    exact ⟨cur, hh⟩
theorem ne_type {w : World} {a b : Nat} {c d : Array Value} {t u : TypeId} {x y : Nat × Nat} (ha : w.heap[a]? = some (.cells c t x)) (hb : w.heap[b]? = some (.cells d u y)) (h : t ≠ u) : a ≠ b := by
  rintro rfl
  rw [ha] at hb
  injection hb with hb
  injection hb with _ hb _
  exact h hb
theorem FuseAt.keep {K : Nat → Prop} {w w' : World} {fv : Value} : ∀ {fu : Option (Nat × List Bool)}, FuseAt K w fv fu → (∀ i, K i → i < w.heap.size → w'.heap[i]? = w.heap[i]?) → FuseAt K w' fv fu
  | none, h, _ => h
  | some (_, _), ⟨f, kv, h1, h2, h3, h4, h5⟩, he => ⟨f, kv, h1, (he f h5 (Array.getElem?_eq_some_iff.1 h2).1).trans h2, h3.keep he, h4, h5⟩
theorem FuseAt.mono {K K' : Nat → Prop} {w : World} {fv : Value} (hk : ∀ i, K i → K' i) : ∀ {fu : Option (Nat × List Bool)}, FuseAt K w fv fu → FuseAt K' w fv fu
  | none, h => h
  | some (_, _), ⟨f, kv, h1, h2, h3, h4, h5⟩ => ⟨f, kv, h1, h2, h3.mono hk, h4, hk f h5⟩
theorem FuseAt.keepD {K : Nat → Prop} {w w' : World} {fv : Value} {D : Nat} {c : Array Value} (hD : w.heap[D]? = some (.cells c 78 (0, 0))) (ho : ∀ i, i ≠ D → w'.heap[i]? = w.heap[i]?) : ∀ {fu : Option (Nat × List Bool)}, FuseAt K w fv fu → FuseAt K w' fv fu
  | none, h => h
  | some (_, _), ⟨f, kv, h1, h2, h3, h4, h5⟩ => ⟨f, kv, h1, (ho f (ne_type h2 hD (by decide))).trans h2, h3.keepT (fun i cur hi => ho i (ne_type hi hD (by decide))), h4, h5⟩
namespace Lies
variable {K : Nat → Prop} {w w' : World} {D s cs t ct : Nat} {lv fv : Value} {x : St}
theorem lt (h : Lies K w D s cs t ct lv fv x) : D < w.heap.size := (Array.getElem?_eq_some_iff.1 h.hd).1
theorem keep (h : Lies K w D s cs t ct lv fv x) (he : ∀ i, K i → i < w.heap.size → w'.heap[i]? = w.heap[i]?) : Lies K w' D s cs t ct lv fv x :=
  ⟨(he D h.kD h.lt).trans h.hd, h.sr.of_block (he s h.ks h.sr.lt), h.tr.of_block (he t h.kt h.tr.lt), h.ne, h.cs, h.ct,
    own_keep h.lo (fun g hg => he g (h.kl g hg) (h.lo.lt g hg).2), h.fu.keep he, h.pl, h.nb, h.kD, h.ks, h.kt, h.kl⟩
theorem below (h : Lies K w D s cs t ct lv fv x) (hb : Below w.heap.size w w') : Lies K w' D s cs t ct lv fv x := h.keep fun i _ hi => hb.block i hi
theorem alloc (h : Lies K w D s cs t ct lv fv x) (o : Obj) : Lies K (w.alloc o) D s cs t ct lv fv x := h.below ((Below.refl _ _).alloc (Nat.le_refl _) o)
theorem cell (h : Lies K w D s cs t ct lv fv x) (i : Nat) : w.cell? ⟨D, i, none⟩ = (#[.slice (some ⟨s, 0, none⟩) x.n cs, .slice (some ⟨t, 0, none⟩) x.n ct, lv, fv, .bool x.away, .int .i64 (x.done : Int)] : Array Value)[i]? := cell_of_row w D i _ _ _ h.hd
theorem fz (h : Lies K w D s cs t ct lv fv x) (i : Nat) : w.frozen? ⟨D, i, none⟩ = false := frozen_of_row w D i _ _ h.hd
theorem neDs (h : Lies K w D s cs t ct lv fv x) : D ≠ s := by obtain ⟨c, hc, _⟩ := h.sr; exact ne_type h.hd hc (by decide)
theorem neDt (h : Lies K w D s cs t ct lv fv x) : D ≠ t := by obtain ⟨c, hc, _⟩ := h.tr; exact ne_type h.hd hc (by decide)
theorem neLD (h : Lies K w D s cs t ct lv fv x) : ∀ g, lv.ownBlock = some g → g ≠ D := fun g hg => by obtain ⟨c, hc⟩ := own_type h.lo g hg; exact ne_type hc h.hd (by decide)
/-- The disk's own block written anew, all else as it was. -/
theorem reheadD (h : Lies K w D s cs t ct lv fv x) {y : St} (hh : w'.heap[D]? = some (.cells #[.slice (some ⟨s, 0, none⟩) x.n cs, .slice (some ⟨t, 0, none⟩) x.n ct, lv, fv, .bool y.away, .int .i64 (y.done : Int)] 78 (0, 0)))
    (ho : ∀ i, i ≠ D → w'.heap[i]? = w.heap[i]?) (h1 : y.n = x.n) (h2 : y.safe = x.safe) (h3 : y.now = x.now) (h4 : y.loose = x.loose) (h5 : y.fuse = x.fuse) : Lies K w' D s cs t ct lv fv y := by
  obtain ⟨n, sa, no, lo, fu, aw, dn⟩ := y
  subst h1 h2 h3 h4 h5
  refine ⟨hh, h.sr.of_block (ho s h.neDs.symm), h.tr.of_block (ho t h.neDt.symm), h.ne, h.cs, h.ct, own_keep h.lo (fun g hg => ho g (h.neLD g hg)), ?_, h.pl, h.nb, h.kD, h.ks, h.kt, h.kl⟩
  exact h.fu.keepD h.hd ho
theorem neLs (h : Lies K w D s cs t ct lv fv x) : ∀ g, lv.ownBlock = some g → g ≠ s := fun g hg => by obtain ⟨c, hc⟩ := own_type h.lo g hg; obtain ⟨d, hd, _⟩ := h.sr; exact ne_type hc hd (by decide)
theorem neLt (h : Lies K w D s cs t ct lv fv x) : ∀ g, lv.ownBlock = some g → g ≠ t := fun g hg => by obtain ⟨c, hc⟩ := own_type h.lo g hg; obtain ⟨d, hd, _⟩ := h.tr; exact ne_type hc hd (by decide)
end Lies
namespace DiskAt
variable {K : Nat → Prop} {w w' : World} {D : Nat} {x : St}
theorem keep (h : DiskAt K w D x) (he : ∀ i, K i → i < w.heap.size → w'.heap[i]? = w.heap[i]?) : DiskAt K w' D x := by
  obtain ⟨s, cs, t, ct, lv, fv, h⟩ := h
  exact ⟨s, cs, t, ct, lv, fv, h.keep he⟩
theorem below (h : DiskAt K w D x) (hb : Below w.heap.size w w') : DiskAt K w' D x := h.keep fun i _ hi => hb.block i hi
theorem mono (h : DiskAt K w D x) {K' : Nat → Prop} (hk : ∀ i, K i → K' i) : DiskAt K' w D x := by
  obtain ⟨s, cs, t, ct, lv, fv, h⟩ := h
  exact ⟨s, cs, t, ct, lv, fv, h.hd, h.sr, h.tr, h.ne, h.cs, h.ct, h.lo, h.fu.mono hk, h.pl, h.nb, hk _ h.kD, hk _ h.ks, hk _ h.kt, fun g hg => hk g (h.kl g hg)⟩
end DiskAt
/-- Behind a call on the disk in block D: what it answered, and what stands there. -/
def DiskSays (K : Nat → Prop) (w : World) (D : Nat) (v : Value) (x : St) (e : Ending) (w' : World) : Prop := e = .returned v ∧ DiskAt K w' D x ∧ Kept K w w'
end Go.Proofs.YtnmgkkjnjllpbaaGreatDoor
namespace Go.Proofs.YtnmgkkjnjllpbaaGreatDoor
open Go Go.RowKit

/-- '[]T{}': a new row of nothing. -/
theorem run_buildNone {P : Program} (w : World) (t e : TypeId) (ie : TypeInfo) (hu : P.underlying t = some (.slice e)) (hie : P.info? e = some ie) :
    (Instr.buildSlice t 0 #[]).run P w = .ok (.slice (some ⟨w.heap.size, 0, none⟩) 0 0) (w.alloc (.cells #[] e)) := by
  simp [Instr.buildSlice, run_underlying hu, sizeOf, typeInfo, hie, newRow, Instr.fill]
  congr
  apply Array.eq_empty_of_size_eq_zero
  simp
theorem wpList_buildNone {P : Program} {ops : Array Oper} {rest : List Oper} {o : Oper} {a : Act} {w : World} {Q : Exit → Act → World → Prop} (hg : o.guard = none) (t e : TypeId) (ho : o.op = .buildSlice t 0 #[]) (ie : TypeInfo)
    (hu : P.underlying t = some (.slice e)) (hie : P.info? e = some ie) (h : wpList P ops Q rest (a.put o.dst (.slice (some ⟨w.heap.size, 0, none⟩) 0 0)) (w.alloc (.cells #[] e))) : wpList P ops Q (o :: rest) a w :=
  wpList_plain hg fun _ hK => by
    unfold Oper.wp execOp
    have e : ((#[] : Array (Nat × Operand)).map fun (i, x) => (i, a.eval x)) = #[] := by simp
    simp only [ho, Sem.run_bind, e, run_buildNone w t _ ie hu hie, Result.andThen_ok]
    exact hK _ _ h
end Go.Proofs.YtnmgkkjnjllpbaaGreatDoor
namespace Go.Proofs.YtnmgkkjnjllpbaaGreatDoor
open Go.ChangeShapes Go.WideShapes Go.ChangeAt Go.RowKit Dk

theorem infoS : (Tryz.prog.info? 73).map (fun i => (i.zero, i.size, i.bytes)) = some (some (.agg (secA fun _ => 0)), 32, 32) := by kernel_rfl
/-- Cells of bytes. -/
def bcellsK (f : Nat → UInt8) (m : Nat) : List Value := (List.range m).map fun k => .int .u8 ((f k).toNat : Int)
theorem bcellsK_length (f : Nat → UInt8) (m : Nat) : (bcellsK f m).length = m := by simp [bcellsK]
theorem bcellsK_get (f : Nat → UInt8) (m k : Nat) (h : k < m) : (bcellsK f m)[k]? = some (.int .u8 ((f k).toNat : Int)) := by simp [bcellsK, h]
theorem bcellsK_one (f : Nat → UInt8) (m : Nat) : ∀ u ∈ bcellsK f m, u.oneCell' = true := by
  intro u hu
  obtain ⟨b, _, rfl⟩ := List.mem_map.1 hu
  rfl
theorem row_own {w : World} {base b n c : Nat} {f : Nat → UInt8} (h : w.ownsRow base 73 32 (.slice (some ⟨b, 0, none⟩) n c) n (bcellsK f (n * 32))) : Row w b n f ∧ n ≤ c := by
  rcases h.2 with ⟨hn, _⟩ | ⟨g, cap, cur, hv, hb, hg, hnc, _, _, ht⟩
  · cases hn
  · injection hv with h1 h2 h3
    injection h1 with h1
    injection h1 with h1
    subst h1 h3
    refine ⟨⟨cur, hg, fun k hk => ?_⟩, hnc⟩
    rw [← bcellsK_get f (n * 32) k hk, ← ht, List.getElem?_take_of_lt hk, Array.getElem?_toList]
theorem own_formK {w : World} {base : Nat} {e : TypeId} {size n : Nat} {v : Value} {xs : List Value} (h : w.ownsRow base e size v n xs) (hv : v ≠ .slice none 0 0) : ∃ g cap, v = .slice (some ⟨g, 0, none⟩) n cap ∧ base ≤ g := by
  rcases h.2 with ⟨hn, _⟩ | ⟨g, cap, cur, rfl, hb, _⟩
  · exact absurd hn hv
  · exact ⟨g, cap, rfl, hb⟩
theorem src_row {w : World} {b n : Nat} {f : Nat → UInt8} (h : Row w b n f) (o : Obj) : ∀ j u, (bcellsK f (n * 32))[j]? = some u → (w.alloc o).cell? ((⟨b, 0, none⟩ : Addr).add j) = some u := fun j u hj => by
  have hl := (List.getElem?_eq_some_iff.1 hj).1
  rw [bcellsK_length] at hl
  rw [Addr.add_lit, Nat.zero_add, World.cell?_alloc_lt _ _ _ h.lt, h.cell j hl, ← bcellsK_get f (n * 32) j hl, hj]
set_option maxRecDepth 100000 in
set_option maxHeartbeats 800000 in
theorem clone_rows (w : World) (b n c : Nat) (f : Nat → UInt8) (h : Row w b n f) (hn : n ≤ 4096) :
    Calls Tryz.prog 59 #[.slice (some ⟨b, 0, none⟩) n c] w fun e w' => ∃ t ct, e = .returned (.slice (some ⟨t, 0, none⟩) n ct) ∧ Row w' t n f ∧ n ≤ ct ∧ w.heap.size ≤ t ∧ Below w.heap.size w w' := by
  have H := Lib.hid h
  obtain ⟨i0, hi, hz0, hz1, hz2⟩ := info_parts infoS
  have HI := Lib.hid hi
  have HZ0 := Lib.hid hz0
  have HZ1 := Lib.hid hz1
  have HZ2 := Lib.hid hz2
  have HZS := Lib.hid (show (Value.agg (secA fun _ => 0)).cells.size = 32 from vals_size 32 _)
  have HN := Lib.hid hn
  have HLN := Lib.hid (bcellsK_length f (n * 32))
  have HO1 := Lib.hid (bcellsK_one f (n * 32))
  clear h hi hz0 hz1 hz2 hn
  have HOWN := Lib.hid (show (w.alloc (.cells #[] 73)).ownsRow w.heap.size 73 32 (.slice (some ⟨w.heap.size, 0, none⟩) 0 0) 0 [] from World.ownsRow_made w #[] 0 (Nat.le_refl _) (Nat.zero_le _) rfl)
  have HSRC := Lib.hid (src_row H.out (.cells #[] 73))
  have heq : ∀ W : World, (binOp .eql 71 (.slice (some ⟨b, 0, none⟩) n c) (.slice none 0 0)).run Tryz.prog W = .ok (.bool false) W := fun W => run_eql_slice_nil W _ _ _ n c Tryz.underlying71
  go_enter Tryz.func59, Tryz.ntmps59
  go_wp2_with (first
    | (with_reducible refine wpList_buildNone rfl 71 73 rfl i0 Tryz.underlying71 HI.out ?_)
    | (at_builtin; refine wpList_append_own _ rfl (.tmp 5) (.tmp 6) 71 rfl w.heap.size 73 i0 _ 32 32 Tryz.underlying71 HI.out HZ0.out HZ1.out HZ2.out HZS.out (by omega) (.slice (some ⟨w.heap.size, 0, none⟩) 0 0) 0 [] rfl HOWN.out ⟨b, 0, none⟩ n c (bcellsK f (n * 32)) rfl HLN.out HSRC.out HO1.out (by have := HN.out; unfold maxLen; omega) (by have := HN.out; omega) (by simp) ?_; intro v9 w9 hown9 hg9 hnil; obtain ⟨g9, c9, rfl, hg9b⟩ := own_formK hown9 (fun h' => by have := (hnil.1 h').1; simp at this)))
  rw [Nat.zero_add, List.nil_append] at hown9
  obtain ⟨hr, hc⟩ := row_own hown9
  have hb := ((Below.refl w.heap.size w).alloc (Nat.le_refl _) (.cells #[] 73)).grown hg9 (by simp) (fun k hk => by
    have : k = w.heap.size := by simpa [Value.ownBlock] using hk.symm
    omega)
  refine bodyPost_ret (results_tmp rfl _ _ _) rfl ?_
  exact ⟨g9, c9, rfl, hr, hc, hg9b, hb⟩
theorem madeCells_bytes (n : Nat) : (madeCells (Value.agg (secA fun _ => 0)).cells (n * 32)).toList = bcellsK (fun _ => 0) (n * 32) := by
  apply List.ext_getElem?
  intro j
  by_cases hj : j < n * 32
  · rw [bcellsK_get _ _ _ hj]
    have hs : (Value.agg (secA fun _ => 0)).cells.size = 32 := vals_size 32 _
    have h2 : (Value.agg (secA fun _ => 0)).cells[j % 32]? = some (.int .u8 0) := vals_get 32 _ _ (by omega)
    rw [Array.getElem?_toList]
    unfold madeCells
    rw [Array.getElem?_map, Array.getElem?_range, if_pos hj, Option.map_some, hs, Array.getElem!_eq_getD, Array.getD_eq_getD_getElem?, h2]
    rfl
  · rw [List.getElem?_eq_none (by rw [Array.length_toList, size_madeCells]; omega), List.getElem?_eq_none (by rw [bcellsK_length]; omega)]

/-- A disk over a row of sectors. -/
def freshSt (n : Nat) (f : Nat → UInt8) : St := { n := n, safe := f, now := f, loose := [], fuse := none, away := false, done := 0 }
theorem disk_of (K : Nat → Prop) (w : World) (s n c : Nat) (f : Nat → UInt8) (h : Row w s n f) (hn : n ≤ 4096) (hc : n ≤ c) (hs : K s) (hK : ∀ i, w.heap.size ≤ i → K i) :
    Calls Tryz.prog 33 #[.slice (some ⟨s, 0, none⟩) n c] w fun e w' => ∃ D, e = .returned (.pointer (some ⟨D, 0, none⟩)) ∧ w.heap.size ≤ D ∧ DiskAt K w' D (freshSt n f) ∧ Below w.heap.size w w' := by
  have H := Lib.hid h
  have HK := Lib.hid hK
  clear h hK
  go_enter Tryz.func33, Tryz.ntmps33
  go_wp2_with (fail)
  refine (clone_rows w s n c f H.out hn).mono ?_
  rintro e w1 ⟨t, ct, rfl, ht, hct, htb, hb⟩
  have HT := Lib.hid ht
  have HB := Lib.hid hb
  clear ht hb
  go_wp2
  refine bodyPost_ret (results_tmp rfl _ _ _) rfl ?_
  have hsl := H.out.lt
  have hs1 := H.out.of_block (HB.out.block s hsl)
  have htl := HT.out.lt
  refine ⟨_, rfl, HB.out.size, ⟨s, c, t, ct, .slice none 0 0, .pointer none, heap_alloc_new w1 _, hs1.of_block (heap_alloc_old w1 _ hs1.lt), HT.out.of_block (heap_alloc_old w1 _ htl), by omega, hc, hct, World.ownsRow_nil _ _ _ _, rfl, (fun y hy => by cases hy), hn, HK.out _ HB.out.size, hs, HK.out _ htb, fun g hg => by cases hg⟩, HB.out.alloc HB.out.size _⟩
theorem disk_new (K : Nat → Prop) (w : World) (m : Int) (n : Nat) (hn : (n : Int) = min (max m 0) 4096) (hK : ∀ i, w.heap.size ≤ i → K i) :
    Calls Tryz.prog 20 #[.int .i64 m] w fun e w' => ∃ D, e = .returned (.pointer (some ⟨D, 0, none⟩)) ∧ w.heap.size ≤ D ∧ DiskAt K w' D (freshSt n fun _ => 0) ∧ Below w.heap.size w w' := by
  have HK := Lib.hid hK
  obtain ⟨i0, hi, hz0, hz1, hz2⟩ := info_parts infoS
  have HI := Lib.hid hi
  have HZ0 := Lib.hid hz0
  have HZ1 := Lib.hid hz1
  have HZ2 := Lib.hid hz2
  have HN := Lib.hid hn
  have hnb : n ≤ 4096 := by omega
  clear hK hi hz0 hz1 hz2 hn
  have hval : (m < 0 ∧ n = 0) ∨ (¬ m < 0 ∧ m ≤ 4096 ∧ m = (n : Int)) ∨ (¬ m < 0 ∧ ¬ m ≤ 4096 ∧ n = 4096) := by have := HN.out; omega
  have hfin : ∀ (w1 : World), w1.ownsRow w.heap.size 73 32 (.slice (some ⟨w.heap.size, 0, none⟩) n n) n (madeCells (Value.agg (secA fun _ => 0)).cells (n * 32)).toList → w.grownBy w1 none →
      Calls Tryz.prog 33 #[.slice (some ⟨w.heap.size, 0, none⟩) n n] w1 fun e w' => ∃ D, e = .returned (.pointer (some ⟨D, 0, none⟩)) ∧ w.heap.size ≤ D ∧ DiskAt K w' D (freshSt n fun _ => 0) ∧ Below w.heap.size w w' := fun w1 ho hg => by
    rw [madeCells_bytes] at ho
    obtain ⟨hr, hc⟩ := row_own ho
    have hb := (Below.refl w.heap.size w).grown hg (Nat.le_refl _) (fun k hk => by cases hk)
    refine (disk_of K w1 w.heap.size n n _ hr hnb hc (HK.out _ (Nat.le_refl _)) (fun i hi => HK.out i (Nat.le_trans hb.size hi))).mono ?_
    rintro e w2 ⟨D, rfl, h1, h2, h3⟩
    exact ⟨D, rfl, Nat.le_trans hb.size h1, h2, hb.trans (h3.mono hb.size)⟩
  have HFIN := Lib.hid hfin
  clear hfin
  rcases hval with ⟨h1, h2⟩ | ⟨h1, h2, h3⟩ | ⟨h1, h2, h3⟩
  · have h1' : ¬ 0 ≤ m := by omega
    subst h2
    clear HN hnb
    go_enter Tryz.func20, Tryz.ntmps20
    go_wp2_with (at_make; refine wpList_make_full _ rfl _ _ 71 rfl w.heap.size 73 i0 _ 32 Tryz.underlying71 HI.out HZ0.out HZ1.out .i64 .i64 _ _ 0 rfl rfl rfl rfl (by omega) (by unfold maxLen; omega) (Nat.le_refl _) ?_; intro w1 hown hg1)
    refine (HFIN.out w1 hown hg1).mono ?_
    rintro e w2 ⟨D, rfl, g1, g2, g3⟩
    have G2 := Lib.hid g2
    clear g2 hown hg1 HFIN HK
    go_wp2
    exact bodyPost_ret (results_tmp rfl _ _ _) rfl ⟨D, rfl, g1, G2.out, g3⟩
  · have h1' : 0 ≤ m := by omega
    subst h3
    clear HN
    go_enter Tryz.func20, Tryz.ntmps20
    go_wp2_with (at_make; refine wpList_make_full _ rfl _ _ 71 rfl w.heap.size 73 i0 _ 32 Tryz.underlying71 HI.out HZ0.out HZ1.out .i64 .i64 _ _ n rfl rfl rfl rfl (by rw [HZ2.out]; omega) (by unfold maxLen; omega) (Nat.le_refl _) ?_; intro w1 hown hg1)
    refine (HFIN.out w1 hown hg1).mono ?_
    rintro e w2 ⟨D, rfl, g1, g2, g3⟩
    have G2 := Lib.hid g2
    clear g2 hown hg1 HFIN HK
    go_wp2
    exact bodyPost_ret (results_tmp rfl _ _ _) rfl ⟨D, rfl, g1, G2.out, g3⟩
  · have h1' : 0 ≤ m := by omega
    have h2' : 4096 < m := by omega
    subst h3
    clear HN
    go_enter Tryz.func20, Tryz.ntmps20
    go_wp2_with (at_make; refine wpList_make_full _ rfl _ _ 71 rfl w.heap.size 73 i0 _ 32 Tryz.underlying71 HI.out HZ0.out HZ1.out .i64 .i64 _ _ 4096 rfl rfl rfl rfl (by rw [HZ2.out]; omega) (by unfold maxLen; omega) (Nat.le_refl _) ?_; intro w1 hown hg1)
    refine (HFIN.out w1 hown hg1).mono ?_
    rintro e w2 ⟨D, rfl, g1, g2, g3⟩
    have G2 := Lib.hid g2
    clear g2 hown hg1 HFIN HK
    go_wp2
    exact bodyPost_ret (results_tmp rfl _ _ _) rfl ⟨D, rfl, g1, G2.out, g3⟩
end Go.Proofs.YtnmgkkjnjllpbaaGreatDoor
