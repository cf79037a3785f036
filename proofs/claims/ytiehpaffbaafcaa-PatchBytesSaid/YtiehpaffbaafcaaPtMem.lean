/-
  Where deeds lie, and rows of bytes of one's own that grow. No program's function here. No conditions.
-/
import Derived.Test.YtiehpaffbaafcaaPtSpec
import Derived.Test.YtiehpaffbaafcaaPenOwn
import Derived.Test.YtiehpaffbaafcaaTextRow
import Derived.Deep.AppendLies
namespace Go.Proofs.Ytiehpaffbaafcaa
open Go.ChangeShapes Go.WideShapes Go.ChangeAt Go.RowKit Pn Pt
namespace Pt

/-- A deed's four cells from a place on. -/
structure At4 (w : World) (b o : Nat) (x : Deed) : Prop where
  k : w.cell? ⟨b, o, none⟩ = some (.int .i64 x.k)
  f : w.cell? ⟨b, o + 1, none⟩ = some (.int .i64 x.f)
  s : w.cell? ⟨b, o + 2, none⟩ = some (.int .i64 x.s)
  d : w.cell? ⟨b, o + 3, none⟩ = some (.string x.d)
theorem At4.below {w w' : World} {B b o : Nat} {x : Deed} (h : At4 w b o x) (hb : Below B w w') (hB : w.heap.size ≤ B) : At4 w' b o x := by
  have hl := block_lt_of_cell h.k
  have e : ∀ i, w'.cell? ⟨b, i, none⟩ = w.cell? ⟨b, i, none⟩ := fun i => World.cell?_of_block (hb.block b (Nat.lt_of_lt_of_le hl hB))
  exact ⟨(e _).trans h.k, (e _).trans h.f, (e _).trans h.s, (e _).trans h.d⟩
/-- Deeds behind a slice. -/
def DIn (w : World) (A : Option Addr) (L : List Deed) : Prop := 0 < L.length → ∃ pb po, A = some ⟨pb, po, none⟩ ∧ ∀ (i : Nat) (o : Deed), L[i]? = some o → At4 w pb (po + i * 4) o
theorem DIn.below {w w' : World} {B : Nat} {A : Option Addr} {L : List Deed} (h : DIn w A L) (hb : Below B w w') (hB : w.heap.size ≤ B) : DIn w' A L := fun h0 => by
  obtain ⟨pb, po, e, hc⟩ := h h0
  exact ⟨pb, po, e, fun i o ho => (hc i o ho).below hb hB⟩
theorem DIn.nil (w : World) (A : Option Addr) : DIn w A [] := fun h => absurd h (by simp)
theorem DIn.news {w : World} {A : Option Addr} {L : List Deed} (h : DIn w A L) : 0 < L.length → ∃ ad, A = some ad ∧ ∀ j u, (dsL L)[j]? = some u → w.cell? (ad.add j) = some u := fun h0 => by
  obtain ⟨pb, po, e, hc⟩ := h h0
  refine ⟨_, e, fun j u hj => ?_⟩
  have hjl := (List.getElem?_eq_some_iff.1 hj).1
  rw [dsL_length] at hjl
  have hi : j / 4 < L.length := by omega
  obtain ⟨o, ho⟩ : ∃ o, L[j / 4]? = some o := ⟨_, List.getElem?_eq_getElem hi⟩
  have hat := dsL_at L _ o ho (j % 4) (by omega)
  rw [show j / 4 * 4 + j % 4 = j by omega, hj] at hat
  have h4 := hc _ o ho
  rw [Addr.add_lit]
  have hm : j % 4 < 4 := by omega
  have hd : j / 4 * 4 + j % 4 = j := by omega
  generalize j % 4 = m at hat hm hd
  match m, hm with
  | 0, _ => rw [← hd, ← Nat.add_assoc]; exact h4.k.trans hat.symm
  | 1, _ => rw [← hd, ← Nat.add_assoc]; exact h4.f.trans hat.symm
  | 2, _ => rw [← hd, ← Nat.add_assoc]; exact h4.s.trans hat.symm
  | 3, _ => rw [← hd, ← Nat.add_assoc]; exact h4.d.trans hat.symm
/-- A struct of a deed in a block of its own. -/
def boxD (t : TypeId) (o : Deed) : Obj := .cells #[.int .i64 o.k, .int .i64 o.f, .int .i64 o.s, .string o.d] t (0, 0)
theorem box_at {w : World} {b : Nat} {t : TypeId} {o : Deed} (h : w.heap[b]? = some (boxD t o)) : At4 w b 0 o :=
  ⟨cell_of_row w b 0 _ _ _ h, cell_of_row w b 1 _ _ _ h, cell_of_row w b 2 _ _ _ h, cell_of_row w b 3 _ _ _ h⟩
/-- Bytes in a row of one's own, of the blocks from base on. -/
def OwnT (w : World) (base : Nat) (v : Value) (l : List UInt8) : Prop := w.ownsRow base 5 1 v l.length (bcells l)
theorem OwnT.below {w w' : World} {B base : Nat} {v : Value} {l : List UInt8} (h : OwnT w base v l) (hb : Below B w w') (hB : w.heap.size ≤ B) : OwnT w' base v l := by
  refine ⟨h.1, ?_⟩
  rcases h.2 with hn | ⟨g, cap, cur, hv, h1, hg, r⟩
  · exact .inl hn
  · exact .inr ⟨g, cap, cur, hv, h1, (hb.block g (by have := (Array.getElem?_eq_some_iff.1 hg).1; omega)).trans hg, r⟩
theorem OwnT.slice {w : World} {base : Nat} {v : Value} {l : List UInt8} (h : OwnT w base v l) : ∃ A cap, v = .slice A l.length cap := by
  rcases h.2 with ⟨hn, h0⟩ | ⟨g, cap, cur, rfl, hb, _⟩
  · exact ⟨none, 0, by rw [hn, h0]⟩
  · exact ⟨_, cap, rfl⟩
theorem OwnT.lt {w : World} {base : Nat} {v : Value} {l : List UInt8} (h : OwnT w base v l) : ∀ g, v.ownBlock = some g → base ≤ g ∧ g < w.heap.size := fun g hg => World.ownsRow.lt h g hg
theorem OwnT.text {w : World} {base : Nat} {v : Value} {l : List UInt8} (h : OwnT w base v l) : ∀ W : World, W.heap = w.heap → (convert 53 9 v).run Try.prog W = .ok (.string ⟨l.toArray⟩) W := by
  rcases h.2 with ⟨hv, h0⟩ | ⟨g, cap, cur, hv, _⟩
  · subst hv
    have : l = [] := List.eq_nil_of_length_eq_zero h0
    subst this
    exact fun W _ => run_text_nil W
  · have := own_text (v := v) (g := g) (n := l.length) (cap := cap) h hv
    rw [hv]
    exact this
theorem OwnT.nil (w : World) (base : Nat) : OwnT w base (.slice none 0 0) [] := World.ownsRow_nil w base _ 1
/-- What is made by an append, of blocks from B on. -/
theorem below_grewT {w0 w wz : World} {B : Nat} {v : Value} {l : List UInt8} (hb : Below B w0 w) (hB : w0.heap.size = B) (ho : OwnT w B v l) (o : Obj) (hg : (w.alloc o).grownBy wz v.ownBlock) : Below B w0 wz :=
  (hb.alloc (by have := hb.size; omega) o).grown hg (by have := hb.size; simp; omega) (fun i hi => (ho.lt i hi).1)
theorem one_srcT (w : World) (c : Int) : ∀ j u, ([.int .u8 c] : List Value)[j]? = some u → (w.alloc (.cells #[.int .u8 c] 5)).cell? ((⟨w.heap.size, 0, none⟩ : Addr).add j) = some u := fun j u hj => by
  rw [Addr.add_lit, Nat.zero_add, cell_of_row _ _ _ _ _ _ (heap_alloc_new w _), ← hj]
  exact List.getElem?_toArray
theorem one_oneT (c : Int) : ∀ u ∈ ([.int .u8 c] : List Value), u.oneCell' = true := fun u hu => by
  obtain rfl := List.mem_singleton.1 hu
  rfl
end Pt
end Go.Proofs.Ytiehpaffbaafcaa
