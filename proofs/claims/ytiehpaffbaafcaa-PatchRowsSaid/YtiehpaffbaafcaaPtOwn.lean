/-
  A row of deeds of one's own that grows. No program's function here. No conditions.
-/
import Derived.Test.YtiehpaffbaafcaaPtMem
import Derived.OwnWalk
import Derived.Laws.OwnMore
import Derived.Deep.AppendLies
import Derived.Great.Walk
namespace Go.Proofs.Ytiehpaffbaafcaa
open Go.ChangeShapes Go.WideShapes Go.ChangeAt Go.RowKit Pn Pt
theorem info_op : (Try.prog.info? 42).map (fun i => (i.zero, i.size, i.bytes)) = some (some (.agg #[.int .i64 0, .int .i64 0, .int .i64 0, .string ⟨#[]⟩]), 4, 40) := by kernel_rfl
theorem opOne (a b c : Int) (d : ByteArray) : Try.prog.builtSlice 42 1 [(0, .agg #[.int .i64 a, .int .i64 b, .int .i64 c, .string d])] = some #[.int .i64 a, .int .i64 b, .int .i64 c, .string d] := by kernel_rfl
theorem info_rop : (Try.prog.info? 38).map (fun i => (i.zero, i.size, i.bytes)) = some (some (.agg #[.int .i64 0, .int .i64 0, .int .i64 0, .string ⟨#[]⟩]), 4, 40) := by kernel_rfl
theorem ropOne (a b c : Int) (d : ByteArray) : Try.prog.builtSlice 38 1 [(0, .agg #[.int .i64 a, .int .i64 b, .int .i64 c, .string d])] = some #[.int .i64 a, .int .i64 b, .int .i64 c, .string d] := by kernel_rfl
namespace Pt
def OwnD (t : TypeId) (w : World) (base : Nat) (v : Value) (L : List Deed) : Prop := w.ownsRow base t 4 v L.length (dsL L)
section
variable {t : TypeId} {w w' : World} {B base : Nat} {v : Value} {L : List Deed}
theorem OwnD.nil (t : TypeId) (w : World) (base : Nat) : OwnD t w base (.slice none 0 0) [] := World.ownsRow_nil w base _ 4
theorem OwnD.below (h : OwnD t w base v L) (hb : Below B w w') (hB : w.heap.size ≤ B) : OwnD t w' base v L := by
  refine ⟨h.1, ?_⟩
  rcases h.2 with hn | ⟨g, cap, cur, hv, h1, hg, r⟩
  · exact .inl hn
  · exact .inr ⟨g, cap, cur, hv, h1, (hb.block g (by have := (Array.getElem?_eq_some_iff.1 hg).1; omega)).trans hg, r⟩
theorem OwnD.only {p : Nat} (h : OwnD t w base v L) (ho : Only w w' p) (hp : p < base) : OwnD t w' base v L := own_only h ho hp
theorem OwnD.slice (h : OwnD t w base v L) : ∃ A cap, v = .slice A L.length cap := by
  rcases h.2 with ⟨hn, h0⟩ | ⟨g, cap, cur, rfl, hb, _⟩
  · exact ⟨none, 0, by rw [hn, h0]⟩
  · exact ⟨_, cap, rfl⟩
theorem OwnD.lt (h : OwnD t w base v L) : ∀ g, v.ownBlock = some g → base ≤ g ∧ g < w.heap.size := fun g hg => World.ownsRow.lt h g hg
theorem OwnD.cap {A : Option Addr} {n c : Nat} (h : OwnD t w base (.slice A n c) L) : n ≤ c := by
  rcases h.2 with ⟨e, h0⟩ | ⟨g, cap, cur, e, _, _, hc, _⟩
  · injection e with _ e2 e3; omega
  · injection e with _ e2 e3; omega
theorem OwnD.din {A : Option Addr} {c : Nat} (h : OwnD t w base (.slice A L.length c) L) : DIn w A L := fun h0 => by
  rcases h.2 with ⟨_, he⟩ | ⟨g, cap, cur, hv, _⟩
  · omega
  · injection hv with hv1 hv2 hv3
    subst hv1
    refine ⟨g, 0, rfl, fun i o ho => ?_⟩
    have hc := fun j u hj => h.cells (g := g) rfl j u hj
    have ha := dsL_at L i o ho
    refine ⟨?_, ?_, ?_, ?_⟩
    · have := hc (i * 4 + 0) _ ((ha 0 (by omega)).trans rfl)
      rwa [Addr.add_lit, Nat.add_zero] at this
    · have := hc (i * 4 + 1) _ ((ha 1 (by omega)).trans rfl)
      rwa [Addr.add_lit, ← Nat.add_assoc] at this
    · have := hc (i * 4 + 2) _ ((ha 2 (by omega)).trans rfl)
      rwa [Addr.add_lit, ← Nat.add_assoc] at this
    · have := hc (i * 4 + 3) _ ((ha 3 (by omega)).trans rfl)
      rwa [Addr.add_lit, ← Nat.add_assoc] at this
theorem OwnD.grew {g cap j : Nat} {o : Deed} (hL : L.length = j) (h : w.ownsRow base t 4 (.slice (some ⟨g, 0, none⟩) (j + 1) cap) (j + 1) (dsL L ++ dl o)) : OwnD t w base (.slice (some ⟨g, 0, none⟩) (j + 1) cap) (L ++ [o]) := by
  unfold OwnD
  rw [dsL_next, List.length_append, hL, List.length_singleton]
  exact h
theorem OwnD.at {j : Nat} (h : OwnD t w base v L) (hL : L.length = j) : w.ownsRow base t 4 v j (dsL L) := by
  unfold OwnD at h
  rw [hL] at h
  exact h
theorem below_grewD {w0 wz : World} (hb : Below B w0 w) (hB : w0.heap.size = B) (ho : OwnD t w B v L) (o : Obj) (hg : (w.alloc o).grownBy wz v.ownBlock) : Below B w0 wz :=
  (hb.alloc (by have := hb.size; omega) o).grown hg (by have := hb.size; simp; omega) (fun i hi => (ho.lt i hi).1)
theorem deed_src (w : World) (t : TypeId) (o : Deed) : ∀ j u, (dl o)[j]? = some u → (w.alloc (.cells #[.int .i64 o.k, .int .i64 o.f, .int .i64 o.s, .string o.d] t)).cell? ((⟨w.heap.size, 0, none⟩ : Addr).add j) = some u := fun j u hj => by
  rw [Addr.add_lit, Nat.zero_add, cell_of_row _ _ _ _ _ _ (heap_alloc_new w _), ← hj]
  exact List.getElem?_toArray
end
/-- In a walk: the row grew beside a new block; what else lies stays. -/
theorem grown_keeps {t : TypeId} {w wz : World} {base g n : Nat} {v : Value} {xs : List Value} {ob o : Obj} (ho : w.ownsRow base t 4 v n xs) (hg : (w.alloc ob).grownBy wz v.ownBlock) (h : w.heap[g]? = some o) (hlt : g < base) : wz.heap[g]? = some o :=
  (hg.block g (by have := (Array.getElem?_eq_some_iff.1 h).1; simp; omega) (fun e => by have := (World.ownsRow.lt ho g e.symm).1; omega)).trans ((heap_alloc_old _ _ (Array.getElem?_eq_some_iff.1 h).1).trans h)
theorem grown_below {t : TypeId} {w0 w wz : World} {B base n : Nat} {v : Value} {xs : List Value} {ob : Obj} (hb : Below B w0 w) (hB : B ≤ w0.heap.size) (hbase : B ≤ base) (ho : w.ownsRow base t 4 v n xs) (hg : (w.alloc ob).grownBy wz v.ownBlock) : Below B w0 wz :=
  (hb.alloc (by have := hb.size; omega) ob).grown hg (by have := hb.size; simp; omega) (fun i hi => by have := (World.ownsRow.lt ho i hi).1; omega)
end Pt
end Go.Proofs.Ytiehpaffbaafcaa
