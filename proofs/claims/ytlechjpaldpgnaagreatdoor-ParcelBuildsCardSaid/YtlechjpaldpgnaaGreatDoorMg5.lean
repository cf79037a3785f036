/-
  The builtin copy into a row told by a function: out of a string, out of a row of bytes. No program here. No conditions but that the row is long enough.
-/
import Derived.Test.YtlechjpaldpgnaaGreatDoorMg1
import Derived.Laws.CopyRow
set_option maxRecDepth 100000
namespace Go.Proofs.YtlechjpaldpgnaaGreatDoor
open Go Go.RowKit
variable {P : Program}

theorem splice_vals (N o : Nat) (f : Nat → Value) (cs : List Value) (h : o + cs.length ≤ N) :
    ((vals N f).toList.take o ++ cs ++ (vals N f).toList.drop (o + cs.length)).toArray = vals N (fun j => if o ≤ j ∧ j < o + cs.length then cs.getD (j - o) undef else f j) := by
  unfold vals
  congr 1
  apply List.ext_getElem?
  intro k
  simp only [List.getElem?_append, List.length_take, List.length_map, List.length_range, List.getElem?_take, List.getElem?_drop, List.getElem?_map]
  have hm : min o N = o := by omega
  by_cases h1 : k < o
  · rw [hm, if_pos (by simp; omega), if_pos (by simpa using h1), if_pos h1]
    by_cases h2 : k < N
    · simp only [List.getElem?_range h2, Option.map_some]; rw [if_neg (by omega)]
    · omega
  · by_cases h2 : k < o + cs.length
    · rw [hm, if_pos (by simp; omega), if_neg (by simpa using h1)]
      have h3 : k < N := by omega
      simp only [List.getElem?_range h3, Option.map_some]
      rw [if_pos ⟨by omega, h2⟩, List.getD_eq_getElem?_getD, List.getElem?_eq_getElem (by omega)]
      simp
    · rw [hm, if_neg (by simp; omega)]
      simp only [List.length_append, List.length_take, List.length_map, List.length_range]
      rw [hm, show o + cs.length + (k - (o + cs.length)) = k by omega]
      by_cases h3 : k < N
      · simp only [List.getElem?_range h3, Option.map_some]; rw [if_neg (by omega)]
      · simp [List.getElem?_eq_none (show (List.range N).length ≤ k by simp; omega)]

/-- The row behind a copy of these cells to place o. -/
def spliced (o : Nat) (cs : List Value) (f : Nat → Value) : Nat → Value := fun j => if o ≤ j ∧ j < o + cs.length then cs.getD (j - o) undef else f j

theorem run_copy_str (w : World) (dT sT ty elem : TypeId) (b o dLen dCap : Nat) (q : ByteArray) (cs : List Value) (T : TypeId) (N : Nat) (f : Nat → Value)
    (hu : P.underlying dT = some (.slice elem)) (hz : ∀ w, (Go.sizeOf elem).run P w = .ok 1 w) (hr : w.rowIs b T N f)
    (hcs : cs = (q.data.toList.take (min q.size dLen)).map fun x => Value.int .u8 (x.toNat : Int)) (hfit : o + cs.length ≤ N) (n : Nat) (hn : n = min q.size dLen) :
    (Builtin.copy_ #[dT, sT] ty #[.slice (some ⟨b, o, none⟩) dLen dCap, .string q]).run P w = .ok (goInt n) (w.setRow b (vals N (spliced o cs f))) := by
  subst hn
  have hst := run_storeCells_at P b o T cs 0 (vals N f) w (row_block hr) (by rw [vals_size]; simpa using hfit) (by
    intro v hv
    rw [hcs] at hv
    obtain ⟨x, _, rfl⟩ := List.mem_map.1 hv
    rfl)
  rw [Nat.add_zero, splice_vals N o f cs hfit] at hst
  have hmin : Nat.min q.size dLen = min q.size dLen := rfl
  simp [Builtin.copy_, run_underlying hu, Builtin.lenOf, Builtin.firstCells, hz, hmin]
  rw [← List.map_take, ← hcs, hst]
  rfl

theorem run_copy_bytes (w : World) (dT sT ty elem : TypeId) (b o dLen dCap : Nat) (a : Addr) (sLen sCap : Nat) (cs : List Value) (T : TypeId) (N : Nat) (f : Nat → Value)
    (hu : P.underlying dT = some (.slice elem)) (hs : (P.info? elem).map (·.size) = some 1) (hr : w.rowIs b T N f)
    (hn : cs.length = Nat.min sLen dLen) (hsrc : ∀ j v, cs[j]? = some v → w.cell? (a.add j) = some v) (hfit : o + cs.length ≤ N) (h1 : ∀ v ∈ cs, v.oneCell' = true) :
    (Builtin.copy_ #[dT, sT] ty #[.slice (some ⟨b, o, none⟩) dLen dCap, .slice (some a) sLen sCap]).run P w = .ok (goInt cs.length) (w.setRow b (vals N (spliced o cs f))) := by
  rw [run_copy_row (P := P) w dT sT ty elem b o dLen dCap a sLen sCap (vals N f) T cs hu hs (row_block hr) hn hsrc (by rw [vals_size]; exact hfit) h1, splice_vals N o f cs hfit]
  rfl
end Go.Proofs.YtlechjpaldpgnaaGreatDoor
