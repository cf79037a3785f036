/-
  Chunks in plain words: what is got of a place where one was put, of one where none was; of several texts' sectors, mixed, with a number each. No program's function here. No conditions.
-/
import Derived.Test.YtnmgkkjnjllpbaaGreatDoorMg9
import Derived.Test.YtnmgkkjnjllpbaaGreatDoorMg10
set_option maxRecDepth 100000
namespace Go.Proofs.YtnmgkkjnjllpbaaGreatDoor
open Go Go.RowKit Pn Dk Sl
namespace Sl
section
variable (x : Dk.St) (f nz k i : Nat)
theorem getK_put (n : Nat) (s : ByteArray) (h1 : 1 ≤ n) (h2 : n ≤ 2147483647) (hs : s.size ≤ k) (hk : k ≤ 256) (hin : i * szN k + szN k ≤ nz) (h : ∀ q, q < szN s.size → ∀ j, j < 32 → sect x.now (f + i * szN k + q) j = secF n (sealL s) q j) : getK x f nz k i = (s, n, 0) := by
  have hm := szN_mono hs
  unfold getK
  rw [got (s := s) h1 h2 (by omega) (by omega) (fun q hq j hj => by show sect x.now (f + (i * szN k + q)) j = _; rw [← Nat.add_assoc]; exact h q hq j hj), limR_ok hs]
theorem getK_none (h : numG (sect x.now (f + i * szN k)) = 0) : getK x f nz k i = (⟨#[]⟩, 0, 5) := by
  have h0 : numG (rdZ x f (i * szN k)) = 0 := h
  have ho : okG (rdZ x f) nz (i * szN k) = false := by unfold okG; rw [h0]; rfl
  unfold getK
  rw [ok_not ho, limR_err (by decide)]
end
theorem isW_put {s : ByteArray} {m : Nat} {n : Int} (h : (m : Int) = n) : isW (s, m, 0) n = true := by unfold isW; rw [decide_eq_true rfl, decide_eq_true h]; rfl
theorem isW_other {s : ByteArray} {m e : Nat} {n : Int} (h : (m : Int) ≠ n) : isW (s, m, e) n = false := by unfold isW; rw [decide_eq_false h, Bool.and_false]
theorem isW_none {s : ByteArray} {m e : Nat} {n : Int} (h : e ≠ 0) : isW (s, m, e) n = false := by unfold isW; rw [decide_eq_false h, Bool.false_and]
theorem wText_put {s : ByteArray} {m : Nat} {n : Int} (h : (m : Int) = n) : wText (s, m, 0) n = s := by unfold wText; rw [isW_put h, if_pos rfl]
end Sl
end Go.Proofs.YtnmgkkjnjllpbaaGreatDoor
