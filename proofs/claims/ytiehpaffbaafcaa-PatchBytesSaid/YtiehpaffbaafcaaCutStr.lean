/-
  Parts of a string as the walk takes them: s[i:j], s[:j], s[i:]. No program's function here. Conditions: both ends lie within the string.
-/
import Derived.Test.YtiehpaffbaafcaaBase
namespace Go.Proofs.Ytiehpaffbaafcaa
open Go.ChangeShapes Go.WideShapes Go.ChangeAt Go.RowKit

theorem str_cut (q : ByteArray) (i j : Nat) (I J : Int) (hI : I = (i : Int)) (hJ : J = (j : Int)) (h1 : i ≤ j) (h2 : j ≤ q.size) (W : World) : (Instr.slice 9 (.string q) (some (.int .i64 I)) (some (.int .i64 J)) none).run Try.prog W = .ok (.string (q.extract i j)) W := by
  subst hI hJ
  have := run_slice_string (P := Try.prog) W 9 q .i64 .i64 (i : Int) (j : Int) Try.underlying9 (by omega) (by omega) (by omega)
  simpa using this
theorem str_to (q : ByteArray) (j : Nat) (J : Int) (hJ : J = (j : Int)) (h2 : j ≤ q.size) (W : World) : (Instr.slice 9 (.string q) none (some (.int .i64 J)) none).run Try.prog W = .ok (.string (q.extract 0 j)) W := by
  subst hJ
  have := run_slice_string_to_if (P := Try.prog) W 9 q .i64 (j : Int) Try.underlying9
  rw [if_pos ⟨by omega, by omega⟩] at this
  simpa using this
theorem str_from (q : ByteArray) (i : Nat) (I : Int) (hI : I = (i : Int)) (h : i ≤ q.size) (W : World) : (Instr.slice 9 (.string q) (some (.int .i64 I)) none none).run Try.prog W = .ok (.string (q.extract i q.size)) W := by
  subst hI
  have := run_slice_string_from_if (P := Try.prog) W 9 q .i64 (i : Int) Try.underlying9
  rw [if_pos ⟨by omega, by omega⟩] at this
  simpa using this
end Go.Proofs.Ytiehpaffbaafcaa
