/-
  The program's whole numbers (package num): Min: what it comes to. Conditions: numbers are such as an int holds, and cells hold what is said.
-/
import Derived.Test.YtbfmaojffahjdaaNum
import Derived.Test.YtbfmaojffahjdaaNumRows
namespace Go.Proofs.Ytbfmaojffahjdaa
open Go.ChangeShapes Go.WideShapes Go.ChangeAt Go.RowKit Nm

theorem min_any (first : Int) (b off len cap : Nat) (zs : List Int) (w : World) (hz : zs.length = len) (hm : len ≤ maxLen) (hc : Holds w b off zs) :
    Calls Try.prog 21 #[.int .i64 first, .slice (some ⟨b, off, none⟩) len cap] w fun e w' => e = .returned (.int .i64 (least first zs)) ∧ w = w' := by
  unfold maxLen at hm
  subst hz
  go_enter Try.func21, Try.ntmps21
  go_wp2
  go_loop [5, 11] (fun m i => ∃ k : Nat, k ≤ zs.length ∧ i = .int .i64 k ∧ m = .int .i64 (least first (zs.take k))) (fun _ i => zs.length - (intOf i).toNat)
  case atStart => exact ⟨0, Nat.zero_le _, rfl, rfl⟩
  case round =>
    obtain ⟨k, hk, rfl, rfl⟩ := hrel
    by_cases hlt : k < zs.length
    · have hcell := hc k hlt
      have HN := Lib.hid (least_next first zs k hlt)
      clear hc
      go_wp2
      go_round
      case rel => exact ⟨k + 1, by omega, by go_num, by rw [HN.out]⟩
      case measure => simp [intOf]; omega
    · go_wp2
      go_ret
      exact ⟨ret_i (by rw [List.take_of_length_le (by omega)]), rfl⟩

theorem min_nil (first : Int) (w : World) :
    Calls Try.prog 21 #[.int .i64 first, .slice none 0 0] w fun e w' => e = .returned (.int .i64 first) ∧ w = w' := by
  go_enter Try.func21, Try.ntmps21
  go_wp2
  go_loop [5, 11] (fun m i => i = .int .i64 0 ∧ m = .int .i64 first) (fun _ _ => 0)
  case atStart => exact ⟨rfl, rfl⟩
  case round =>
    obtain ⟨rfl, rfl⟩ := hrel
    go_wp2
    go_ret
    exact ⟨rfl, rfl⟩
end Go.Proofs.Ytbfmaojffahjdaa
