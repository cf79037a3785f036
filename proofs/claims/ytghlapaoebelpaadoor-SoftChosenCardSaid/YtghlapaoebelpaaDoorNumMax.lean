/-
  The program's whole numbers (package num): Max: what it comes to. Conditions: numbers are such as an int holds, and cells hold what is said.
-/
import Derived.Test.YtghlapaoebelpaaDoorNum
import Derived.Test.YtghlapaoebelpaaDoorNumRows
namespace Go.Proofs.YtghlapaoebelpaaDoor
open Go.ChangeShapes Go.WideShapes Go.ChangeAt Go.RowKit Nm

theorem max_any (first : Int) (b off len cap : Nat) (zs : List Int) (w : World) (hz : zs.length = len) (hm : len ≤ maxLen) (hc : Holds w b off zs) :
    Calls Tryd.prog 21 #[.int .i64 first, .slice (some ⟨b, off, none⟩) len cap] w fun e w' => e = .returned (.int .i64 (most first zs)) ∧ w = w' := by
  unfold maxLen at hm
  subst hz
  go_enter Tryd.func21, Tryd.ntmps21
  go_wp2
  go_loop [5, 11] (fun m i => ∃ k : Nat, k ≤ zs.length ∧ i = .int .i64 k ∧ m = .int .i64 (most first (zs.take k))) (fun _ i => zs.length - (intOf i).toNat)
  case atStart => exact ⟨0, Nat.zero_le _, rfl, rfl⟩
  case round =>
    obtain ⟨k, hk, rfl, rfl⟩ := hrel
    by_cases hlt : k < zs.length
    · have hcell := hc k hlt
      have HN := Lib.hid (most_next first zs k hlt)
      clear hc
      go_wp2
      go_round
      case rel => exact ⟨k + 1, by omega, by go_num, by rw [HN.out]⟩
      case measure => simp [intOf]; omega
    · go_wp2
      go_ret
      exact ⟨ret_i (by rw [List.take_of_length_le (by omega)]), rfl⟩

theorem max_nil (first : Int) (w : World) :
    Calls Tryd.prog 21 #[.int .i64 first, .slice none 0 0] w fun e w' => e = .returned (.int .i64 first) ∧ w = w' := by
  go_enter Tryd.func21, Tryd.ntmps21
  go_wp2
  go_loop [5, 11] (fun m i => i = .int .i64 0 ∧ m = .int .i64 first) (fun _ _ => 0)
  case atStart => exact ⟨rfl, rfl⟩
  case round =>
    obtain ⟨rfl, rfl⟩ := hrel
    go_wp2
    go_ret
    exact ⟨rfl, rfl⟩
end Go.Proofs.YtghlapaoebelpaaDoor
