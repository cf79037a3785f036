/-
  The program's whole numbers (package num): Div: what it comes to. Conditions: numbers are such as an int holds.
-/
import Derived.Test.YtfpdlcblaodflaaDoorNum
namespace Go.Proofs.YtfpdlcblaodflaaDoor
open Go.ChangeShapes Go.WideShapes Go.ChangeAt Go.RowKit Nm

theorem div_any (a b : Int) (w : World) (ha : Fits a) :
    Calls Tryd.prog 15 #[.int .i64 a, .int .i64 b] w fun e w' => e = .returned (.int .i64 (div a b)) ∧ w = w' := by
  by_cases h0 : b = 0
  · subst h0
    go_enter Tryd.func15, Tryd.ntmps15
    go_wp2
    go_ret
    exact ⟨ret_i rfl, rfl⟩
  by_cases h1 : a = -9223372036854775808 ∧ b = -1
  · obtain ⟨rfl, rfl⟩ := h1
    go_enter Tryd.func15, Tryd.ntmps15
    go_wp2
    go_ret
    exact ⟨ret_i rfl, rfl⟩
  have hd : div a b = a.fdiv b := by simp [div, h0, h1]
  rw [hd]
  clear hd
  have HA := Lib.hid ha
  have HN := Lib.hid h1
  clear ha
  have hg : (a == -9223372036854775808 && b == -1) = false := by
    cases e : (a == -9223372036854775808 && b == -1) with
    | false => rfl
    | true => exact absurd (by simpa using e) h1
  clear h1
  go_enter Tryd.func15, Tryd.ntmps15
  go_wp2
  all_goals go_ret
  all_goals refine ⟨ret_i ?_, rfl⟩
  all_goals first
    | exact div_w1 a b HA.out h0 HN.out ‹_›
    | exact div_w2 a b HA.out h0 HN.out ‹_›
    | exact div_w3 a b HA.out h0 HN.out ‹_›
    | exact div_m1 a b HA.out h0 HN.out ‹_› ‹_›
    | exact div_m2 a b HA.out h0 HN.out ‹_› ‹_›
    | exact div_m3 a b HA.out h0 HN.out ‹_› ‹_›
    | exact absurd ⟨‹_›, eq_of_beq ‹(b == -1) = true›⟩ HN.out
end Go.Proofs.YtfpdlcblaodflaaDoor
