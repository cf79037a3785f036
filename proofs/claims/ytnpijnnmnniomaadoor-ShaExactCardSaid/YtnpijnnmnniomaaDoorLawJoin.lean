/-
  The law's own helper: texts, one behind the other. Conditions: the texts stand where it looks; few, short.
-/
import Derived.Test.YtnpijnnmnniomaaDoorRefOf
namespace Go.Proofs.YtnpijnnmnniomaaDoor
open Go.ChangeShapes Go.WideShapes Go.ChangeAt Go.RowKit Sh

/-- The first k texts, joined. -/
def joinB (ss : List ByteArray) : Nat → ByteArray
  | 0 => ByteArray.empty
  | k + 1 => joinB ss k ++ ss.getD k ByteArray.empty
theorem joinB_list (ss : List ByteArray) (k : Nat) (h : k ≤ ss.length) : (joinB ss k).data.toList = flat (ss.take k) := by
  induction k with
  | zero => rfl
  | succ k ih =>
    rw [flat_next ss k (by omega), ← ih (by omega)]
    show (joinB ss k ++ ss.getD k ByteArray.empty).data.toList = _
    rw [ByteArray.data_append, Array.toList_append]

theorem joinB_size (ss : List ByteArray) (n : Nat) (h : ∀ k, k < n → (ss.getD k ByteArray.empty).size ≤ 300) (k : Nat) (hk : k ≤ n) : (joinB ss k).size ≤ 300 * k := by
  induction k with
  | zero => exact Nat.le_refl _
  | succ k ih =>
    have h1 := ih (by omega)
    have h2 := h k (by omega)
    show (joinB ss k ++ ss.getD k ByteArray.empty).size ≤ _
    rw [ByteArray.size_append]
    omega

set_option maxHeartbeats 800000 in
theorem joined_any (ss : List ByteArray) (w : World) (A : Option Addr) (n cap : Nat) (hnb : n ≤ 1000) (hsz : ∀ k, k < n → (ss.getD k ByteArray.empty).size ≤ 300)
    (hA : 0 < n → ∃ pb po, A = some ⟨pb, po, none⟩ ∧ ∀ k, k < n → w.cell? ⟨pb, po + k, none⟩ = some (.string (ss.getD k ByteArray.empty))) :
    Calls Tryd.prog 11 #[.slice A n cap] w fun e w' => e = .returned (.string (joinB ss n)) ∧ w = w' := by
  have HA := Lib.hid hA
  clear hA
  have HSZ := Lib.hid hsz
  clear hsz
  go_enter Tryd.func11, Tryd.ntmps11
  go_wp2_with (fail)
  go_loopw [3, 4] (fun v i wr => ∃ k : Nat, k ≤ n ∧ v = .string (joinB ss k) ∧ i = .int .i64 k ∧ w = wr) (fun _ i _ => n - (intOf i).toNat)
  case atStart => exact ⟨0, Nat.zero_le _, rfl, rfl, rfl⟩
  case round =>
    obtain ⟨k, hk, rfl, rfl, rfl⟩ := hrel
    by_cases hlt : k < n
    · obtain ⟨pb, po, rfl, hc⟩ := HA.out (by omega)
      have hck := hc k hlt
      have l0 : 0 ≤ (k : Int) := by omega
      have m0 : (k : Int) < (n : Int) := by omega
      have hz := HSZ.out k hlt
      have hj := joinB_size ss n HSZ.out k hk
      have HJ := Lib.hid (show joinB ss (k + 1) = joinB ss k ++ ss.getD k ByteArray.empty from rfl)
      generalize ss.getD k ByteArray.empty = x at hck hz HJ
      have hs : ¬ 9223372036854775807 < (joinB ss k).size + x.size := by omega
      clear hc
      go_wp2
      go_roundw
      case rel => exact ⟨k + 1, by omega, by rw [HJ.out], by go_num, trivial⟩
      case measure => simp [intOf]; omega
    · have HK := Lib.hid (show k = n by omega)
      go_wp2
      go_ret
      have e := HK.out
      subst e
      exact ⟨rfl, rfl⟩
end Go.Proofs.YtnpijnnmnniomaaDoor
