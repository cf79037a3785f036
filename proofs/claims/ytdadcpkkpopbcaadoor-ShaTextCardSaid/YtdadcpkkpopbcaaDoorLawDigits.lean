/-
  The law's own helper: whether bytes are 64 digits. Condition: at most 200 bytes.
-/
import Derived.Test.YtdadcpkkpopbcaaDoorRefRow
import Derived.Test.YtdadcpkkpopbcaaDoorShaText
namespace Go.Proofs.YtdadcpkkpopbcaaDoor
open Go.ChangeShapes Go.WideShapes Go.ChangeAt Go.RowKit Sh

/-- A digit, as the document writes it. -/
def isHex (b : UInt8) : Bool := (48 ≤ b && b ≤ 57) || (97 ≤ b && b ≤ 102)
/-- 64 digits. -/
def hexText (q : ByteArray) : Bool := decide (q.size = 64) && q.data.toList.all isHex

theorem isHex_at (b : UInt8) : isHex b = true ↔ (48 ≤ b.toNat ∧ b.toNat ≤ 57) ∨ (97 ≤ b.toNat ∧ b.toNat ≤ 102) := by
  unfold isHex
  simp [UInt8.le_iff_toNat_le]
theorem hexText_of (q : ByteArray) (h : ∀ j, j < q.size → isHex (byteAt q.data.toList j) = true) : hexText q = decide (q.size = 64) := by
  unfold hexText
  have : q.data.toList.all isHex = true := by
    rw [List.all_eq_true]
    intro x hx
    obtain ⟨j, hj, rfl⟩ := List.getElem_of_mem hx
    have := h j hj
    unfold byteAt at this
    rwa [List.getD_eq_getElem?_getD, List.getElem?_eq_getElem hj] at this
  rw [this, Bool.and_true]
theorem hexText_not (q : ByteArray) (k : Nat) (hk : k < q.size) (h : ¬ isHex (byteAt q.data.toList k) = true) : hexText q = false := by
  unfold hexText
  have : q.data.toList.all isHex = false := by
    rw [List.all_eq_false]
    refine ⟨q.data.toList[k]'hk, List.getElem_mem _, ?_⟩
    unfold byteAt at h
    rwa [List.getD_eq_getElem?_getD, List.getElem?_eq_getElem (show k < q.data.toList.length from hk)] at h
  rw [this, Bool.and_false]
set_option maxHeartbeats 800000 in
theorem digits_any (q : ByteArray) (w : World) (hq : q.size ≤ 200) :
    Calls Tryd.prog 19 #[.string q] w fun e w' => e = .returned (.bool (hexText q)) ∧ w = w' := by
  have HQ := Lib.hid hq
  go_enter Tryd.func19, Tryd.ntmps19
  go_wp2_with (fail)
  go_loopw [3] (fun i wr => ∃ k : Nat, k ≤ q.size ∧ i = .int .i64 k ∧ (∀ j, j < k → isHex (byteAt q.data.toList j) = true) ∧ w = wr) (fun i _ => q.size - (intOf i).toNat)
  case atStart => exact ⟨0, Nat.zero_le _, rfl, fun j hj => by omega, rfl⟩
  case round =>
    obtain ⟨k, hk, rfl, hj, rfl⟩ := hrel
    have HJ := Lib.hid hj
    clear hj
    by_cases hlt : k < q.size
    · have hx := fun W => index_str q k hlt (k : Int) rfl W
      have HN := Lib.hid (hexText_not q k hlt)
      have HA := Lib.hid (isHex_at (byteAt q.data.toList k))
      have H1 := Lib.hid (show isHex (byteAt q.data.toList k) = true → ∀ j, j < k + 1 → isHex (byteAt q.data.toList j) = true from fun h j hj => by
        rcases Nat.lt_or_ge j k with h' | h'
        · exact HJ.out j h'
        · rw [show j = k by omega]; exact h)
      generalize byteAt q.data.toList k = b at hx HN HA H1
      have lk : (k : Int) < (q.size : Int) := by omega
      rcases (show b.toNat < 48 ∨ (48 ≤ b.toNat ∧ b.toNat ≤ 57) ∨ (57 < b.toNat ∧ b.toNat < 97) ∨ (97 ≤ b.toNat ∧ b.toNat ≤ 102) ∨ 102 < b.toNat by omega) with h | h | h | h | h
      · have a1 : (b.toNat : Int) < 48 := by omega
        have a2 : (b.toNat : Int) < 97 := by omega
        go_wp2
        go_ret
        exact ⟨congrArg (fun x => Ending.returned (Value.bool x)) (HN.out (by rw [HA.out]; omega)).symm, rfl⟩
      · have a1 : ¬ (b.toNat : Int) < 48 := by omega
        have a2 : ¬ (57 : Int) < (b.toNat : Int) := by omega
        go_wp2
        go_roundw
        case rel => exact ⟨k + 1, by omega, by go_num, H1.out (HA.out.2 (.inl h)), trivial⟩
        case measure => simp [intOf]; omega
      · have a1 : ¬ (b.toNat : Int) < 48 := by omega
        have a2 : (57 : Int) < (b.toNat : Int) := by omega
        have a3 : (b.toNat : Int) < 97 := by omega
        go_wp2
        go_ret
        exact ⟨congrArg (fun x => Ending.returned (Value.bool x)) (HN.out (by rw [HA.out]; omega)).symm, rfl⟩
      · have a1 : ¬ (b.toNat : Int) < 48 := by omega
        have a2 : (57 : Int) < (b.toNat : Int) := by omega
        have a3 : ¬ (b.toNat : Int) < 97 := by omega
        have a4 : ¬ (102 : Int) < (b.toNat : Int) := by omega
        go_wp2
        go_roundw
        case rel => exact ⟨k + 1, by omega, by go_num, H1.out (HA.out.2 (.inr h)), trivial⟩
        case measure => simp [intOf]; omega
      · have a1 : ¬ (b.toNat : Int) < 48 := by omega
        have a2 : (57 : Int) < (b.toNat : Int) := by omega
        have a3 : ¬ (b.toNat : Int) < 97 := by omega
        have a4 : (102 : Int) < (b.toNat : Int) := by omega
        go_wp2
        go_ret
        exact ⟨congrArg (fun x => Ending.returned (Value.bool x)) (HN.out (by rw [HA.out]; omega)).symm, rfl⟩
    · have HK := Lib.hid (show k = q.size by omega)
      have HE := Lib.hid (hexText_of q fun j hj => HJ.out j (by have := HK.out; omega))
      go_wp2
      go_ret
      rw [HE.out]
      refine ⟨congrArg (fun x => Ending.returned (Value.bool x)) ?_, rfl⟩
      by_cases e : q.size = 64
      · rw [e]; rfl
      · rw [decide_eq_false e]
        exact beq_eq_false_iff_ne.2 (by omega)
end Go.Proofs.YtdadcpkkpopbcaaDoor
