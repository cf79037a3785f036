/-
  The program's whole numbers (package num): Dot: what it comes to. Conditions: numbers are such as an int holds, and cells hold what is said.
-/
import Derived.Test.YtclobdeaocjnoaaNumPlus
import Derived.Test.YtclobdeaocjnoaaNumRows
namespace Go.Proofs.Ytclobdeaocjnoaa
open Go.ChangeShapes Go.WideShapes Go.ChangeAt Go.RowKit Nm

theorem dot_any (b off len cap b' off' len' cap' : Nat) (zs zs' : List Int) (w : World) (hz : zs.length = len) (hz' : zs'.length = len') (hm : len ≤ maxLen) (hm' : len' ≤ maxLen) (hc : Holds w b off zs) (hc' : Holds w b' off' zs') :
    Calls Try.prog 22 #[.slice (some ⟨b, off, none⟩) len cap, .slice (some ⟨b', off', none⟩) len' cap'] w fun e w' => e = .returned (.int .i64 (dot zs zs')) ∧ ∃ n, w' = w.drewN n := by
  unfold maxLen at hm hm'
  subst hz hz'
  by_cases hle : zs'.length < zs.length
  · have HD := Lib.hid (dot_all zs zs' zs'.length (by omega))
    go_enter Try.func22, Try.ntmps22
    go_wp2
    go_loopw [5, 12] (fun m i w1 => ∃ k d : Nat, k ≤ zs'.length ∧ i = .int .i64 k ∧ m = .int .i64 (dot (zs.take k) (zs'.take k)) ∧ w1 = w.drewN d) (fun _ i _ => zs'.length - (intOf i).toNat)
    case atStart => exact ⟨0, 0, Nat.zero_le _, rfl, rfl, rfl⟩
    case round =>
      obtain ⟨k, d, hk, rfl, rfl, rfl⟩ := hrel
      by_cases hlt : k < zs'.length
      · have hcell := hc.at (show k < zs.length by omega)
        have hcell' := hc'.at (show k < zs'.length by omega)
        have HX := Lib.hid (dot_next zs zs' k (by omega) (by omega))
        have hb := dot_in (zs.take k) (zs'.take k)
        clear hc hc'
        go_wp2
        go_quiet ((first | (go_at_call 32; (first | exact quiet_here2 (product_any _ _ _) | exact quiet_here (product_any _ _ _))) | (go_at_call 31; (first | exact quiet_here2 (plus_any _ _ _ hb.1 hb.2) | exact quiet_here (plus_any _ _ _ hb.1 hb.2)))))
        go_wp2
        go_roundw
        case rel => exact ⟨k + 1, _, by omega, by go_num, by rw [HX.out], rfl⟩
        case measure => simp [intOf]; omega
      · obtain rfl : k = zs'.length := by omega
        go_wp2
        go_ret
        exact ⟨ret_i HD.out, _, rfl⟩
  · have HD := Lib.hid (dot_all zs zs' zs.length (by omega))
    go_enter Try.func22, Try.ntmps22
    go_wp2
    go_loopw [5, 12] (fun m i w1 => ∃ k d : Nat, k ≤ zs.length ∧ i = .int .i64 k ∧ m = .int .i64 (dot (zs.take k) (zs'.take k)) ∧ w1 = w.drewN d) (fun _ i _ => zs.length - (intOf i).toNat)
    case atStart => exact ⟨0, 0, Nat.zero_le _, rfl, rfl, rfl⟩
    case round =>
      obtain ⟨k, d, hk, rfl, rfl, rfl⟩ := hrel
      by_cases hlt : k < zs.length
      · have hcell := hc.at (show k < zs.length by omega)
        have hcell' := hc'.at (show k < zs'.length by omega)
        have HX := Lib.hid (dot_next zs zs' k (by omega) (by omega))
        have hb := dot_in (zs.take k) (zs'.take k)
        clear hc hc'
        go_wp2
        go_quiet ((first | (go_at_call 32; (first | exact quiet_here2 (product_any _ _ _) | exact quiet_here (product_any _ _ _))) | (go_at_call 31; (first | exact quiet_here2 (plus_any _ _ _ hb.1 hb.2) | exact quiet_here (plus_any _ _ _ hb.1 hb.2)))))
        go_wp2
        go_roundw
        case rel => exact ⟨k + 1, _, by omega, by go_num, by rw [HX.out], rfl⟩
        case measure => simp [intOf]; omega
      · obtain rfl : k = zs.length := by omega
        go_wp2
        go_ret
        exact ⟨ret_i HD.out, _, rfl⟩
end Go.Proofs.Ytclobdeaocjnoaa
