/-
  Proved: ShaExact: of every row of up to ten texts of up to 300 bytes the sum is the document's. Condition (the card ties it): both tables lie as the program's text lays them.
-/
import Derived.Test.YtnpijnnmnniomaaDoorLawJoin
import Derived.Test.YtnpijnnmnniomaaDoorShaOfs
namespace Go.Proofs.YtnpijnnmnniomaaDoor.shaExact
open Go.ChangeShapes Go.WideShapes Go.ChangeAt Go.RowKit Sh

theorem flat_size (ss : List ByteArray) (n : Nat) (hn : n = ss.length) (h : ∀ k, k < n → (ss.getD k ByteArray.empty).size ≤ 300) : (flat ss).length ≤ 300 * n := by
  have h1 := joinB_size ss n h n (Nat.le_refl _)
  have h2 := joinB_list ss n (by omega)
  rw [hn, List.take_length] at h2
  rw [← h2]
  rw [hn] at h1
  rw [hn]
  exact h1
theorem join_all (ss : List ByteArray) (n : Nat) (hn : n = ss.length) : (joinB ss n).data.toList = flat ss := by
  rw [joinB_list ss n (by omega), hn, List.take_length]

set_option maxRecDepth 100000 in
set_option maxHeartbeats 1600000 in
theorem walk (ss : List ByteArray) (w : World) (A : Option Addr) (n cap : Nat) (hn : n = ss.length) (hnb : n ≤ 9223372036854775807) (hT : Tabs w)
    (hA : 0 < n → ∃ pb po, A = some ⟨pb, po, none⟩ ∧ ∀ k, k < n → w.cell? ⟨pb, po + k, none⟩ = some (.string (ss.getD k ByteArray.empty))) :
    Calls Tryd.prog 3 #[.slice A n cap] w fun e w' => e = .returned (.bool true) ∧ Below w.heap.size w w' := by
  have HT := Lib.hid hT
  have HA := Lib.hid hA
  have HN := Lib.hid hn
  clear hT hA hn
  go_enter Tryd.func3, Tryd.ntmps3
  go_wp2_with (fail)
  refine (awake_any w HT.out).mono ?_
  rintro e w1 ⟨rfl, b1⟩
  have s1 := b1.size
  by_cases h10 : n ≤ 10
  · have h10i : ¬ (10 : Int) < (n : Int) := by omega
    go_wp2_with (fail)
    go_loopw [3] (fun i wr => ∃ k : Nat, k ≤ n ∧ i = .int .i64 k ∧ (∀ j, j < k → (ss.getD j ByteArray.empty).size ≤ 300) ∧ w1 = wr) (fun i _ => n - (intOf i).toNat)
    case atStart => exact ⟨0, Nat.zero_le _, rfl, fun j hj => by omega, rfl⟩
    case round =>
      obtain ⟨k, hk, rfl, hj, rfl⟩ := hrel
      have HJ := Lib.hid hj
      clear hj
      by_cases hlt : k < n
      · obtain ⟨pb, po, rfl, hc⟩ := HA.out (by omega)
        have hck := (b1.cell (p := ⟨pb, po + k, none⟩) (block_lt_of_cell (hc k hlt))).trans (hc k hlt)
        have l0 : 0 ≤ (k : Int) := by omega
        have m0 : (k : Int) < (n : Int) := by omega
        clear hc
        by_cases h3 : (ss.getD k ByteArray.empty).size ≤ 300
        · have H3 := Lib.hid (show ∀ j, j < k + 1 → (ss.getD j ByteArray.empty).size ≤ 300 from fun j hj => by
            rcases Nat.lt_or_ge j k with h | h
            · exact HJ.out j h
            · rw [show j = k by omega]; exact h3)
          generalize ss.getD k ByteArray.empty = x at hck h3
          have h3i : ¬ (300 : Int) < (x.size : Int) := by omega
          go_wp2
          go_roundw
          case rel => exact ⟨k + 1, by omega, by go_num, H3.out, trivial⟩
          case measure => simp [intOf]; omega
        · generalize ss.getD k ByteArray.empty = x at hck h3
          have h3i : (300 : Int) < (x.size : Int) := by omega
          go_wp2
          go_ret
          exact ⟨rfl, b1⟩
      · have HK := Lib.hid (show k = n by omega)
        go_wp2_with (fail)
        have hsz : ∀ j, j < n → (ss.getD j ByteArray.empty).size ≤ 300 := fun j hj => HJ.out j (by have := HK.out; omega)
        have hfl := flat_size ss n HN.out hsz
        have hA1 : ∀ W, Below w.heap.size w W → 0 < n → ∃ pb po, A = some ⟨pb, po, none⟩ ∧ ∀ k, k < n → W.cell? ⟨pb, po + k, none⟩ = some (.string (ss.getD k ByteArray.empty)) := fun W hW h0 => by
          obtain ⟨pb, po, e, hc⟩ := HA.out h0
          exact ⟨pb, po, e, fun k hk => (hW.cell (p := ⟨pb, po + k, none⟩) (block_lt_of_cell (hc k hk))).trans (hc k hk)⟩
        refine (of_here ss (flat ss) rfl w1 A n cap HN.out (by omega) (hA1 w1 b1) (HT.out.below b1).f (HT.out.below b1).k (by omega)).mono ?_
        rintro e w2 ⟨rfl, hb2⟩
        have b2 := b1.trans (hb2.mono s1)
        have s2 := b2.size
        clear hb2
        go_wp2_with (fail)
        refine (joined_any ss w2 A n cap (by omega) hsz (hA1 w2 b2)).mono ?_
        rintro e w3 ⟨rfl, rfl⟩
        go_wp2_with (fail)
        refine (refOf_any (joinB ss n) w2 (by have := joinB_size ss n hsz n (Nat.le_refl _); omega)).mono ?_
        rintro e w4 ⟨rfl, hb4⟩
        have b4 := b2.trans (hb4.mono s2)
        rw [join_all ss n HN.out, show digV (flat ss) = digF (sumF (flat ss)) from rfl]
        have hq : ∀ W, (binOp .eql 25 (.agg (digF (sumF (flat ss)))) (.agg (digF (sumF (flat ss))))).run Tryd.prog W = .ok (.bool true) W := fun W => by rw [run_eql_dig, same_refl]
        generalize sumF (flat ss) = F at hq ⊢
        go_wp2
        go_ret
        exact ⟨rfl, b4⟩
  · have h10i : (10 : Int) < (n : Int) := by omega
    go_wp2_with (fail)
    go_ret
    exact ⟨rfl, b1⟩
end Go.Proofs.YtnpijnnmnniomaaDoor.shaExact
