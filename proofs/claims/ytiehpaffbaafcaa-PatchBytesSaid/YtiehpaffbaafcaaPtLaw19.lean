/-
  Layer 19's law: great, and the document's examples. Condition of great: each deed's bytes are no more than a machine holds.
-/
import Derived.Test.YtiehpaffbaafcaaPt6
import Derived.Test.YtiehpaffbaafcaaBuildNone
namespace Go.Proofs.Ytiehpaffbaafcaa
open Go.ChangeShapes Go.WideShapes Go.ChangeAt Go.RowKit Pn Pt
namespace Pt
theorem din_alloc (w : World) (L : List Deed) (cs : Array Value) (t : TypeId) (h : cs = (dsL L).toArray) : DIn (w.alloc (.cells cs t)) (some ⟨w.heap.size, 0, none⟩) L := fun _ => by
  subst h
  refine ⟨_, 0, rfl, fun i o ho => ?_⟩
  have ha := dsL_at L i o ho
  have hc := fun k => cell_of_row _ _ k _ _ _ (heap_alloc_new w (.cells (dsL L).toArray t))
  refine ⟨?_, ?_, ?_, ?_⟩
  · rw [Nat.zero_add, hc, List.getElem?_toArray]; exact (ha 0 (by omega)).trans rfl
  · rw [Nat.zero_add, hc, List.getElem?_toArray]; exact (ha 1 (by omega)).trans rfl
  · rw [Nat.zero_add, hc, List.getElem?_toArray]; exact (ha 2 (by omega)).trans rfl
  · rw [Nat.zero_add, hc, List.getElem?_toArray]; exact (ha 3 (by omega)).trans rfl
theorem pt_less2 (j n : Nat) (h : j < n) : n - ((j : Int) + 1).toNat < n - (j : Int).toNat := by omega
/-- What great answers. -/
def GreatSays (w : World) (e : Ending) (w' : World) : Prop := ∃ g : Bool, e = .returned (.bool g) ∧ w = w'
end Pt
set_option maxRecDepth 100000 in
set_option maxHeartbeats 3200000 in
theorem pt_great (w : World) (A : Option Addr) (n c : Nat) (L : List Deed) (hL : L.length = n) (hn : n ≤ maxLen) (hA : DIn w A L) :
    Calls Try.prog 6 #[.slice A n c] w (GreatSays w) := by
  have HL := Lib.hid hL
  have HA := Lib.hid hA
  have HN := Lib.hid hn
  clear hL hA hn
  go_enter Try.func6, Try.ntmps6
  go_wp2_with (fail)
  go_loopw [3, 4] (fun m i wr => ∃ (j : Nat) (k : Int), i = .int .i64 (j : Int) ∧ m = .int .i64 k ∧ j ≤ n ∧ wr = w) (fun _ i _ => match i with | .int _ k => n - k.toNat | _ => 0)
  case atStart => exact ⟨0, 0, rfl, rfl, Nat.zero_le _, rfl⟩
  case round =>
    obtain ⟨j, k, rfl, rfl, hj, rfl⟩ := hrel
    have x2 : 0 ≤ (j : Int) := by omega
    by_cases hlt : j < n
    · have x0 : (j : Int) < (n : Int) := by omega
      have x1 : decide ((j : Int) < (n : Int)) = true := decide_eq_true x0
      by_cases hkb : k ≤ 16384
      · have y1 : decide (k ≤ 16384) = true := decide_eq_true hkb
        have hjl : j < L.length := by rw [HL.out]; exact hlt
        obtain ⟨pb, po, rfl, hc⟩ := HA.out (by omega)
        obtain ⟨c0, c1, c2, c3⟩ := hc j _ (deed_at hjl)
        have HJ := Lib.hid (show j + 1 ≤ n by omega)
        generalize (L.getD j dz).d = d at c3
        have HW1 := Lib.hid (IntWalk.wrap64_in ((j : Int) + 1) (by have := HN.out; unfold maxLen at this; omega))
        clear hc c0 c1 c2 hjl hlt
        go_wp2_with (fail)
        try rw [HW1.out]
        exact ⟨⟨j + 1, _, rfl, rfl, HJ.out, by first | rfl | trivial⟩, pt_less j n HJ.out⟩
      · have y1 : decide (k ≤ 16384) = false := decide_eq_false hkb
        go_wp2_with (fail)
        refine bodyPost_ret (results_tmp rfl _ _ _) rfl ?_
        exact ⟨_, rfl, rfl⟩
    · have hje : j = n := by omega
      subst hje
      have x0 : ¬ (j : Int) < (j : Int) := by omega
      have x1 : decide ((j : Int) < (j : Int)) = false := decide_eq_false x0
      go_wp2_with (fail)
      refine bodyPost_ret (results_tmp rfl _ _ _) rfl ?_
      exact ⟨_, rfl, rfl⟩
namespace Pt
def awB : ByteArray := ⟨#[97, 98, 99, 100]⟩
def awL : List Deed := [⟨1, 1, 2, ⟨#[]⟩⟩, ⟨2, 0, 0, ⟨#[120]⟩⟩, ⟨3, 0, 0, ⟨#[1]⟩⟩]
def awM : List Deed := [⟨2, 0, 0, ⟨#[120]⟩⟩]
def awC : List Deed := [⟨1, 0, 2, ⟨#[]⟩⟩]
theorem aw_app : (⟨(appD awB [] awL).1.toArray⟩ : ByteArray) = ⟨#[98, 99, 120, 98]⟩ ∧ (appD awB [] awL).2 = 0 := by decide +kernel
theorem aw_not : (⟨(appD ⟨#[97]⟩ [] awC).1.toArray⟩ : ByteArray) = ⟨#[]⟩ ∧ (appD ⟨#[97]⟩ [] awC).2 = 1 := by decide +kernel
theorem aw_byt : canD awM = true ∧ (⟨(allL awM).toArray⟩ : ByteArray) = ⟨#[1, 0, 0, 0, 2, 1, 0, 0, 0, 120]⟩ := by decide +kernel
theorem aw_cost : costD [] = 4 := by decide +kernel
end Pt
theorem opThree (a0 a1 a2 b0 b1 b2 c0 c1 c2 : Int) (a3 b3 c3 : ByteArray) : Try.prog.builtSlice 42 3 [(0, .agg #[.int .i64 a0, .int .i64 a1, .int .i64 a2, .string a3]), (1, .agg #[.int .i64 b0, .int .i64 b1, .int .i64 b2, .string b3]), (2, .agg #[.int .i64 c0, .int .i64 c1, .int .i64 c2, .string c3])] = some #[.int .i64 a0, .int .i64 a1, .int .i64 a2, .string a3, .int .i64 b0, .int .i64 b1, .int .i64 b2, .string b3, .int .i64 c0, .int .i64 c1, .int .i64 c2, .string c3] := by kernel_rfl
set_option maxRecDepth 100000 in
set_option maxHeartbeats 3200000 in
theorem awake19 (w : World) : Calls Try.prog 5 #[] w fun e w' => e = .returned (.bool true) ∧ Below w.heap.size w w' := by
  have HA := Lib.hid (fun (W : World) => show Calls Try.prog 13 #[.string ⟨#[97, 98, 99, 100]⟩, .slice (some ⟨W.heap.size, 0, none⟩) 3 3] (W.alloc (.cells #[.int .i64 1, .int .i64 1, .int .i64 2, .string ⟨#[]⟩, .int .i64 2, .int .i64 0, .int .i64 0, .string ⟨#[120]⟩, .int .i64 3, .int .i64 0, .int .i64 0, .string ⟨#[1]⟩] 42)) fun e w' => e = .returned (.tuple #[.string ⟨#[98, 99, 120, 98]⟩, .int .i64 0]) ∧ Below W.heap.size W w' from by
    have := pt_apply (W.alloc (.cells #[.int .i64 1, .int .i64 1, .int .i64 2, .string ⟨#[]⟩, .int .i64 2, .int .i64 0, .int .i64 0, .string ⟨#[120]⟩, .int .i64 3, .int .i64 0, .int .i64 0, .string ⟨#[1]⟩] 42)) awB (by decide) (some ⟨W.heap.size, 0, none⟩) 3 3 awL rfl (by omega) (din_alloc W awL _ _ rfl)
    rw [aw_app.1, aw_app.2] at this
    exact this.mono fun e w' ⟨h1, h2⟩ => ⟨h1, ((Below.refl _ _).alloc (Nat.le_refl _) _).trans (h2.mono (by simp))⟩)
  have HC := Lib.hid (fun (W : World) => show Calls Try.prog 13 #[.string ⟨#[97]⟩, .slice (some ⟨W.heap.size, 0, none⟩) 1 1] (W.alloc (.cells #[.int .i64 1, .int .i64 0, .int .i64 2, .string ⟨#[]⟩] 42)) fun e w' => e = .returned (.tuple #[.string ⟨#[]⟩, .int .i64 1]) ∧ Below W.heap.size W w' from by
    have := pt_apply (W.alloc (.cells #[.int .i64 1, .int .i64 0, .int .i64 2, .string ⟨#[]⟩] 42)) ⟨#[97]⟩ (by decide) (some ⟨W.heap.size, 0, none⟩) 1 1 awC rfl (by omega) (din_alloc W awC _ _ rfl)
    rw [aw_not.1, aw_not.2] at this
    exact this.mono fun e w' ⟨h1, h2⟩ => ⟨h1, ((Below.refl _ _).alloc (Nat.le_refl _) _).trans (h2.mono (by simp))⟩)
  have HB := Lib.hid (fun (W : World) => show Calls Try.prog 7 #[.slice (some ⟨W.heap.size, 0, none⟩) 1 1] (W.alloc (.cells #[.int .i64 2, .int .i64 0, .int .i64 0, .string ⟨#[120]⟩] 42)) fun e w' => e = .returned (.tuple #[.string ⟨#[1, 0, 0, 0, 2, 1, 0, 0, 0, 120]⟩, .int .i64 0]) ∧ Below W.heap.size W w' from by
    have := pt_bytes (W.alloc (.cells #[.int .i64 2, .int .i64 0, .int .i64 0, .string ⟨#[120]⟩] 42)) (some ⟨W.heap.size, 0, none⟩) 1 1 awM rfl (din_alloc W awM _ _ rfl)
    rw [if_pos aw_byt.1, aw_byt.2] at this
    exact this.mono fun e w' ⟨h1, h2⟩ => ⟨h1, ((Below.refl _ _).alloc (Nat.le_refl _) _).trans (h2.mono (by simp))⟩)
  have HD := Lib.hid (fun (W : World) => show Calls Try.prog 10 #[.slice none 0 0] W fun e w' => e = .returned (.int .i64 4) ∧ Below W.heap.size W w' from by
    have := pt_cost W none 0 0 [] rfl (DIn.nil _ _)
    rw [aw_cost] at this
    exact this)
  go_enter Try.func5, Try.ntmps5
  go_wp2_with (first | (refine Great.wpList_buildSliceTo rfl 22 42 3 #[(0, .tmp 8), (1, .tmp 9), (2, .tmp 10)] rfl _ rfl (some 11) rfl Try.underlying22 _ (opThree 1 1 2 2 0 0 3 0 0 ⟨#[]⟩ ⟨#[120]⟩ ⟨#[1]⟩) ?_))
  refine (HA.out w).mono ?_
  rintro e w1 ⟨rfl, b1⟩
  have B1 := Lib.hid b1
  clear b1
  go_wp2_with (first | (refine Great.wpList_buildSliceTo rfl 22 42 1 #[(0, .tmp 16)] rfl _ rfl (some 17) rfl Try.underlying22 _ (opOne 2 0 0 ⟨#[120]⟩) ?_))
  refine (HB.out w1).mono ?_
  rintro e w2 ⟨rfl, b2⟩
  have B2 := Lib.hid (B1.out.trans (b2.mono B1.out.size))
  clear b2
  go_wp2_with (first | (refine Great.wpList_buildSliceTo rfl 22 42 1 #[(0, .tmp 22)] rfl _ rfl (some 23) rfl Try.underlying22 _ (opOne 1 0 2 ⟨#[]⟩) ?_))
  refine (HC.out w2).mono ?_
  rintro e w3 ⟨rfl, b3⟩
  have B3 := Lib.hid (B2.out.trans (b3.mono B2.out.size))
  clear b3
  go_wp2_with (first | (go_at_call 10; refine (HD.out _).mono ?_; rintro e w4 ⟨rfl, b4⟩; have B4 := Lib.hid (B3.out.trans (b4.mono B3.out.size)); clear b4))
  refine bodyPost_ret (results_tmp rfl _ _ _) rfl ?_
  exact ⟨rfl, B4.out⟩
end Go.Proofs.Ytiehpaffbaafcaa
