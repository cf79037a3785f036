/-
  Package zone: what New, Len, Read, Write, Part answer. Conditions: the zone stands in its block, its disk in blocks of its own.
-/
import Derived.Test.YtmnponjngdnolaaZnSpec
import Derived.Test.YtmnponjngdnolaaDkImage
import Derived.Deep.RegionHeld3
namespace Go.Proofs.Ytmnponjngdnolaa
open Go.ChangeShapes Go.WideShapes Go.ChangeAt Go.RowKit Dk

/-- Whether there are n places, one at least, from f on, among m. -/
def withinB (f n m : Int) : Bool := decide (0 ≤ f) && (decide (1 ≤ n) && decide (f ≤ m - n))
theorem zone_within (w : World) (f n m : Int) (hm : 0 ≤ m) (hm2 : m ≤ 4096) (hn : n ≤ 9223372036854775807) :
    Calls Try.prog 24 #[.int .i64 f, .int .i64 n, .int .i64 m] w fun e w' => e = .returned (.bool (withinB f n m)) ∧ w = w' := by
  by_cases h0 : 0 ≤ f
  · have h0' : decide (0 ≤ f) = true := decide_eq_true h0
    by_cases h1 : 1 ≤ n
    · have h1' : decide (1 ≤ n) = true := decide_eq_true h1
      have e1 : IntKind.i64.wrap (m - n) = m - n := IntWalk.i64_in _ (by omega)
      unfold withinB
      rw [h0', h1', Bool.true_and, Bool.true_and]
      go_enter Try.func24, Try.ntmps24
      go_wp2
      refine bodyPost_ret (results_tmp rfl _ _ _) rfl ?_
      exact ⟨rfl, rfl⟩
    · have h1' : decide (1 ≤ n) = false := decide_eq_false h1
      unfold withinB
      rw [h0', h1', Bool.true_and, Bool.false_and]
      go_enter Try.func24, Try.ntmps24
      go_wp2
      refine bodyPost_ret (results_tmp rfl _ _ _) rfl ?_
      exact ⟨rfl, rfl⟩
  · have h0' : decide (0 ≤ f) = false := decide_eq_false h0
    unfold withinB
    rw [h0', Bool.false_and]
    go_enter Try.func24, Try.ntmps24
    go_wp2
    refine bodyPost_ret (results_tmp rfl _ _ _) rfl ?_
    exact ⟨rfl, rfl⟩
theorem withinB_true {f n m : Int} (h0 : 0 ≤ f) (h1 : 1 ≤ n) (h2 : f + n ≤ m) : withinB f n m = true := by
  unfold withinB
  rw [decide_eq_true h0, decide_eq_true h1, decide_eq_true (by omega)]
  rfl
section
variable (K : Nat → Prop) (w : World) (D : Nat) (x : St)
theorem zone_new (h : DiskAt K w D x) (f n : Nat) (hn : 1 ≤ n) (hfn : f + n ≤ x.n) :
    Calls Try.prog 7 #[.pointer (some ⟨D, 0, none⟩), .int .i64 (f : Int), .int .i64 (n : Int)] w fun e w' => ∃ Z, e = .returned (.tuple #[.pointer (some ⟨Z, 0, none⟩), .int .i64 0]) ∧ w.heap.size ≤ Z ∧ w'.heap[Z]? = some (zobj D f n) ∧ Below w.heap.size w w' := by
  have HL := Lib.hid (disk_len K w D x h)
  have hnb : x.n ≤ 4096 := by obtain ⟨_, _, _, _, _, _, h⟩ := h; exact h.nb
  have hw := zone_within w f n x.n (by omega) (by omega) (by omega)
  rw [withinB_true (by omega) (by omega) (by omega)] at hw
  have HW := Lib.hid hw
  clear h hw
  generalize x.n = m at HL HW hfn
  go_enter Try.func7, Try.ntmps7
  go_wp2_with (fail)
  refine HL.out.mono ?_
  rintro e w1 ⟨rfl, rfl⟩
  go_wp2_with (fail)
  refine HW.out.mono ?_
  rintro e w1 ⟨rfl, rfl⟩
  go_wp2
  refine bodyPost_ret (results_tmp2 rfl _ _ _) rfl ?_
  exact ⟨_, rfl, Nat.le_refl _, heap_alloc_new w _, (Below.refl _ _).alloc (Nat.le_refl _) _⟩
theorem zone_new_not (h : DiskAt K w D x) (f n : Int) (hn : n ≤ 9223372036854775807) (hb : withinB f n x.n = false) :
    Calls Try.prog 7 #[.pointer (some ⟨D, 0, none⟩), .int .i64 f, .int .i64 n] w fun e w' => e = .returned (.tuple #[.pointer none, .int .i64 1]) ∧ w = w' := by
  have HL := Lib.hid (disk_len K w D x h)
  have hnb : x.n ≤ 4096 := by obtain ⟨_, _, _, _, _, _, h⟩ := h; exact h.nb
  have hw := zone_within w f n x.n (by omega) (by omega) hn
  rw [hb] at hw
  have HW := Lib.hid hw
  clear h hw hb
  generalize x.n = m at HL HW
  go_enter Try.func7, Try.ntmps7
  go_wp2_with (fail)
  refine HL.out.mono ?_
  rintro e w1 ⟨rfl, rfl⟩
  go_wp2_with (fail)
  refine HW.out.mono ?_
  rintro e w1 ⟨rfl, rfl⟩
  go_wp2
  refine bodyPost_ret (results_tmp2 rfl _ _ _) rfl ?_
  exact ⟨rfl, rfl⟩
end
section
variable (w : World) (Z D f n : Nat) (hz : w.heap[Z]? = some (zobj D f n))
include hz
theorem zone_len : Calls Try.prog 18 #[.pointer (some ⟨Z, 0, none⟩)] w fun e w' => e = .returned (.int .i64 (n : Int)) ∧ w = w' := by
  have c2 := zone_c2 hz
  clear hz
  go_enter Try.func18, Try.ntmps18
  go_wp2
  go_ret
  exact ⟨rfl, rfl⟩
theorem zone_has (p : Int) : Calls Try.prog 25 #[.pointer (some ⟨Z, 0, none⟩), .int .i64 p] w fun e w' => e = .returned (.bool (decide (0 ≤ p) && decide (p < (n : Int)))) ∧ w = w' := by
  have c2 := zone_c2 hz
  clear hz
  by_cases h0 : 0 ≤ p
  · have h0' : decide (0 ≤ p) = true := decide_eq_true h0
    rw [h0', Bool.true_and]
    go_enter Try.func25, Try.ntmps25
    go_wp2
    refine bodyPost_ret (results_tmp rfl _ _ _) rfl ?_
    exact ⟨rfl, rfl⟩
  · have h0' : decide (0 ≤ p) = false := decide_eq_false h0
    rw [h0', Bool.false_and]
    go_enter Try.func25, Try.ntmps25
    go_wp2
    refine bodyPost_ret (results_tmp rfl _ _ _) rfl ?_
    exact ⟨rfl, rfl⟩
theorem zone_has_in (p : Nat) (hp : p < n) : Calls Try.prog 25 #[.pointer (some ⟨Z, 0, none⟩), .int .i64 (p : Int)] w fun e w' => e = .returned (.bool true) ∧ w = w' := by
  have h := zone_has w Z D f n hz p
  rwa [decide_eq_true (by omega), decide_eq_true (by omega)] at h
theorem zone_has_out (p : Int) (hp : p < 0 ∨ (n : Int) ≤ p) : Calls Try.prog 25 #[.pointer (some ⟨Z, 0, none⟩), .int .i64 p] w fun e w' => e = .returned (.bool false) ∧ w = w' := by
  have h := zone_has w Z D f n hz p
  have e : (decide (0 ≤ p) && decide (p < (n : Int))) = false := by
    rcases hp with hp | hp
    · rw [decide_eq_false (by omega), Bool.false_and]
    · rw [decide_eq_false (p := p < (n : Int)) (by omega), Bool.and_false]
  rwa [e] at h
theorem zone_read_out (p : Int) (hp : p < 0 ∨ (n : Int) ≤ p) : Calls Try.prog 19 #[.pointer (some ⟨Z, 0, none⟩), .int .i64 p] w fun e w' => e = .returned (.tuple #[.string ⟨#[]⟩, .int .i64 3]) ∧ w = w' := by
  have HH := Lib.hid (zone_has_out w Z D f n hz p hp)
  clear hz
  go_enter Try.func19, Try.ntmps19
  go_wp2_with (fail)
  refine HH.out.mono ?_
  rintro e w1 ⟨rfl, rfl⟩
  go_wp2
  refine bodyPost_ret (results_tmp2 rfl _ _ _) rfl ?_
  exact ⟨rfl, rfl⟩
set_option maxHeartbeats 1600000 in
/-- Read, by what the disk says of that sector. -/
theorem zone_read_by (p : Nat) (hp : p < n) (hfn : f + n ≤ 4096) (s : ByteArray) (m : Int)
    (hr : ∀ k, Calls Try.prog 12 #[.pointer (some ⟨D, 0, none⟩), .int .i64 ((f + p : Nat) : Int)] (w.drewN k) fun e w' => e = .returned (.tuple #[.string s, .int .i64 m]) ∧ w.drewN k = w') :
    Calls Try.prog 19 #[.pointer (some ⟨Z, 0, none⟩), .int .i64 (p : Int)] w fun e w' => e = .returned (.tuple #[.string s, .int .i64 m]) ∧ ∃ k, w' = w.drewN k := by
  have HH := Lib.hid (zone_has_in w Z D f n hz p hp)
  have c0 := zone_c0 hz
  have c1 := zone_c1 hz
  have e1 : IntKind.i64.wrap ((f : Int) + (p : Int)) = ((f + p : Nat) : Int) := (IntWalk.i64_in _ (by omega)).trans (by omega)
  have HR := Lib.hid hr
  clear hz hr
  generalize ((f + p : Nat) : Int) = fp at e1 HR
  go_enter Try.func19, Try.ntmps19
  go_wp2_with (fail)
  refine HH.out.mono ?_
  rintro e w1 ⟨rfl, rfl⟩
  go_wp2_with (fail)
  go_quiet ((go_at_call 12; exact quiet_here (HR.out _)))
  go_wp2_with (fail)
  refine bodyPost_ret (results_tmp2 rfl _ _ _) rfl ?_
  exact ⟨rfl, _, rfl⟩
end
section
variable (w : World) (Z D f n : Nat) (hz : w.heap[Z]? = some (zobj D f n))
include hz
set_option maxRecDepth 100000 in
set_option maxHeartbeats 1600000 in
/-- Write, by what the disk says of that sector. -/
theorem zone_write_by (p : Nat) (hp : p < n) (hfn : f + n ≤ 4096) (q : ByteArray) (hq : q.size = 32) (R : Int → World → Prop)
    (hr : Calls Try.prog 26 #[.pointer (some ⟨D, 0, none⟩), .int .i64 ((f + p : Nat) : Int), .string q] w.drew fun e w' => ∃ m, e = .returned (.int .i64 m) ∧ w'.heap[Z]? = some (zobj D f n) ∧ R m w') :
    Calls Try.prog 8 #[.pointer (some ⟨Z, 0, none⟩), .int .i64 (p : Int), .string q] w fun e w' => ∃ m, e = .returned (.int .i64 m) ∧ R m w' := by
  have HH := Lib.hid (zone_has_in w Z D f n hz p hp)
  have c0 := zone_c0 hz
  have c1 := zone_c1 hz
  have e1 : IntKind.i64.wrap ((f : Int) + (p : Int)) = ((f + p : Nat) : Int) := (IntWalk.i64_in _ (by omega)).trans (by omega)
  have HR := Lib.hid hr
  clear hz hr
  generalize ((f + p : Nat) : Int) = fp at e1 HR
  have hq2 : (q.size : Int) = 32 := by omega
  have hq3 : ((q.size : Int) == 32) = true := by rw [hq2]; rfl
  clear hq
  go_enter Try.func8, Try.ntmps8
  go_wp2_with (fail)
  refine HH.out.mono ?_
  rintro e w1 ⟨rfl, rfl⟩
  go_wp2_with (fail)
  have c0d : w.drew.cell? ⟨Z, 0, none⟩ = some (.pointer (some ⟨D, 0, none⟩)) := c0
  have c1d : w.drew.cell? ⟨Z, 1, none⟩ = some (.int .i64 (f : Int)) := c1
  go_region_held3 (fun W : World => W.cell? ⟨Z, 0, none⟩ = some (.pointer (some ⟨D, 0, none⟩)) ∧ W.cell? ⟨Z, 1, none⟩ = some (.int .i64 (f : Int))) (first | exact ⟨c0d, c1d⟩ | assumption) (first
    | (go_at_call 26; (with_reducible refine HR.out.mono ?_); rintro e w' ⟨m, rfl, hzz, hm⟩; have hs := And.intro (zone_c0 hzz) (zone_c1 hzz)))
  go_wp2_with (fail)
  refine bodyPost_ret (results_tmp rfl _ _ _) rfl ?_
  exact ⟨m, rfl, hm⟩
end
end Go.Proofs.Ytmnponjngdnolaa
