/-
  Package twin: a twin's own block; canBe, fits, copyOf, Text, Gen, Side. Conditions: the zone stands in its block, its disk in blocks of its own.
  A text in two copies, in plain words: what stands there behind a loss of power in a fill with bytes 0, in a save; the text that was, or the new one. No program here. No conditions.
  A zone's and a sealed text's writes over a disk with a fuse or without: all goes well, or the power goes. Conditions: the power is there ahead of it; few writes; both tables of sums lie as the program's text lays them.
  Package twin: place, renew, Save. Conditions: the power is there ahead of it; few writes; both tables of sums lie as the program's text lays them.
  Package twin: Save. Conditions: the power is there ahead of it, or an earlier save met its loss; few writes; both tables of sums lie as the program's text lays them.
  Package twin: Format, Open; of nil. Conditions: the power is there ahead of it; few writes; both tables of sums lie as the program's text lays them.
  A text in two copies, in plain words: what is opened; behind a format, behind a save. No program here. No conditions.
-/
import Derived.Test.YtnmgkkjnjllpbaaGreatDoorMg6
import Derived.Test.YtnmgkkjnjllpbaaGreatDoorMg8
import Derived.Test.YtnmgkkjnjllpbaaGreatDoorMg4
import Derived.Test.YtnmgkkjnjllpbaaGreatDoorMg3
import Derived.Test.YtnmgkkjnjllpbaaGreatDoorMg5
set_option maxRecDepth 100000
namespace Go.Proofs.YtnmgkkjnjllpbaaGreatDoor
open Go.ChangeShapes Go.WideShapes Go.ChangeAt Go.RowKit Pn Dk Sl

namespace Tw
/-- Whether a zone of n sectors can be; whether a text has room there. -/
def canB (n : Nat) : Bool := decide (4 ≤ n) && decide (n % 2 = 0)
def fitB (n : Nat) (s : ByteArray) : Bool := decide (s.size ≤ 1024) && decide (szN s.size ≤ n / 2)
theorem fitB_true {n : Nat} {s : ByteArray} (h1 : s.size ≤ 1024) (h2 : szN s.size ≤ n / 2) : fitB n s = true := by unfold fitB; rw [decide_eq_true h1, decide_eq_true h2]; rfl
theorem fitB_iff {n : Nat} {s : ByteArray} : fitB n s = true ↔ s.size ≤ 1024 ∧ szN s.size ≤ n / 2 := by unfold fitB; rw [Bool.and_eq_true, decide_eq_true_iff, decide_eq_true_iff]
theorem canB_iff {n : Nat} : canB n = true ↔ 4 ≤ n ∧ n % 2 = 0 := by unfold canB; rw [Bool.and_eq_true, decide_eq_true_iff, decide_eq_true_iff]
end Tw
open Tw
/-- A twin's own block. -/
def tobj (Z : Nat) (s : ByteArray) (g k : Nat) (b : Bool) : Obj := .cells #[.pointer (some ⟨Z, 0, none⟩), .string s, .int .i64 (g : Int), .int .i64 (k : Int), .bool b] 59 (0, 0)
section
variable {w : World} {T Z g k : Nat} {s : ByteArray} {b : Bool} (ht : w.heap[T]? = some (tobj Z s g k b))
include ht
theorem twin_c0 : w.cell? ⟨T, 0, none⟩ = some (.pointer (some ⟨Z, 0, none⟩)) := by rw [cell_of_row w T 0 _ _ _ ht]; rfl
theorem twin_c1 : w.cell? ⟨T, 1, none⟩ = some (.string s) := by rw [cell_of_row w T 1 _ _ _ ht]; rfl
theorem twin_c2 : w.cell? ⟨T, 2, none⟩ = some (.int .i64 (g : Int)) := by rw [cell_of_row w T 2 _ _ _ ht]; rfl
theorem twin_c3 : w.cell? ⟨T, 3, none⟩ = some (.int .i64 (k : Int)) := by rw [cell_of_row w T 3 _ _ _ ht]; rfl
theorem twin_c4 : w.cell? ⟨T, 4, none⟩ = some (.bool b) := by rw [cell_of_row w T 4 _ _ _ ht]; rfl
theorem twin_fz (i : Nat) : w.frozen? ⟨T, i, none⟩ = false := frozen_of_row w T i _ _ ht
end
section
variable (w : World) (T Z g k : Nat) (s : ByteArray) (b : Bool) (ht : w.heap[T]? = some (tobj Z s g k b))
include ht
theorem twin_text : Calls Tryz.prog 16 #[.pointer (some ⟨T, 0, none⟩)] w fun e w' => e = .returned (.string s) ∧ w = w' := by
  have c := twin_c1 ht
  clear ht
  go_enter Tryz.func16, Tryz.ntmps16
  go_wp2
  refine bodyPost_ret (results_tmp rfl _ _ _) rfl ?_
  exact ⟨rfl, rfl⟩
theorem twin_gen : Calls Tryz.prog 17 #[.pointer (some ⟨T, 0, none⟩)] w fun e w' => e = .returned (.int .i64 (g : Int)) ∧ w = w' := by
  have c := twin_c2 ht
  clear ht
  generalize (g : Int) = gi at c ⊢
  go_enter Tryz.func17, Tryz.ntmps17
  go_wp2
  refine bodyPost_ret (results_tmp rfl _ _ _) rfl ?_
  exact ⟨rfl, rfl⟩
end
section
variable (w : World) (Z D f n : Nat) (hz : w.heap[Z]? = some (zobj D f n)) (hn : n ≤ 4096)
include hz hn
theorem twin_canBe : Calls Tryz.prog 64 #[.pointer (some ⟨Z, 0, none⟩)] w fun e w' => e = .returned (.bool (canB n)) ∧ w = w' := by
  have HL := Lib.hid (zone_len w Z D f n hz)
  clear hz
  by_cases h4 : 4 ≤ n
  · have x1 : (4 : Int) ≤ (n : Int) := by omega
    have t1 : decide ((4 : Int) ≤ (n : Int)) = true := decide_eq_true x1
    have e2 : IntKind.i64.wrap ((n : Int).tmod 2) = ((n % 2 : Nat) : Int) := by
      rw [Int.tmod_eq_emod_of_nonneg (by omega)]
      exact (IntWalk.i64_in _ (by omega)).trans (by omega)
    have r : canB n = (((n % 2 : Nat) : Int) == 0) := by
      unfold canB
      rw [decide_eq_true h4, Bool.true_and]
      by_cases h : n % 2 = 0
      · rw [decide_eq_true h, h]; rfl
      · rw [decide_eq_false h]; exact (beq_eq_false_iff_ne.2 (by omega)).symm
    rw [r]
    clear r
    go_enter Tryz.func64, Tryz.ntmps64
    go_wp2_with (fail)
    refine HL.out.mono ?_
    rintro e w1 ⟨rfl, rfl⟩
    go_wp2_with (fail)
    refine HL.out.mono ?_
    rintro e w1 ⟨rfl, rfl⟩
    go_wp2_with (fail)
    refine bodyPost_ret (results_tmp rfl _ _ _) rfl ?_
    exact ⟨rfl, rfl⟩
  · have t1 : decide ((4 : Int) ≤ (n : Int)) = false := decide_eq_false (by omega)
    have r : canB n = false := by unfold canB; rw [decide_eq_false h4]; rfl
    rw [r]
    clear r
    go_enter Tryz.func64, Tryz.ntmps64
    go_wp2_with (fail)
    refine HL.out.mono ?_
    rintro e w1 ⟨rfl, rfl⟩
    go_wp2_with (fail)
    refine bodyPost_ret (results_tmp rfl _ _ _) rfl ?_
    exact ⟨rfl, rfl⟩
theorem twin_fits (s : ByteArray) (hs : s.size ≤ maxLen) : Calls Tryz.prog 48 #[.pointer (some ⟨Z, 0, none⟩), .string s] w fun e w' => e = .returned (.bool (fitB n s)) ∧ w = w' := by
  have HL := Lib.hid (zone_len w Z D f n hz)
  clear hz
  by_cases h4 : s.size ≤ 1024
  · have x1 : (s.size : Int) ≤ 1024 := by omega
    have t1 : decide ((s.size : Int) ≤ 1024) = true := decide_eq_true x1
    have HS := Lib.hid (seal_size w s (by omega))
    have e2 : IntKind.i64.wrap ((n : Int).tdiv 2) = ((n / 2 : Nat) : Int) := by
      rw [Int.tdiv_eq_ediv_of_nonneg (by omega)]
      exact (IntWalk.i64_in _ (by omega)).trans (by omega)
    have r : fitB n s = decide ((szN s.size : Int) ≤ ((n / 2 : Nat) : Int)) := by
      unfold fitB
      rw [decide_eq_true h4, Bool.true_and]
      by_cases h : szN s.size ≤ n / 2
      · rw [decide_eq_true h, decide_eq_true (by omega)]
      · rw [decide_eq_false h, decide_eq_false (by omega)]
    rw [r]
    clear r
    generalize szN s.size = z at HS ⊢
    go_enter Tryz.func48, Tryz.ntmps48
    go_wp2_with (fail)
    refine HS.out.mono ?_
    rintro e w1 ⟨rfl, rfl⟩
    go_wp2_with (fail)
    refine HL.out.mono ?_
    rintro e w1 ⟨rfl, rfl⟩
    go_wp2_with (fail)
    refine bodyPost_ret (results_tmp rfl _ _ _) rfl ?_
    exact ⟨rfl, rfl⟩
  · have t1 : decide ((s.size : Int) ≤ 1024) = false := decide_eq_false (by omega)
    have r : fitB n s = false := by unfold fitB; rw [decide_eq_false h4]; rfl
    unfold maxLen at hs
    have hs' : (s.size : Int) ≤ 9223372036854775807 := by omega
    rw [r]
    clear r
    go_enter Tryz.func48, Tryz.ntmps48
    go_wp2_with (fail)
    refine bodyPost_ret (results_tmp rfl _ _ _) rfl ?_
    exact ⟨rfl, rfl⟩
set_option maxRecDepth 100000 in
/-- A copy's places, as a zone of their own. -/
theorem twin_copyOf (K : Nat → Prop) (x : St) (h : DiskAt K w D x) (hfn : f + n ≤ x.n) (h2 : 2 ≤ n) (k : Nat) (hk : k < 2) :
    Calls Tryz.prog 50 #[.pointer (some ⟨Z, 0, none⟩), .int .i64 (k : Int)] w fun e w' => ∃ Z', e = .returned (.pointer (some ⟨Z', 0, none⟩)) ∧ w.heap.size ≤ Z' ∧ w'.heap[Z']? = some (zobj D (f + k * (n / 2)) (n / 2)) ∧ Below w.heap.size w w' := by
  have hk1 : k * (n / 2) ≤ 1 * (n / 2) := Nat.mul_le_mul_right _ (by omega)
  have HL := Lib.hid (zone_len w Z D f n hz)
  have HP := Lib.hid (zone_part w Z D f n hz K x h hfn (k * (n / 2)) (n / 2) (by omega) (by omega))
  have e2 : (n : Int) / 2 = ((n / 2 : Nat) : Int) := by omega
  have e3 : wrap64 ((k : Int) * ((n / 2 : Nat) : Int)) = ((k * (n / 2) : Nat) : Int) := by
    rw [Int.natCast_mul]
    exact IntWalk.wrap64_in _ (by rw [← Int.natCast_mul]; omega)
  clear hz h hfn
  generalize k * (n / 2) = kh at HP e3 ⊢
  generalize n / 2 = hf at HP e2 e3 ⊢
  generalize (kh : Int) = ki at HP e3
  generalize (hf : Int) = hi at HP e2 e3
  go_enter Tryz.func50, Tryz.ntmps50
  go_wp2_with (fail)
  refine HL.out.mono ?_
  rintro e w1 ⟨rfl, rfl⟩
  go_wp2_with (fail)
  refine HP.out.mono ?_
  rintro e w1 ⟨Z', rfl, g1, g2, g3⟩
  have G2 := Lib.hid g2
  have G3 := Lib.hid g3
  clear g2 g3 HP
  go_wp2_with (fail)
  refine bodyPost_ret (results_tmp rfl _ _ _) rfl ?_
  exact ⟨Z', rfl, g1, G2.out, G3.out⟩
end
end Go.Proofs.YtnmgkkjnjllpbaaGreatDoor
namespace Go.Proofs.YtnmgkkjnjllpbaaGreatDoor
open Go Go.RowKit Pn Dk Sl
namespace Sl
/-- Of sectors of one text, some of which are there, the others without a number, all is got, or nothing. -/
theorem part_got (u : ByteArray) (g : Nat) (hu : u.size ≤ 1024) (hg1 : 1 ≤ g) (hg2 : g ≤ 2147483647) (rd : Nat → Nat → UInt8) (n p : Nat) (hp : p + szN u.size ≤ n)
    (hrd : ∀ i, i < szN u.size → numG (rd (p + i)) = 0 ∨ ∀ j, j < 32 → rd (p + i) j = secF g (sealL u) i j) :
    (getR rd n p = (u, g, 0) ∧ ∀ i, i < szN u.size → ∀ j, j < 32 → rd (p + i) j = secF g (sealL u) i j) ∨ (getR rd n p = (⟨#[]⟩, 0, 5) ∧ ∃ i, i < szN u.size ∧ numG (rd (p + i)) = 0) := by
  by_cases hall : ∀ i, i < szN u.size → ∀ j, j < 32 → rd (p + i) j = secF g (sealL u) i j
  · exact .inl ⟨got hg1 hg2 hu hp hall, hall⟩
  · have h2 := szN_two u.size
    obtain ⟨i, hi, h0⟩ : ∃ i, i < szN u.size ∧ numG (rd (p + i)) = 0 := by
      refine Classical.byContradiction fun h => hall fun i hi => ?_
      rcases hrd i hi with h0 | h1
      · exact absurd ⟨i, hi, h0⟩ h
      · exact h1
    refine .inr ⟨ok_not ?_, i, hi, h0⟩
    rw [Bool.eq_false_iff]
    intro ho
    obtain ⟨o1, o2, _, o4⟩ := (okG_iff rd n p).1 ho
    have r1 : ∀ j, j < 32 → rd (p + 1) j = secF g (sealL u) 1 j := by
      rcases hrd 1 (by omega) with h | h
      · have := ((jnOk_iff _ _ _ _ _).1 o2 1 (by omega)).2
        omega
      · exact h
    have hlen : Sl.lenV rd p = u.size := by
      refine (show Sl.lenV rd p = Sl.lenV (fun r => secF g (sealL u) (r - p)) p from ?_).trans (len_sealed (rd := fun r => secF g (sealL u) (r - p)) (num := g) hu fun q hq j hj => by rw [Nat.add_sub_cancel_left])
      have h1 : ∀ j, j < 32 → rd (p + 1) j = secF g (sealL u) (p + 1 - p) j := fun j hj => by rw [r1 j hj, Nat.add_sub_cancel_left]
      unfold Sl.lenV
      rw [h1 4 (by omega), h1 5 (by omega), h1 6 (by omega), h1 7 (by omega)]
    have := ((jnOk_iff _ _ _ _ _).1 o4 i (by rw [hlen]; exact hi)).2
    omega
end Sl
namespace Dk
section
variable (x : St) (f : Nat) (g : Nat → UInt8)
theorem chg_full (h : x.Full) (p : Nat) : (x.chg p g).Full := by
  unfold St.chg
  split
  · exact h
  · exact full_put (x := x.burnt) h _ _
theorem filled_full2 (h : x.Full) : ∀ k, (x.filled f g k).Full
  | 0 => h
  | k + 1 => chg_full _ g (filled_full2 h k) (f + k)
theorem filled_writes : ∀ k y, y ∈ (x.filled f g k).loose → y ∈ x.loose ∨ ∃ i, i < k ∧ y = (f + i, bs (secS g))
  | 0, _, h => .inl h
  | k + 1, y, h => by
    have h' : y ∈ ((x.filled f g k).chg (f + k) g).loose := h
    unfold St.chg at h'
    split at h'
    · rcases filled_writes k y h' with h1 | ⟨i, hi, h1⟩
      · exact .inl h1
      · exact .inr ⟨i, by omega, h1⟩
    · have h2 : y ∈ (x.filled f g k).loose ++ [(f + k, bs (secS g))] := h'
      rcases List.mem_append.1 h2 with h3 | h3
      · rcases filled_writes k y h3 with h1 | ⟨i, hi, h1⟩
        · exact .inl h1
        · exact .inr ⟨i, by omega, h1⟩
      · rw [List.mem_singleton] at h3
        exact .inr ⟨k, by omega, h3⟩
/-- Behind a loss of power in a fill each sector is as it was, or filled. -/
theorem filled_fall (h : x.Full) (hl : x.loose = []) (k : Nat) (kl : List Bool) (q : Nat) :
    (∀ j, j < 32 → sect ((x.filled f g k).fall kl).now q j = sect x.safe q j) ∨ (f ≤ q ∧ q < f + k ∧ ∀ j, j < 32 → sect ((x.filled f g k).fall kl).now q j = g j) := by
  rcases fall_sect (filled_full2 x f g h k) kl q with h1 | ⟨i, hi, h2, h3⟩
  · refine .inl fun j hj => ?_
    rw [h1 j hj, filled_safe]
  · have hm : (x.filled f g k).loose.getD i noWr ∈ (x.filled f g k).loose := by
      rw [List.getD_eq_getElem?_getD, List.getElem?_eq_getElem hi]
      exact List.getElem_mem hi
    rcases filled_writes x f g k _ hm with h4 | ⟨i', hi', h4⟩
    · rw [hl] at h4
      cases h4
    · rw [h4] at h2 h3
      have h2' : f + i' = q := h2
      refine .inr ⟨by omega, by omega, fun j hj => ?_⟩
      rw [h3 j hj]
      exact bs_secS g j hj
end
theorem fall_now {x : St} (h : x.Full) (kl : List Bool) (q j : Nat) (hj : j < 32) : sect (x.fall kl).now q j = sect (x.fall kl).safe q j := by
  show sect (fn (fs x.safe x.loose (kp kl) x.loose.length) x.now x.loose x.loose.length) q j = sect (fs x.safe x.loose (kp kl) x.loose.length) q j
  rcases fn_sect (fs x.safe x.loose (kp kl) x.loose.length) x.now x.loose q x.loose.length with h1 | ⟨h1, h2⟩
  · exact h1 j hj
  · rw [h2 j hj, fs_none x.safe x.loose (kp kl) q _ h1 j hj, ← fs_none x.safe x.loose (fun _ => true) q _ h1 j hj]
    have : fs x.safe x.loose (fun _ => true) x.loose.length = x.now := h
    rw [this]
theorem fall_full {x : St} (h : x.Full) (kl : List Bool) : (x.fall kl).come.Full := by
  show (x.fall kl).safe = (x.fall kl).now
  funext k
  have := fall_now h kl (k / 32) (k % 32) (by omega)
  unfold sect at this
  rw [show k / 32 * 32 + k % 32 = k by omega] at this
  exact this.symm
end Dk
namespace Tw
/-- Sectors of one text, some of them, the others without a number. -/
structure Some (F : Nat → UInt8) (o : Nat) (u : ByteArray) (g : Nat) : Prop where
  size : u.size ≤ 1024
  one : 1 ≤ g
  most : g ≤ 2147483647
  at_ : ∀ i, i < szN u.size → numG (sect F (o + i)) = 0 ∨ ∀ j, j < 32 → sect F (o + i) j = secF g (sealL u) i j
/-- All of them. -/
def Whole (F : Nat → UInt8) (o : Nat) (u : ByteArray) (g : Nat) : Prop := ∀ i, i < szN u.size → ∀ j, j < 32 → sect F (o + i) j = secF g (sealL u) i j
theorem Whole.congr {F H : Nat → UInt8} {o : Nat} {u : ByteArray} {g : Nat} (h : Whole F o u g) (e : ∀ i, i < szN u.size → ∀ j, j < 32 → sect H (o + i) j = sect F (o + i) j) : Whole H o u g := fun i hi j hj => (e i hi j hj).trans (h i hi j hj)
/-- A copy that isn't the last one: some sectors of one text: an older one's, or not all. -/
def Old (F : Nat → UInt8) (o gen : Nat) (lim : Nat) : Prop := ∃ u g, Some F o u g ∧ szN u.size ≤ lim ∧ (g < gen ∨ ∃ i, i < szN u.size ∧ numG (sect F (o + i)) = 0)
theorem Old.zero {F : Nat → UInt8} {o gen lim : Nat} (h2 : 2 ≤ lim) (h : ∀ i, i < lim → numG (sect F (o + i)) = 0) : Old F o gen lim :=
  ⟨⟨#[]⟩, 1, ⟨by decide, by decide, by decide, fun i hi => .inl (h i (Nat.lt_of_lt_of_le hi (show szN 0 ≤ lim from h2)))⟩, h2, .inr ⟨0, by decide, h 0 (by omega)⟩⟩
/-- Zeroing sectors leaves such a copy such a one. -/
theorem Old.zeroed {F H : Nat → UInt8} {o gen lim : Nat} (h : Old F o gen lim) (e : ∀ i, i < lim → numG (sect H (o + i)) = 0 ∨ ∀ j, j < 32 → sect H (o + i) j = sect F (o + i) j) : Old H o gen lim := by
  obtain ⟨u, g, hs, hl, hw⟩ := h
  refine ⟨u, g, ⟨hs.size, hs.one, hs.most, fun i hi => ?_⟩, hl, ?_⟩
  · rcases e i (by omega) with h0 | h1
    · exact .inl h0
    · rcases hs.at_ i hi with h2 | h2
      · exact .inl ((numG_congr h1).trans h2)
      · exact .inr fun j hj => (h1 j hj).trans (h2 j hj)
  · rcases hw with hw | ⟨i, hi, h0⟩
    · exact .inl hw
    · refine .inr ⟨i, hi, ?_⟩
      rcases e i (by omega) with h1 | h1
      · exact h1
      · exact (numG_congr h1).trans h0
/-- What is got of it: nothing, or a lesser number. -/
theorem Old.got {rd : Nat → Nat → UInt8} {F : Nat → UInt8} {o gen lim n p : Nat} (h : Old F o gen lim) (hrd : ∀ i, i < lim → ∀ j, j < 32 → rd (p + i) j = sect F (o + i) j) (hn : p + lim ≤ n) :
    (∃ u g, getR rd n p = (u, g, 0) ∧ g < gen ∧ szN u.size ≤ lim) ∨ getR rd n p = (⟨#[]⟩, 0, 5) := by
  obtain ⟨u, g, hs, hl, hw⟩ := h
  rcases part_got u g hs.size hs.one hs.most rd n p (by omega) (fun i hi => by
    rcases hs.at_ i hi with h0 | h1
    · exact .inl ((numG_congr (hrd i (by omega))).trans h0)
    · exact .inr fun j hj => (hrd i (by omega) j hj).trans (h1 j hj)) with ⟨h1, h2⟩ | ⟨h1, _⟩
  · rcases hw with hw | ⟨i, hi, h0⟩
    · exact .inl ⟨u, g, h1, hw, hl⟩
    · have h3 := (numG_congr (g := secF g (sealL u) i) fun j hj => by rw [← hrd i (by omega) j hj]; exact h2 i hi j hj).symm.trans h0
      rw [numG_sec g _ _ hs.most] at h3
      have := hs.one
      omega
  · exact .inr h1
theorem Whole.got {rd : Nat → Nat → UInt8} {F : Nat → UInt8} {o n p : Nat} {u : ByteArray} {g : Nat} (h : Whole F o u g) (hu : u.size ≤ 1024) (hg1 : 1 ≤ g) (hg2 : g ≤ 2147483647) (hrd : ∀ i, i < szN u.size → ∀ j, j < 32 → rd (p + i) j = sect F (o + i) j) (hn : p + szN u.size ≤ n) : getR rd n p = (u, g, 0) :=
  Sl.got hg1 hg2 hu hn fun i hi j hj => (hrd i hi j hj).trans (h i hi j hj)
theorem num_zero : numG (fun _ => 0) = 0 := by decide
/-- A disk with two copies of lim places, at a the last one, at o the other. -/
structure Pair (x : St) (a o lim gen : Nat) (t : ByteArray) : Prop where
  apart : a + lim ≤ o ∨ o + lim ≤ a
  size : t.size ≤ 1024
  fits : szN t.size ≤ lim
  one : 1 ≤ gen
  loose : x.loose = []
  full : x.Full
  cur : Whole x.now a t gen
  old : Old x.now o gen lim
theorem Pair.safe {x : St} {a o lim gen : Nat} {t : ByteArray} (h : Pair x a o lim gen t) : x.safe = x.now := by
  have := h.full
  unfold St.Full at this
  rw [h.loose] at this
  exact this
section
variable {x : St} {a o lim gen : Nat} {t : ByteArray} (h : Pair x a o lim gen t)
include h
/-- The other copy, filled with nothing and synced. -/
theorem Pair.cleared : Whole (x.filled o (fun _ => 0) lim).now a t gen ∧ ∀ i, i < lim → ∀ j, j < 32 → sect (x.filled o (fun _ => 0) lim).now (o + i) j = 0 := by
  refine ⟨h.cur.congr fun i hi j hj => filled_out x o _ lim (a + i) ?_ j hj, fun i hi j hj => filled_in x o _ lim i hi j hj⟩
  have := h.apart
  have := h.fits
  omega
/-- The power goes in the fill. -/
theorem Pair.fill_fall (k : Nat) (hk : k ≤ lim) (kl : List Bool) : Pair ((x.filled o (fun _ => 0) k).fall kl).come a o lim gen t := by
  have hf := filled_fall x o (fun _ => 0) h.full h.loose k kl
  have hs := h.safe
  have hap := h.apart
  have hfi := h.fits
  refine ⟨h.apart, h.size, h.fits, h.one, rfl, fall_full (filled_full2 x o _ h.full k) kl, h.cur.congr fun i hi j hj => ?_, h.old.zeroed fun i hi => ?_⟩
  · rcases hf (a + i) with h1 | ⟨h1, h2, _⟩
    · rw [← hs]
      exact h1 j hj
    · omega
  · rcases hf (o + i) with h1 | ⟨_, _, h3⟩
    · exact .inr fun j hj => by
        rw [← hs]
        exact h1 j hj
    · exact .inl ((numG_congr (g := fun _ => 0) h3).trans num_zero)
/-- The power goes in the writes behind it: the text that was, or the new one. -/
theorem Pair.put_fall (s : ByteArray) (hs : s.size ≤ 1024) (hfs : szN s.size ≤ lim) (hg : gen + 1 ≤ 2147483647) (k : Nat) (hk : k ≤ szN s.size) (kl : List Bool) (y : St) (hy : y = ((x.filled o (fun _ => 0) lim).burnt.synced.laid o (secF (gen + 1) (sealL s)) k).fall kl) :
    Pair y.come a o lim gen t ∨ Pair y.come o a lim (gen + 1) s := by
  subst hy
  obtain ⟨c1, c2⟩ := h.cleared
  have hap := h.apart
  have hfi := h.fits
  have hfu : (x.filled o (fun _ => 0) lim).burnt.Full := filled_full2 x o _ h.full lim
  have hsy := full_synced hfu
  have hF : (((x.filled o (fun _ => 0) lim).burnt.synced.laid o (secF (gen + 1) (sealL s)) k).fall kl).come.Full := fall_full (laid_full _ _ _ hsy.1 k) kl
  have hn : ∀ q j, j < 32 → sect (((x.filled o (fun _ => 0) lim).burnt.synced.laid o (secF (gen + 1) (sealL s)) k).fall kl).now q j = if o ≤ q ∧ q < o + k then (if kp kl (q - o) = true then secF (gen + 1) (sealL s) (q - o) j else sect (x.filled o (fun _ => 0) lim).now q j) else sect (x.filled o (fun _ => 0) lim).now q j := fun q j hj => by
    have := laid_fall (x.filled o (fun _ => 0) lim).burnt.synced o (secF (gen + 1) (sealL s)) rfl k kl q j hj
    rw [hsy.2] at this
    exact this
  have hcur : Whole (((x.filled o (fun _ => 0) lim).burnt.synced.laid o (secF (gen + 1) (sealL s)) k).fall kl).now a t gen := c1.congr fun i hi j hj => by
    rw [hn (a + i) j hj, if_neg (by omega)]
  have hoth : ∀ i, i < szN s.size → numG (sect (((x.filled o (fun _ => 0) lim).burnt.synced.laid o (secF (gen + 1) (sealL s)) k).fall kl).now (o + i)) = 0 ∨ ∀ j, j < 32 → sect (((x.filled o (fun _ => 0) lim).burnt.synced.laid o (secF (gen + 1) (sealL s)) k).fall kl).now (o + i) j = secF (gen + 1) (sealL s) i j := fun i hi => by
    by_cases hik : i < k ∧ kp kl i = true
    · refine .inr fun j hj => ?_
      rw [hn (o + i) j hj, if_pos ⟨by omega, by omega⟩, Nat.add_sub_cancel_left, if_pos hik.2]
    · refine .inl ((numG_congr (g := fun _ => 0) fun j hj => ?_).trans num_zero)
      rw [hn (o + i) j hj, Nat.add_sub_cancel_left]
      by_cases h1 : o ≤ o + i ∧ o + i < o + k
      · rw [if_pos h1, if_neg (fun h2 => hik ⟨by omega, h2⟩)]
        exact c2 i (by omega) j hj
      · rw [if_neg h1]
        exact c2 i (by omega) j hj
  by_cases hw : ∃ i, i < szN s.size ∧ numG (sect (((x.filled o (fun _ => 0) lim).burnt.synced.laid o (secF (gen + 1) (sealL s)) k).fall kl).now (o + i)) = 0
  · exact .inl ⟨h.apart, h.size, h.fits, h.one, rfl, hF, hcur, s, gen + 1, ⟨hs, by omega, hg, hoth⟩, hfs, .inr hw⟩
  · refine .inr ⟨hap.symm, hs, hfs, by omega, rfl, hF, fun i hi => ?_, t, gen, ⟨h.size, h.one, by omega, fun i hi => .inr (hcur i hi)⟩, h.fits, .inl (by omega)⟩
    rcases hoth i hi with h0 | h1
    · exact absurd ⟨i, hi, h0⟩ hw
    · exact h1
/-- The save went well. -/
theorem Pair.saved (s : ByteArray) (hs : s.size ≤ 1024) (hfs : szN s.size ≤ lim) (hg : gen ≤ 2147483646) (y : St) (hy : y = ((x.filled o (fun _ => 0) lim).burnt.synced.laid o (secF (gen + 1) (sealL s)) (szN s.size)).burnt.synced) :
    Pair y o a lim (gen + 1) s := by
  subst hy
  obtain ⟨c1, _⟩ := h.cleared
  have hap := h.apart
  have hfi := h.fits
  have hfu : (x.filled o (fun _ => 0) lim).burnt.Full := filled_full2 x o _ h.full lim
  have hsy := full_synced hfu
  have hF : ((x.filled o (fun _ => 0) lim).burnt.synced.laid o (secF (gen + 1) (sealL s)) (szN s.size)).burnt.Full := laid_full _ _ _ hsy.1 _
  refine ⟨hap.symm, hs, hfs, by omega, rfl, (full_synced hF).1, fun i hi j hj => laid_in _ o _ _ i hi j hj, t, gen, ⟨h.size, h.one, by omega, fun i hi => .inr fun j hj => ?_⟩, h.fits, .inl (by omega)⟩
  have e : sect ((x.filled o (fun _ => 0) lim).burnt.synced.laid o (secF (gen + 1) (sealL s)) (szN s.size)).now (a + i) j = sect (x.filled o (fun _ => 0) lim).now (a + i) j := laid_out _ o _ _ (a + i) (by omega) j hj
  show sect ((x.filled o (fun _ => 0) lim).burnt.synced.laid o (secF (gen + 1) (sealL s)) (szN s.size)).now (a + i) j = _
  rw [e]
  exact c1 i hi j hj
end
end Tw
end Go.Proofs.YtnmgkkjnjllpbaaGreatDoor
namespace Go.Proofs.YtnmgkkjnjllpbaaGreatDoor
open Go.ChangeShapes Go.WideShapes Go.ChangeAt Go.RowKit Pn Dk Sl Tw

namespace Dk
/-- A fuse's bools are few. -/
def St.Fz (x : St) : Prop := ∀ l kl, x.fuse = some (l, kl) → kl.length ≤ 1099511627776
theorem St.Fz.of_none {x : St} (h : x.fuse = none) : x.Fz := fun l kl e => by rw [h] at e; cases e
theorem St.Fz.burnt {x : St} (h : x.Fz) : x.burnt.Fz := fun l kl e => by
  have e' : x.fuse.map (fun f => (f.1 - 1, f.2)) = some (l, kl) := e
  obtain ⟨⟨l', kl'⟩, h1, h2⟩ := Option.map_eq_some_iff.1 e'
  injection h2 with _ h2
  subst h2
  exact h l' kl' h1
theorem St.Fz.chg {x : St} (h : x.Fz) (p : Nat) (g : Nat → UInt8) : (x.chg p g).Fz := by
  unfold St.chg
  split
  · exact h
  · exact h.burnt
theorem St.Fz.filled {x : St} (h : x.Fz) (f : Nat) (g : Nat → UInt8) : ∀ k, (x.filled f g k).Fz
  | 0 => h
  | k + 1 => (St.Fz.filled h f g k).chg _ _
theorem St.Fz.laid {x : St} (h : x.Fz) (p : Nat) (G : Nat → Nat → UInt8) : ∀ k, (x.laid p G k).Fz
  | 0 => h
  | k + 1 => (St.Fz.laid h p G k).burnt
end Dk
namespace Zn
variable {w0 w w' : World} {D : Nat} {x : Dk.St} {fs : List (Nat × Obj)}
/-- A write, whatever the fuse. -/
theorem dwriteAny (h : Zn w0 w D x fs) (ha : x.away = false) (hf : x.Fz) (hl : x.loose.length ≤ 1073741824) (hd : x.done < 4611686018427387904) (p : Nat) (hp : p < x.n) (q : ByteArray) (hq : q.size = 32) :
    Calls Tryz.prog 91 #[.pointer (some ⟨D, 0, none⟩), .int .i64 (p : Int), .string q] w fun e w' => ∃ m, e = .returned (.int .i64 m) ∧ (m = 0 ∧ Zn w0 w' D (x.burnt.put p (bs q)) fs ∨ m = 4 ∧ x.fuse ≠ none ∧ ∃ kl, Zn w0 w' D (x.fall kl) fs) := by
  cases hfu : x.fuse with
  | none =>
    refine (disk_write_ok _ w D x h.disk ha hl p hp q hq h.new (disk_burn_none _ w D x h.disk hfu hd)).mono ?_
    intro e w' hs
    obtain ⟨rfl, h2⟩ := h.says hs
    exact ⟨0, rfl, .inl ⟨rfl, h2⟩⟩
  | some v =>
    obtain ⟨l, kl⟩ := v
    cases l with
    | zero =>
      refine (disk_write_end _ w D x h.disk ha p hp q hq kl hfu hl (hf _ _ hfu)).mono ?_
      intro e w' hs
      obtain ⟨rfl, h2⟩ := h.says hs
      exact ⟨4, rfl, .inr ⟨rfl, Option.some_ne_none _, kl, h2⟩⟩
    | succ l =>
      refine (disk_write_ok _ w D x h.disk ha hl p hp q hq h.new (disk_burn_some _ w D x h.disk l kl hfu hd)).mono ?_
      intro e w' hs
      obtain ⟨rfl, h2⟩ := h.says hs
      exact ⟨0, rfl, .inl ⟨rfl, h2⟩⟩
theorem syncAny (h : Zn w0 w D x fs) (ha : x.away = false) (hf : x.Fz) (hl : x.loose.length ≤ 1073741824) (hd : x.done < 4611686018427387904) :
    Calls Tryz.prog 24 #[.pointer (some ⟨D, 0, none⟩)] w fun e w' => ∃ m, e = .returned (.int .i64 m) ∧ (m = 0 ∧ Zn w0 w' D x.burnt.synced fs ∨ m = 4 ∧ x.fuse ≠ none ∧ ∃ kl, Zn w0 w' D (x.fall kl) fs) := by
  cases hfu : x.fuse with
  | none =>
    refine (disk_sync_ok _ w D x h.disk ha hl (disk_burn_none _ w D x h.disk hfu hd)).mono ?_
    intro e w' hs
    obtain ⟨rfl, h2⟩ := h.says hs
    exact ⟨0, rfl, .inl ⟨rfl, h2⟩⟩
  | some v =>
    obtain ⟨l, kl⟩ := v
    cases l with
    | zero =>
      refine (disk_sync_end _ w D x h.disk ha kl hfu hl (hf _ _ hfu)).mono ?_
      intro e w' hs
      obtain ⟨rfl, h2⟩ := h.says hs
      exact ⟨4, rfl, .inr ⟨rfl, Option.some_ne_none _, kl, h2⟩⟩
    | succ l =>
      refine (disk_sync_ok _ w D x h.disk ha hl (disk_burn_some _ w D x h.disk l kl hfu hd)).mono ?_
      intro e w' hs
      obtain ⟨rfl, h2⟩ := h.says hs
      exact ⟨0, rfl, .inl ⟨rfl, h2⟩⟩
theorem writeAny (h : Zn w0 w D x fs) {Z f n : Nat} (hz : (Z, zobj D f n) ∈ fs) (ha : x.away = false) (hf : x.Fz) (hl : x.loose.length ≤ 1073741824) (hd : x.done < 4611686018427387904) (hfn : f + n ≤ x.n) (p : Nat) (hp : p < n) (q : ByteArray) (hq : q.size = 32) :
    Calls Tryz.prog 69 #[.pointer (some ⟨Z, 0, none⟩), .int .i64 (p : Int), .string q] w fun e w' => ∃ m, e = .returned (.int .i64 m) ∧ (m = 0 ∧ Zn w0 w' D (x.burnt.put (f + p) (bs q)) fs ∨ m = 4 ∧ x.fuse ≠ none ∧ ∃ kl, Zn w0 w' D (x.fall kl) fs) := by
  have hnb : x.n ≤ 4096 := by obtain ⟨_, _, _, _, _, _, h⟩ := h.disk; exact h.nb
  refine zone_write_by w Z D f n (h.fix _ hz) p hp (by omega) q hq (fun m w' => m = 0 ∧ Zn w0 w' D (x.burnt.put (f + p) (bs q)) fs ∨ m = 4 ∧ x.fuse ≠ none ∧ ∃ kl, Zn w0 w' D (x.fall kl) fs) ?_
  refine ((h.drewN 1).dwriteAny ha hf hl hd (f + p) (by omega) q hq).mono ?_
  rintro e w' ⟨m, rfl, h2⟩
  refine ⟨m, rfl, ?_, h2⟩
  rcases h2 with ⟨_, h2⟩ | ⟨_, _, kl, h2⟩
  · exact h2.fix _ hz
  · exact h2.fix _ hz
theorem changeAny (h : Zn w0 w D x fs) {Z f n : Nat} (hz : (Z, zobj D f n) ∈ fs) (ha : x.away = false) (hf : x.Fz) (hl : x.loose.length ≤ 1073741824) (hd : x.done < 4611686018427387904) (hfn : f + n ≤ x.n) (p : Nat) (hp : p < n) (g : Nat → UInt8) :
    Calls Tryz.prog 63 #[.pointer (some ⟨Z, 0, none⟩), .int .i64 (p : Int), .string (secS g)] w fun e w' => ∃ m, e = .returned (.int .i64 m) ∧ (m = 0 ∧ Zn w0 w' D (x.chg (f + p) g) fs ∨ m = 4 ∧ x.fuse ≠ none ∧ ∃ kl, Zn w0 w' D (x.fall kl) fs) := by
  have hnb : x.n ≤ 4096 := by obtain ⟨_, _, _, _, _, _, h⟩ := h.disk; exact h.nb
  refine zone_change_by w Z D f n (h.fix _ hz) p hp (by omega) (secS (sect x.now (f + p))) (secS g) (secS_size g) (fun m w' => m = 0 ∧ Zn w0 w' D (x.chg (f + p) g) fs ∨ m = 4 ∧ x.fuse ≠ none ∧ ∃ kl, Zn w0 w' D (x.fall kl) fs)
    (fun i => disk_read _ (w.drewN i) D x (h.disk.drewN i) ha (f + p) (by omega)) (fun he k => .inl ⟨rfl, ?_⟩) (fun he k => ?_)
  · have e : x.chg (f + p) g = x := by unfold St.chg; rw [if_pos he]
    rw [e]
    exact h.drewN k
  · have e : x.chg (f + p) g = x.burnt.put (f + p) (bs (secS g)) := by unfold St.chg; rw [if_neg he]
    rw [e]
    refine (((h.drewN k).drewN 1).dwriteAny ha hf hl hd (f + p) (by omega) (secS g) (secS_size g)).mono ?_
    rintro e w' ⟨m, rfl, h2⟩
    refine ⟨m, rfl, ?_, h2⟩
    rcases h2 with ⟨_, h2⟩ | ⟨_, _, kl, h2⟩
    · exact h2.fix _ hz
    · exact h2.fix _ hz
theorem fillAny (h : Zn w0 w D x fs) {Z f n : Nat} (hz : (Z, zobj D f n) ∈ fs) (ha : x.away = false) (hf : x.Fz) (hl : x.loose.length + n ≤ 1073741824) (hd : x.done + n < 4611686018427387904) (hfn : f + n ≤ x.n) (b : UInt8) :
    Calls Tryz.prog 37 #[.pointer (some ⟨Z, 0, none⟩), .int .u8 (b.toNat : Int)] w fun e w' => ∃ m, e = .returned (.int .i64 m) ∧ (m = 0 ∧ Zn w0 w' D (x.filled f (fun _ => b) n) fs ∨ m = 4 ∧ x.fuse ≠ none ∧ ∃ k kl, k ≤ n ∧ Zn w0 w' D ((x.filled f (fun _ => b) k).fall kl) fs) := by
  have hnb : x.n ≤ 4096 := by obtain ⟨_, _, _, _, _, _, h⟩ := h.disk; exact h.nb
  refine (zone_fill_by w Z D f n (h.fix _ hz) b (fun k W => Zn w0 W D (x.filled f (fun _ => b) k) fs) (fun m W => m = 4 ∧ x.fuse ≠ none ∧ ∃ k kl, k ≤ n ∧ Zn w0 W D ((x.filled f (fun _ => b) k).fall kl) fs) (fun W hW => h.step hW) (fun k W hW => hW.fix _ hz) (fun k W hk hW => ?_) (by omega)).mono ?_
  · have h1 := filled_loose x f (fun _ => b) k
    have h2 := filled_done x f (fun _ => b) k
    refine (hW.changeAny hz ((filled_away _ _ _ _).trans ha) (hf.filled _ _ _) (by omega) (by omega) (by rw [filled_n]; exact hfn) k hk (fun _ => b)).mono ?_
    rintro e w' ⟨m, rfl, ⟨rfl, h3⟩ | ⟨rfl, hn, kl, h3⟩⟩
    · exact ⟨0, rfl, .inl ⟨rfl, h3⟩⟩
    · exact ⟨4, rfl, .inr ⟨by decide, rfl, fun e => hn (filled_fuse x f _ e k), k, kl, by omega, h3⟩⟩
  · rintro e w' ⟨m, rfl, h2 | ⟨_, h2⟩⟩
    · exact ⟨m, rfl, .inl h2⟩
    · exact ⟨m, rfl, .inr h2⟩
theorem putAny (h : Zn w0 w D x fs) {Z f nz : Nat} (hz : (Z, zobj D f nz) ∈ fs) (hT : Tabs w0) (ha : x.away = false) (hf : x.Fz) (hl : x.loose.length ≤ 1073741000) (hd : x.done < 4611686018427380000) (hfn : f + nz ≤ x.n)
    (n : Nat) (s : ByteArray) (h1 : 1 ≤ n) (h2 : n ≤ 2147483647) (hs : s.size ≤ 1024) (p : Nat) (hp : p + szN s.size ≤ nz) :
    Calls Tryz.prog 40 #[.pointer (some ⟨Z, 0, none⟩), .int .i64 (p : Int), .int .i64 (n : Int), .string s] w fun e w' => ∃ m, e = .returned (.int .i64 m) ∧ (m = 0 ∧ Zn w0 w' D (x.laid (f + p) (secF n (sealL s)) (szN s.size)) fs ∨ m = 4 ∧ x.fuse ≠ none ∧ ∃ k kl, k ≤ szN s.size ∧ Zn w0 w' D ((x.laid (f + p) (secF n (sealL s)) k).fall kl) fs) := by
  have hnb : x.n ≤ 4096 := by obtain ⟨_, _, _, _, _, _, h⟩ := h.disk; exact h.nb
  have hmx := szN_max s.size hs
  have pop : ∀ {w' y g o}, Zn w0 w' D y ((g, o) :: fs) → Zn w0 w' D y fs := fun h3 => ⟨h3.disk.mono fun i hi => ⟨hi.1, fun z hz => hi.2 z (List.mem_cons_of_mem _ hz)⟩, fun z hz => h3.fix z (List.mem_cons_of_mem _ hz), h3.below⟩
  refine (seal_put_by w Z D f nz (h.fix _ hz) (by omega) n s h1 h2 hs (h.tabs hT) p hp (fun k g o W => Zn w0 W D (x.laid (f + p) (secF n (sealL s)) k) ((g, o) :: fs)) (fun m W => m = 4 ∧ x.fuse ≠ none ∧ ∃ k kl, k ≤ szN s.size ∧ Zn w0 W D ((x.laid (f + p) (secF n (sealL s)) k).fall kl) fs)
    (fun g o W hW hg ho => h.add hW hg ho) (fun k g o W hk hW => ⟨hW.fix (g, o) (List.mem_cons_self ..), ?_⟩)).mono ?_
  · refine (hW.writeAny (List.mem_cons_of_mem _ hz) ((laid_away _ _ _ _).trans ha) (hf.laid _ _ _) (by rw [laid_len]; omega) (by rw [laid_done]; omega) (by rw [laid_n]; exact hfn) (p + k) (by omega) _ (secS_size _)).mono ?_
    rintro e w' ⟨m, rfl, ⟨rfl, h3⟩ | ⟨rfl, hn, kl, h3⟩⟩
    · rw [← Nat.add_assoc] at h3
      exact ⟨0, rfl, .inl ⟨rfl, h3⟩⟩
    · exact ⟨4, rfl, .inr ⟨by decide, rfl, fun e => hn (laid_fuse x _ _ e k), k, kl, by omega, pop h3⟩⟩
  · rintro e w' ⟨m, rfl, ⟨rfl, g, o, h3⟩ | ⟨_, h3⟩⟩
    · exact ⟨0, rfl, .inl ⟨rfl, pop h3⟩⟩
    · exact ⟨m, rfl, .inr h3⟩
end Zn
end Go.Proofs.YtnmgkkjnjllpbaaGreatDoor
namespace Go.Proofs.YtnmgkkjnjllpbaaGreatDoor
open Go.ChangeShapes Go.WideShapes Go.ChangeAt Go.RowKit Pn Dk Sl Tw

namespace Dk
/-- A text laid from f on, and synced; a fill with nothing, synced. -/
def St.placed (x : St) (f gen : Nat) (s : ByteArray) : St := (x.laid f (secF gen (sealL s)) (szN s.size)).burnt.synced
def St.cleared (x : St) (f n : Nat) : St := (x.filled f (fun _ => 0) n).burnt.synced
/-- The power went when a text was placed; when it was filled ahead of that. -/
def St.PlaceFell (x : St) (f gen : Nat) (s : ByteArray) (y : St) : Prop := x.fuse ≠ none ∧ ∃ k kl, k ≤ szN s.size ∧ y = (x.laid f (secF gen (sealL s)) k).fall kl
def St.FillFell (x : St) (f n : Nat) (y : St) : Prop := x.fuse ≠ none ∧ ∃ k kl, k ≤ n ∧ y = (x.filled f (fun _ => 0) k).fall kl
def St.RenewFell (x : St) (f n gen : Nat) (s : ByteArray) (y : St) : Prop := x.FillFell f n y ∨ (x.cleared f n).PlaceFell f gen s y
theorem cleared_fuse {x : St} (h : x.fuse = none) (f n : Nat) : (x.cleared f n).fuse = none := by
  show (x.filled f (fun _ => 0) n).fuse.map _ = none
  rw [filled_fuse x f _ h n]
  rfl
theorem St.RenewFell.fuse {x : St} {f n gen : Nat} {s : ByteArray} {y : St} (h : x.RenewFell f n gen s y) : x.fuse ≠ none := by
  rcases h with h | h
  · exact h.1
  · exact fun e => h.1 (cleared_fuse e f n)
theorem St.Fz.synced {x : St} (h : x.Fz) : x.synced.Fz := h
end Dk
namespace Zn
variable {w0 w w' : World} {D : Nat} {x : Dk.St} {fs : List (Nat × Obj)}
set_option maxRecDepth 100000 in
set_option maxHeartbeats 1600000 in
theorem place (h : Zn w0 w D x fs) {Z f nz : Nat} (hz : (Z, zobj D f nz) ∈ fs) (hT : Tabs w0) (ha : x.away = false) (hf : x.Fz) (hl : x.loose.length ≤ 1073740000) (hd : x.done < 4611686018427370000) (hfn : f + nz ≤ x.n)
    (n : Nat) (s : ByteArray) (h1 : 1 ≤ n) (h2 : n ≤ 2147483647) (hs : s.size ≤ 1024) (hp : szN s.size ≤ nz) :
    Calls Tryz.prog 65 #[.pointer (some ⟨Z, 0, none⟩), .int .i64 (n : Int), .string s] w fun e w' => ∃ m, e = .returned (.int .i64 m) ∧ (m = 0 ∧ Zn w0 w' D (x.placed f n s) fs ∨ m = 4 ∧ ∃ y, x.PlaceFell f n s y ∧ Zn w0 w' D y fs) := by
  have hmx := szN_max s.size hs
  have HP := Lib.hid (h.putAny hz hT ha hf (by omega) (by omega) hfn n s h1 h2 hs 0 (by omega))
  rw [Nat.add_zero] at HP
  have HS := Lib.hid (fun W (hW : Zn w0 W D (x.laid f (secF n (sealL s)) (szN s.size)) fs) => hW.syncAny ((laid_away _ _ _ _).trans ha) (hf.laid _ _ _) (by rw [laid_len]; omega) (by rw [laid_done]; omega))
  have HC := Lib.hid (fun (W : World) y (hW : Zn w0 W D y fs) => zone_c0 (hW.fix _ hz))
  clear h hz hT ha hf hl hd hfn h1 h2 hs hp hmx
  go_enter Tryz.func65, Tryz.ntmps65
  go_wp2_with (fail)
  refine HP.out.mono ?_
  rintro e w1 ⟨m, rfl, ⟨rfl, g1⟩ | ⟨rfl, hn, k, kl, g0, g1⟩⟩
  · have G1 := Lib.hid g1
    have c0 := HC.out w1 _ g1
    clear g1 HP
    go_wp2_with (fail)
    refine (HS.out w1 G1.out).mono ?_
    rintro e w2 ⟨m, rfl, g2⟩
    have G2 := Lib.hid g2
    clear g2 HS
    go_wp2_with (fail)
    refine bodyPost_ret (results_tmp rfl _ _ _) rfl ?_
    refine ⟨m, rfl, ?_⟩
    rcases G2.out with h3 | ⟨h3, hn, kl, h4⟩
    · exact .inl h3
    · exact .inr ⟨h3, _, ⟨fun e => hn (laid_fuse x _ _ e _), _, kl, Nat.le_refl _, rfl⟩, h4⟩
  · have G1 := Lib.hid g1
    clear g1 HP
    go_wp2_with (fail)
    refine bodyPost_ret (results_tmp rfl _ _ _) rfl ?_
    exact ⟨4, rfl, .inr ⟨rfl, _, ⟨hn, k, kl, g0, rfl⟩, G1.out⟩⟩
set_option maxRecDepth 100000 in
set_option maxHeartbeats 1600000 in
theorem renew (h : Zn w0 w D x fs) {Z f nz : Nat} (hz : (Z, zobj D f nz) ∈ fs) (hT : Tabs w0) (ha : x.away = false) (hf : x.Fz) (hl : x.loose.length ≤ 1073700000) (hd : x.done < 4611686018427300000) (hfn : f + nz ≤ x.n)
    (n : Nat) (s : ByteArray) (h1 : 1 ≤ n) (h2 : n ≤ 2147483647) (hs : s.size ≤ 1024) (hp : szN s.size ≤ nz) :
    Calls Tryz.prog 49 #[.pointer (some ⟨Z, 0, none⟩), .int .i64 (n : Int), .string s] w fun e w' => ∃ m, e = .returned (.int .i64 m) ∧ (m = 0 ∧ Zn w0 w' D ((x.cleared f nz).placed f n s) fs ∨ m = 4 ∧ ∃ y, x.RenewFell f nz n s y ∧ Zn w0 w' D y fs) := by
  have hnb : x.n ≤ 4096 := by obtain ⟨_, _, _, _, _, _, h⟩ := h.disk; exact h.nb
  have l1 := filled_loose x f (fun _ => 0) nz
  have l2 := filled_done x f (fun _ => 0) nz
  have HF := Lib.hid (h.fillAny hz ha hf (by omega) (by omega) hfn 0)
  have HS := Lib.hid (fun W (hW : Zn w0 W D (x.filled f (fun _ => 0) nz) fs) => hW.syncAny ((filled_away _ _ _ _).trans ha) (hf.filled _ _ _) (by omega) (by omega))
  have HP := Lib.hid (fun W (hW : Zn w0 W D (x.cleared f nz) fs) => hW.place hz hT ((filled_away x f _ nz).trans ha) (hf.filled _ _ _).burnt (Nat.zero_le _) (show (x.filled f (fun _ => 0) nz).done + 1 < _ by omega) (by rw [show (x.cleared f nz).n = x.n from filled_n x f _ nz]; exact hfn) n s h1 h2 hs hp)
  have HC := Lib.hid (fun (W : World) y (hW : Zn w0 W D y fs) => zone_c0 (hW.fix _ hz))
  clear h hz hT ha hf hl hd hfn h1 h2 hs hp l1 l2
  go_enter Tryz.func49, Tryz.ntmps49
  go_wp2_with (fail)
  refine HF.out.mono ?_
  rintro e w1 ⟨m, rfl, ⟨rfl, g1⟩ | ⟨rfl, hn, k, kl, g0, g1⟩⟩
  · have G1 := Lib.hid g1
    have c0 := HC.out w1 _ g1
    clear g1 HF
    go_wp2_with (fail)
    refine (HS.out w1 G1.out).mono ?_
    rintro e w2 ⟨m, rfl, ⟨rfl, g2⟩ | ⟨rfl, hn, kl, g2⟩⟩
    · have G2 := Lib.hid g2
      clear g2 HS G1 c0
      go_wp2_with (fail)
      refine (HP.out w2 G2.out).mono ?_
      rintro e w3 ⟨m, rfl, g3⟩
      have G3 := Lib.hid g3
      clear g3 HP
      go_wp2_with (fail)
      refine bodyPost_ret (results_tmp rfl _ _ _) rfl ?_
      refine ⟨m, rfl, ?_⟩
      rcases G3.out with h3 | ⟨h3, y, h4, h5⟩
      · exact .inl h3
      · exact .inr ⟨h3, y, .inr h4, h5⟩
    · have G2 := Lib.hid g2
      clear g2 HS G1 c0
      go_wp2_with (fail)
      refine bodyPost_ret (results_tmp rfl _ _ _) rfl ?_
      exact ⟨4, rfl, .inr ⟨rfl, _, .inl ⟨fun e => hn (filled_fuse x f _ e _), _, kl, Nat.le_refl _, rfl⟩, G2.out⟩⟩
  · have G1 := Lib.hid g1
    clear g1 HF
    go_wp2_with (fail)
    refine bodyPost_ret (results_tmp rfl _ _ _) rfl ?_
    exact ⟨4, rfl, .inr ⟨rfl, _, .inl ⟨hn, k, kl, g0, rfl⟩, G1.out⟩⟩
end Zn
end Go.Proofs.YtnmgkkjnjllpbaaGreatDoor
namespace Go.Proofs.YtnmgkkjnjllpbaaGreatDoor
open Go.ChangeShapes Go.WideShapes Go.ChangeAt Go.RowKit Pn Dk Sl Tw

theorem wrap_nat {m : Nat} (h : m ≤ 2147483647) : IntKind.i64.wrap (m : Int) = (m : Int) ∧ wrap64 (m : Int) = (m : Int) := ⟨IntWalk.i64_in _ (by omega), IntWalk.wrap64_in _ (by omega)⟩
section
variable (w : World) (T Z D f n g k : Nat) (u s : ByteArray) (b : Bool) (ht : w.heap[T]? = some (tobj Z u g k b)) (hz : w.heap[Z]? = some (zobj D f n)) (hn : n ≤ 4096) (hs : s.size ≤ maxLen)
include ht hz hn hs
theorem twin_save_arg (hb : fitB n s = false) : Calls Tryz.prog 21 #[.pointer (some ⟨T, 0, none⟩), .string s] w fun e w' => e = .returned (.int .i64 1) ∧ w = w' := by
  have hF := twin_fits w Z D f n hz hn s hs
  rw [hb] at hF
  have HF := Lib.hid hF
  have c0 := twin_c0 ht
  clear ht hz hn hs hb hF
  go_enter Tryz.func21, Tryz.ntmps21
  go_wp2_with (fail)
  refine HF.out.mono ?_
  rintro e w1 ⟨rfl, rfl⟩
  go_wp2_with (fail)
  refine bodyPost_ret (results_tmp rfl _ _ _) rfl ?_
  exact ⟨rfl, rfl⟩
theorem twin_save_full (hb : fitB n s = true) (hg : 2147483647 ≤ g) : Calls Tryz.prog 21 #[.pointer (some ⟨T, 0, none⟩), .string s] w fun e w' => e = .returned (.int .i64 10) ∧ w = w' := by
  have hF := twin_fits w Z D f n hz hn s hs
  rw [hb] at hF
  have HF := Lib.hid hF
  have c0 := twin_c0 ht
  have c2 := twin_c2 ht
  have x1 : (2147483647 : Int) ≤ (g : Int) := by omega
  have t1 : decide ((2147483647 : Int) ≤ (g : Int)) = true := decide_eq_true x1
  clear ht hz hn hs hb hF hg
  go_enter Tryz.func21, Tryz.ntmps21
  go_wp2_with (fail)
  refine HF.out.mono ?_
  rintro e w1 ⟨rfl, rfl⟩
  go_wp2_with (fail)
  refine bodyPost_ret (results_tmp rfl _ _ _) rfl ?_
  exact ⟨rfl, rfl⟩
end
section
variable (w : World) (T Z D f n g k : Nat) (u s : ByteArray) (hz : w.heap[Z]? = some (zobj D f n)) (hn : n ≤ 4096) (hs : s.size ≤ maxLen)
include hz hn hs
theorem twin_save_down (ht : w.heap[T]? = some (tobj Z u g k true)) (hb : fitB n s = true) (hg : g < 2147483647) : Calls Tryz.prog 21 #[.pointer (some ⟨T, 0, none⟩), .string s] w fun e w' => e = .returned (.int .i64 4) ∧ w = w' := by
  have hF := twin_fits w Z D f n hz hn s hs
  rw [hb] at hF
  have HF := Lib.hid hF
  have c0 := twin_c0 ht
  have c2 := twin_c2 ht
  have c4 := twin_c4 ht
  have x1 : ¬ (2147483647 : Int) ≤ (g : Int) := by omega
  have t1 : decide ((2147483647 : Int) ≤ (g : Int)) = false := decide_eq_false x1
  clear ht hz hn hs hb hF hg
  go_enter Tryz.func21, Tryz.ntmps21
  go_wp2_with (fail)
  refine HF.out.mono ?_
  rintro e w1 ⟨rfl, rfl⟩
  go_wp2_with (fail)
  refine bodyPost_ret (results_tmp rfl _ _ _) rfl ?_
  exact ⟨rfl, rfl⟩
end
namespace Zn
variable {w0 w w' : World} {D : Nat} {x : Dk.St} {fs : List (Nat × Obj)}
/-- Where the copy that isn't the last one begins. -/
def other (f n k : Nat) : Nat := f + (1 - k) * (n / 2)
set_option maxRecDepth 100000 in
set_option maxHeartbeats 3200000 in
theorem save {T Z f n g k : Nat} {u : ByteArray} (h : Zn w0 w D x ((T, tobj Z u g k false) :: fs)) (hz : (Z, zobj D f n) ∈ fs) (hne : ∀ z ∈ fs, z.1 ≠ T) (hTw : w0.heap.size ≤ T) (hT : Tabs w0) (ha : x.away = false) (hf : x.Fz) (hl : x.loose.length ≤ 1073700000) (hd : x.done < 4611686018427300000) (hfn : f + n ≤ x.n)
    (h4 : 2 ≤ n) (hk : k < 2) (s : ByteArray) (hs : s.size ≤ 1024) (hp : szN s.size ≤ n / 2) (hg : g < 2147483647) :
    Calls Tryz.prog 21 #[.pointer (some ⟨T, 0, none⟩), .string s] w fun e w' => ∃ m, e = .returned (.int .i64 m) ∧ (m = 0 ∧ Zn w0 w' D ((x.cleared (other f n k) (n / 2)).placed (other f n k) (g + 1) s) ((T, tobj Z s (g + 1) (1 - k) false) :: fs) ∨ m = 4 ∧ ∃ y, x.RenewFell (other f n k) (n / 2) (g + 1) s y ∧ Zn w0 w' D y ((T, tobj Z u g k true) :: fs)) := by
  have hnb : x.n ≤ 4096 := by obtain ⟨_, _, _, _, _, _, h⟩ := h.disk; exact h.nb
  have ht := h.fix (T, tobj Z u g k false) (List.mem_cons_self ..)
  have hzz := h.fix _ (List.mem_cons_of_mem _ hz)
  have hF := twin_fits w Z D f n hzz (by omega) s (by unfold maxLen; omega)
  rw [fitB_true hs hp] at hF
  have HF := Lib.hid hF
  have c0 := twin_c0 ht
  have c2 := twin_c2 ht
  have c3 := twin_c3 ht
  have c4 := twin_c4 ht
  have x1 : ¬ (2147483647 : Int) ≤ (g : Int) := by omega
  have t1 : decide ((2147483647 : Int) ≤ (g : Int)) = false := decide_eq_false x1
  have e1 : wrap64 ((1 - k : Nat) : Int) = ((1 - k : Nat) : Int) := IntWalk.wrap64_in _ (by omega)
  have e1' : 1 - (k : Int) = ((1 - k : Nat) : Int) := by omega
  have hg2 : g + 1 ≤ 2147483647 := Nat.succ_le_of_lt hg
  have hg1 : 1 ≤ g + 1 := Nat.succ_le_succ (Nat.zero_le g)
  have e2 := (wrap_nat hg2).2
  have e3 := (wrap_nat hg2).1
  have e2' : (g : Int) + 1 = ((g + 1 : Nat) : Int) := (Int.natCast_succ g).symm
  have hk1 : (1 - k) * (n / 2) ≤ 1 * (n / 2) := Nat.mul_le_mul_right _ (by omega)
  have hoth : other f n k + n / 2 ≤ x.n := by unfold other; omega
  have HCP := Lib.hid (show Calls Tryz.prog 50 #[.pointer (some ⟨Z, 0, none⟩), .int .i64 ((1 - k : Nat) : Int)] w.drew fun e w' => ∃ Z', e = .returned (.pointer (some ⟨Z', 0, none⟩)) ∧ Zn w0 w' D x ((Z', zobj D (other f n k) (n / 2)) :: (T, tobj Z u g k false) :: fs) from by
    refine (twin_copyOf w.drew Z D f n ((h.drewN 1).fix _ (List.mem_cons_of_mem _ hz)) (by omega) _ x (h.drewN 1).disk hfn h4 (1 - k) (by omega)).mono ?_
    rintro e w' ⟨Z', rfl, g1, g2, g3⟩
    exact ⟨Z', rfl, (h.drewN 1).add g3 g1 g2⟩)
  have HR := Lib.hid (fun (W : World) (Z' : Nat) (hW : Zn w0 W D x ((Z', zobj D (other f n k) (n / 2)) :: (T, tobj Z u g k false) :: fs)) => hW.renew (Z := Z') (List.mem_cons_self ..) hT ha hf hl hd hoth (g + 1) s hg1 hg2 hs hp)
  have HFX := Lib.hid (fun (W : World) (Z' : Nat) y (hW : Zn w0 W D y ((Z', zobj D (other f n k) (n / 2)) :: (T, tobj Z u g k false) :: fs)) => (show Zn w0 W D y ((T, tobj Z u g k false) :: fs) from hW.less (fun z hz => List.mem_cons_of_mem _ hz)))
  have HTN := Lib.hid (show ∀ (W : World) y, Zn w0 W D y ((T, tobj Z u g k false) :: fs) → Zn w0 (W.setCell ⟨T, 4, none⟩ (.bool true)) D y ((T, tobj Z u g k true) :: fs) ∧ Zn w0 (((W.setCell ⟨T, 1, none⟩ (.string s)).setCell ⟨T, 2, none⟩ (.int .i64 ((g + 1 : Nat) : Int))).setCell ⟨T, 3, none⟩ (.int .i64 ((1 - k : Nat) : Int))) D y ((T, tobj Z s (g + 1) (1 - k) false) :: fs) from fun W y hW => by
    have hb := hW.fix (T, tobj Z u g k false) (List.mem_cons_self ..)
    refine ⟨hW.turn hTw hne (heap_setCell_same W T 4 _ _ _ hb) (fun i hi => heap_setCell_other W ⟨T, 4, none⟩ i _ hi) ⟨rfl, rfl, rfl⟩ (by simp [World.setCell]), hW.turn hTw hne (heap_setCell_same _ T 3 _ _ _ (heap_setCell_same _ T 2 _ _ _ (heap_setCell_same W T 1 _ _ _ hb))) (fun i hi => ?_) ⟨rfl, rfl, rfl⟩ (by simp [World.setCell])⟩
    rw [heap_setCell_other _ ⟨T, 3, none⟩ i _ hi, heap_setCell_other _ ⟨T, 2, none⟩ i _ hi, heap_setCell_other _ ⟨T, 1, none⟩ i _ hi])
  have HC := Lib.hid (show ∀ (W : World) y, Zn w0 W D y ((T, tobj Z u g k false) :: fs) → W.heap[T]? = some (tobj Z u g k false) from fun W y hW => hW.fix (T, tobj Z u g k false) (List.mem_cons_self ..))
  clear h hz hne hTw hT ha hf hl hd hfn h4 hk hs hp hg ht hzz hF hk1 hoth hg1 hg2
  generalize ((1 - k : Nat) : Int) = k1 at e1 e1' HCP HTN
  generalize ((g + 1 : Nat) : Int) = g1 at e2 e2' e3 HR HTN
  go_enter Tryz.func21, Tryz.ntmps21
  go_wp2_with (fail)
  refine HF.out.mono ?_
  rintro e w1 ⟨rfl, rfl⟩
  go_wp2_with (fail)
  clear c3 c4 HF
  have c0d : w.drew.cell? ⟨T, 0, none⟩ = some (.pointer (some ⟨Z, 0, none⟩)) := c0
  have c2d : w.drew.cell? ⟨T, 2, none⟩ = some (.int .i64 (g : Int)) := c2
  go_region_held3 (fun W : World => W.cell? ⟨T, 0, none⟩ = some (.pointer (some ⟨Z, 0, none⟩)) ∧ W.cell? ⟨T, 2, none⟩ = some (.int .i64 (g : Int))) (first | exact ⟨c0d, c2d⟩ | assumption) (first
    | (go_at_call 50; (with_reducible refine HCP.out.mono ?_); rintro e w2 ⟨Z', rfl, h2⟩; have H2 := Lib.hid h2; have hh2 := HC.out w2 _ (HFX.out w2 Z' _ h2); have hs := And.intro (twin_c0 hh2) (twin_c2 hh2); clear h2)
    | (go_at_call 49; (with_reducible refine (HR.out _ Z' H2.out).mono ?_); rintro e w3 ⟨m, rfl, h3⟩; have H3 := Lib.hid h3; have hh3 : w3.heap[T]? = some (tobj Z u g k false) := (by rcases h3 with ⟨_, h3⟩ | ⟨_, y, _, h3⟩ <;> exact HC.out w3 _ (HFX.out w3 Z' _ h3)); have hs := And.intro (twin_c0 hh3) (twin_c2 hh3); clear h3))
  rcases H3.out with ⟨rfl, h3⟩ | ⟨rfl, y, hy, h3⟩
  · have hT3 := HC.out _ _ (HFX.out _ Z' _ h3)
    have F := Lib.hid (HTN.out _ _ (HFX.out _ Z' _ h3)).2
    have d1 := twin_c1 hT3
    have d2 := twin_c2 hT3
    have d3 := twin_c3 hT3
    have f1 := twin_fz hT3
    clear h3 H3 H2 hT3 HTN HFX HC HR HCP c0 c2 c0d c2d
    go_wp2_with (fail)
    refine bodyPost_ret (results_tmp rfl _ _ _) rfl ?_
    exact ⟨0, rfl, .inl ⟨rfl, F.out⟩⟩
  · have hT3 := HC.out _ _ (HFX.out _ Z' _ h3)
    have F := Lib.hid (HTN.out _ _ (HFX.out _ Z' _ h3)).1
    have d4 := twin_c4 hT3
    have f1 := twin_fz hT3
    clear h3 H3 H2 hT3 HTN HFX HC HR HCP c0 c2 c0d c2d
    go_wp2_with (fail)
    refine bodyPost_ret (results_tmp rfl _ _ _) rfl ?_
    exact ⟨4, rfl, .inr ⟨rfl, y, hy, F.out⟩⟩
end Zn
end Go.Proofs.YtnmgkkjnjllpbaaGreatDoor
namespace Go.Proofs.YtnmgkkjnjllpbaaGreatDoor
open Go.ChangeShapes Go.WideShapes Go.ChangeAt Go.RowKit Pn Dk Sl Tw

theorem twin_format_nil (w : World) (s : ByteArray) : Calls Tryz.prog 38 #[.pointer none, .string s] w fun e w' => e = .returned (.tuple #[.pointer none, .int .i64 2]) ∧ w = w' := by
  go_enter Tryz.func38, Tryz.ntmps38
  go_wp2
  refine bodyPost_ret (results_tmp2 rfl _ _ _) rfl ?_
  exact ⟨rfl, rfl⟩
theorem twin_open_nil (w : World) : Calls Tryz.prog 55 #[.pointer none] w fun e w' => e = .returned (.tuple #[.pointer none, .int .i64 2]) ∧ w = w' := by
  go_enter Tryz.func55, Tryz.ntmps55
  go_wp2
  refine bodyPost_ret (results_tmp2 rfl _ _ _) rfl ?_
  exact ⟨rfl, rfl⟩
theorem twin_save_nil (w : World) (s : ByteArray) : Calls Tryz.prog 21 #[.pointer none, .string s] w fun e w' => e = .returned (.int .i64 2) ∧ w = w' := by
  go_enter Tryz.func21, Tryz.ntmps21
  go_wp2
  refine bodyPost_ret (results_tmp rfl _ _ _) rfl ?_
  exact ⟨rfl, rfl⟩
theorem twin_text_nil (w : World) : Calls Tryz.prog 16 #[.pointer none] w fun e w' => e = .returned (.string ⟨#[]⟩) ∧ w = w' := by
  go_enter Tryz.func16, Tryz.ntmps16
  go_wp2
  refine bodyPost_ret (results_tmp rfl _ _ _) rfl ?_
  exact ⟨rfl, rfl⟩
theorem twin_gen_nil (w : World) : Calls Tryz.prog 17 #[.pointer none] w fun e w' => e = .returned (.int .i64 0) ∧ w = w' := by
  go_enter Tryz.func17, Tryz.ntmps17
  go_wp2
  refine bodyPost_ret (results_tmp rfl _ _ _) rfl ?_
  exact ⟨rfl, rfl⟩
section
variable (w : World) (Z D f n : Nat) (hz : w.heap[Z]? = some (zobj D f n)) (hn : n ≤ 4096) (hb : canB n = false)
include hz hn hb
theorem twin_format_cant (s : ByteArray) : Calls Tryz.prog 38 #[.pointer (some ⟨Z, 0, none⟩), .string s] w fun e w' => e = .returned (.tuple #[.pointer none, .int .i64 1]) ∧ w = w' := by
  have hF := twin_canBe w Z D f n hz hn
  rw [hb] at hF
  have HF := Lib.hid hF
  clear hz hn hb hF
  go_enter Tryz.func38, Tryz.ntmps38
  go_wp2_with (fail)
  refine HF.out.mono ?_
  rintro e w1 ⟨rfl, rfl⟩
  go_wp2_with (fail)
  refine bodyPost_ret (results_tmp2 rfl _ _ _) rfl ?_
  exact ⟨rfl, rfl⟩
theorem twin_open_cant : Calls Tryz.prog 55 #[.pointer (some ⟨Z, 0, none⟩)] w fun e w' => e = .returned (.tuple #[.pointer none, .int .i64 1]) ∧ w = w' := by
  have hF := twin_canBe w Z D f n hz hn
  rw [hb] at hF
  have HF := Lib.hid hF
  clear hz hn hb hF
  go_enter Tryz.func55, Tryz.ntmps55
  go_wp2_with (fail)
  refine HF.out.mono ?_
  rintro e w1 ⟨rfl, rfl⟩
  go_wp2_with (fail)
  refine bodyPost_ret (results_tmp2 rfl _ _ _) rfl ?_
  exact ⟨rfl, rfl⟩
end
namespace Tw
/-- What is got of a copy; the last one of the first k. -/
def getS (x : Dk.St) (f n k : Nat) : ByteArray × Nat × Nat := getR (rdZ x (f + k * (n / 2))) (n / 2) 0
def acc (x : Dk.St) (f n : Nat) : Nat → ByteArray × Nat × Nat
  | 0 => (⟨#[]⟩, 0, 0)
  | k + 1 => if (getS x f n k).2.2 = 0 ∧ (acc x f n k).2.1 < (getS x f n k).2.1 then ((getS x f n k).1, (getS x f n k).2.1, k) else acc x f n k
end Tw
namespace Zn
variable {w0 w w' : World} {D : Nat} {x : Dk.St} {fs : List (Nat × Obj)}
set_option maxRecDepth 100000 in
set_option maxHeartbeats 3200000 in
theorem format (h : Zn w0 w D x fs) {Z f n : Nat} (hz : (Z, zobj D f n) ∈ fs) (hT : Tabs w0) (ha : x.away = false) (hf : x.Fz) (hl : x.loose.length ≤ 1073700000) (hd : x.done < 4611686018427300000) (hfn : f + n ≤ x.n) (hc : canB n = true)
    (s : ByteArray) (hs : s.size ≤ 1024) (hp : szN s.size ≤ n / 2) :
    Calls Tryz.prog 38 #[.pointer (some ⟨Z, 0, none⟩), .string s] w fun e w' => (∃ T, e = .returned (.tuple #[.pointer (some ⟨T, 0, none⟩), .int .i64 0]) ∧ w0.heap.size ≤ T ∧ (∀ z ∈ fs, z.1 ≠ T) ∧ Zn w0 w' D ((x.filled f (fun _ => 0) n).placed f 1 s) ((T, tobj Z s 1 0 false) :: fs)) ∨
      (e = .returned (.tuple #[.pointer none, .int .i64 4]) ∧ ∃ y, (x.FillFell f n y ∨ (x.filled f (fun _ => 0) n).PlaceFell f 1 s y) ∧ Zn w0 w' D y fs) := by
  have hnb : x.n ≤ 4096 := by obtain ⟨_, _, _, _, _, _, h⟩ := h.disk; exact h.nb
  obtain ⟨h4, _⟩ := canB_iff.1 hc
  have hk1 : 0 * (n / 2) = 0 := Nat.zero_mul _
  have l1 := filled_loose x f (fun _ => 0) n
  have l2 := filled_done x f (fun _ => 0) n
  have hB := twin_canBe w Z D f n (h.fix _ hz) (by omega)
  rw [hc] at hB
  have hF := twin_fits w Z D f n (h.fix _ hz) (by omega) s (by unfold maxLen; omega)
  rw [fitB_true hs hp] at hF
  have HB := Lib.hid hB
  have HF := Lib.hid hF
  have HFL := Lib.hid (h.fillAny hz ha hf (by omega) (by omega) hfn 0)
  have HCP := Lib.hid (fun (W : World) (hW : Zn w0 W D (x.filled f (fun _ => 0) n) fs) => (show Calls Tryz.prog 50 #[.pointer (some ⟨Z, 0, none⟩), .int .i64 0] W fun e w' => ∃ Z', e = .returned (.pointer (some ⟨Z', 0, none⟩)) ∧ Zn w0 w' D (x.filled f (fun _ => 0) n) ((Z', zobj D f (n / 2)) :: fs) from by
    refine (twin_copyOf W Z D f n (hW.fix _ hz) (by omega) _ _ hW.disk (by rw [filled_n]; exact hfn) (by omega) 0 (by omega)).mono ?_
    rintro e w' ⟨Z', rfl, g1, g2, g3⟩
    rw [hk1, Nat.add_zero] at g2
    exact ⟨Z', rfl, hW.add g3 g1 g2⟩))
  have hh : f + n / 2 ≤ x.n := by omega
  have HPL := Lib.hid (fun (W : World) (Z' : Nat) (hW : Zn w0 W D (x.filled f (fun _ => 0) n) ((Z', zobj D f (n / 2)) :: fs)) => hW.place (Z := Z') (List.mem_cons_self ..) hT ((filled_away _ _ _ _).trans ha) (hf.filled _ _ _) (by omega) (by omega) (by rw [filled_n]; exact hh) 1 s (Nat.le_refl _) (by decide) hs hp)
  have HLT := Lib.hid (fun (W : World) y (hW : Zn w0 W D y fs) => (show w0.heap.size ≤ W.heap.size ∧ ∀ z ∈ fs, z.1 ≠ W.heap.size from ⟨hW.below.size, fun z hz => Nat.ne_of_lt (Array.getElem?_eq_some_iff.1 (hW.fix z hz)).1⟩))
  clear h hz hT ha hf hl hd hfn hc hs hp hnb h4 hk1 l1 l2 hB hF hh
  go_enter Tryz.func38, Tryz.ntmps38
  go_wp2_with (fail)
  refine HB.out.mono ?_
  rintro e w1 ⟨rfl, rfl⟩
  go_wp2_with (fail)
  refine HF.out.mono ?_
  rintro e w1 ⟨rfl, rfl⟩
  clear HB HF
  go_wp2_with (fail)
  refine HFL.out.mono ?_
  rintro e w1 ⟨m, rfl, ⟨rfl, g1⟩ | ⟨rfl, hn, k, kl, g0, g1⟩⟩
  · have G1 := Lib.hid g1
    clear g1 HFL
    go_wp2_with (fail)
    refine (HCP.out w1 G1.out).mono ?_
    rintro e w2 ⟨Z', rfl, g2⟩
    have G2 := Lib.hid g2
    clear g2 HCP G1
    go_wp2_with (fail)
    refine (HPL.out w2 Z' G2.out).mono ?_
    rintro e w3 ⟨m, rfl, ⟨rfl, g3⟩ | ⟨rfl, y, hy, g3⟩⟩
    · have G3 := Lib.hid (g3.less (gs := fs) (fun z hz => List.mem_cons_of_mem _ hz))
      clear g3 HPL G2
      go_wp2_with (fail)
      refine bodyPost_ret (results_tmp2 rfl _ _ _) rfl ?_
      exact .inl ⟨_, rfl, (HLT.out w3 _ G3.out).1, (HLT.out w3 _ G3.out).2, G3.out.add ((Below.refl _ _).alloc (Nat.le_refl _) _) (Nat.le_refl _) (heap_alloc_new w3 _)⟩
    · have G3 := Lib.hid (g3.less (gs := fs) (fun z hz => List.mem_cons_of_mem _ hz))
      clear g3 HPL G2
      go_wp2_with (fail)
      refine bodyPost_ret (results_tmp2 rfl _ _ _) rfl ?_
      exact .inr ⟨rfl, y, .inr hy, G3.out⟩
  · have G1 := Lib.hid g1
    clear g1 HFL
    go_wp2_with (fail)
    refine bodyPost_ret (results_tmp2 rfl _ _ _) rfl ?_
    exact .inr ⟨rfl, _, .inl ⟨hn, k, kl, g0, rfl⟩, G1.out⟩
set_option maxRecDepth 100000 in
set_option maxHeartbeats 3200000 in
theorem open_ (h : Zn w0 w D x fs) {Z f n : Nat} (hz : (Z, zobj D f n) ∈ fs) (hT : Tabs w0) (ha : x.away = false) (hfn : f + n ≤ x.n) (hc : canB n = true) :
    Calls Tryz.prog 55 #[.pointer (some ⟨Z, 0, none⟩)] w fun e w' => ((acc x f n 2).2.1 = 0 ∧ e = .returned (.tuple #[.pointer none, .int .i64 5]) ∧ Zn w0 w' D x fs) ∨
      ∃ T, 1 ≤ (acc x f n 2).2.1 ∧ e = .returned (.tuple #[.pointer (some ⟨T, 0, none⟩), .int .i64 0]) ∧ w0.heap.size ≤ T ∧ (∀ z ∈ fs, z.1 ≠ T) ∧ Zn w0 w' D x ((T, tobj Z (acc x f n 2).1 (acc x f n 2).2.1 (acc x f n 2).2.2 false) :: fs) := by
  have hnb : x.n ≤ 4096 := by obtain ⟨_, _, _, _, _, _, h⟩ := h.disk; exact h.nb
  obtain ⟨h4, _⟩ := canB_iff.1 hc
  have hB := twin_canBe w Z D f n (h.fix _ hz) (by omega)
  rw [hc] at hB
  have hI := disk_isOn _ w D x h.disk
  rw [ha] at hI
  have HB := Lib.hid hB
  have HI := Lib.hid hI
  have c0 := zone_c0 (h.fix _ hz)
  have HST := Lib.hid (show ∀ k : Nat, acc x f n (k + 1) = if (getS x f n k).2.2 = 0 ∧ (acc x f n k).2.1 < (getS x f n k).2.1 then ((getS x f n k).1, (getS x f n k).2.1, k) else acc x f n k from fun k => rfl)
  have hkk : ∀ k, k < 2 → f + k * (n / 2) + n / 2 ≤ x.n := fun k hk => by
    have hk1 : k * (n / 2) ≤ 1 * (n / 2) := Nat.mul_le_mul_right _ (by omega)
    omega
  have HCP := Lib.hid (fun (W : World) (gs : List (Nat × Obj)) (hW : Zn w0 W D x gs) (hz' : (Z, zobj D f n) ∈ gs) (k : Nat) (hk : k < 2) => (show Calls Tryz.prog 50 #[.pointer (some ⟨Z, 0, none⟩), .int .i64 (k : Int)] W fun e w' => ∃ Z', e = .returned (.pointer (some ⟨Z', 0, none⟩)) ∧ Zn w0 w' D x ((Z', zobj D (f + k * (n / 2)) (n / 2)) :: gs) from by
    refine (twin_copyOf W Z D f n (hW.fix _ hz') (by omega) _ _ hW.disk hfn (by omega) k hk).mono ?_
    rintro e w' ⟨Z', rfl, g1, g2, g3⟩
    exact ⟨Z', rfl, hW.add g3 g1 g2⟩))
  have HG := Lib.hid (fun (W : World) (Z' k : Nat) (gs : List (Nat × Obj)) (hk : k < 2) (hW : Zn w0 W D x ((Z', zobj D (f + k * (n / 2)) (n / 2)) :: gs)) (s : ByteArray) (m e0 : Nat) (hg : getS x f n k = (s, m, e0)) => hW.get (Z := Z') (List.mem_cons_self ..) hT ha (hkk k hk) 0 (by omega) hg)
  have HT0 := Lib.hid (show w0.heap.size ≤ w.heap.size ∧ ∀ z ∈ fs, z.1 ≠ w.heap.size from ⟨h.below.size, fun z hz => Nat.ne_of_lt (Array.getElem?_eq_some_iff.1 (h.fix z hz)).1⟩)
  have H0 := Lib.hid (show Zn w0 (w.alloc (tobj Z ⟨#[]⟩ 0 0 false)) D x ((w.heap.size, tobj Z ⟨#[]⟩ 0 0 false) :: fs) from h.add ((Below.refl _ _).alloc (Nat.le_refl _) _) (Nat.le_refl _) (heap_alloc_new w _))
  have HZ := Lib.hid hz
  clear h hz hT ha hfn hc hnb h4 hB hI hkk
  go_enter Tryz.func55, Tryz.ntmps55
  go_wp2_with (fail)
  refine HB.out.mono ?_
  rintro e w1 ⟨rfl, rfl⟩
  go_wp2_with (fail)
  refine HI.out.mono ?_
  rintro e w1 ⟨rfl, rfl⟩
  clear HB HI
  go_wp2_with (fail)
  obtain ⟨T, hTe⟩ : ∃ T, T = w.heap.size := ⟨_, rfl⟩
  rw [← hTe] at H0 HT0
  rw [← hTe]
  have H0' := Lib.hid (show ∃ W, W = w.alloc (tobj Z ⟨#[]⟩ 0 0 false) ∧ Zn w0 W D x ((T, tobj Z ⟨#[]⟩ 0 0 false) :: fs) from ⟨_, rfl, H0.out⟩)
  clear H0 hTe
  go_loopw [23] (fun i wr => ∃ k : Nat, i = .int .i64 (k : Int) ∧ k ≤ 2 ∧ Zn w0 wr D x ((T, tobj Z (acc x f n k).1 (acc x f n k).2.1 (acc x f n k).2.2 false) :: fs)) (fun i _ => match i with | .int _ k => 2 - k.toNat | _ => 0)
  case atStart =>
    obtain ⟨W, rfl, hW⟩ := H0'.out
    exact ⟨0, rfl, Nat.zero_le _, hW⟩
  case round =>
    clear H0' c0
    obtain ⟨k, rfl, hk2, hW⟩ := hrel
    have HW := Lib.hid hW
    have a2 := twin_c2 (hW.fix (T, tobj Z (acc x f n k).1 (acc x f n k).2.1 (acc x f n k).2.2 false) (List.mem_cons_self ..))
    clear hW
    by_cases hlt : k < 2
    · have y0 : (k : Int) < 2 := by omega
      have y1 : decide ((k : Int) < 2) = true := decide_eq_true y0
      have y2 : 0 ≤ (k : Int) := by omega
      have HA := Lib.hid (HST.out k)
      obtain ⟨s, m, e0, hr⟩ : ∃ s m e0, getS x f n k = (s, m, e0) := ⟨_, _, _, rfl⟩
      have HG1 := Lib.hid (fun W Z' gs hW => HG.out W Z' k gs hlt hW s m e0 hr)
      have HCP1 := Lib.hid (HCP.out wr _ HW.out (List.mem_cons_of_mem _ HZ.out) k hlt)
      rw [hr] at HA
      clear HG HCP HST hr
      go_wp2_with (fail)
      refine HCP1.out.mono ?_
      rintro e w2 ⟨Z', rfl, g2⟩
      have G2 := Lib.hid g2
      clear g2 HCP1 a2
      go_wp2_with (fail)
      refine (HG1.out w2 Z' _ G2.out).mono ?_
      rintro e w3 ⟨rfl, g3⟩
      have G3 := Lib.hid (g3.less (fun z hz => List.mem_cons_of_mem _ hz))
      have b2 := twin_c2 (G3.out.fix (T, tobj Z (acc x f n k).1 (acc x f n k).2.1 (acc x f n k).2.2 false) (List.mem_cons_self ..))
      have f1 := twin_fz (G3.out.fix (T, tobj Z (acc x f n k).1 (acc x f n k).2.1 (acc x f n k).2.2 false) (List.mem_cons_self ..))
      have cc := twin_c1 (G3.out.fix (T, tobj Z (acc x f n k).1 (acc x f n k).2.1 (acc x f n k).2.2 false) (List.mem_cons_self ..))
      have cd := twin_c3 (G3.out.fix (T, tobj Z (acc x f n k).1 (acc x f n k).2.1 (acc x f n k).2.2 false) (List.mem_cons_self ..))
      clear g3 HG1 G2
      by_cases he : e0 = 0
      · have t1 : ((e0 : Int) == 0) = true := by rw [he]; rfl
        by_cases hm : (acc x f n k).2.1 < m
        · have t2' : ((acc x f n k).2.1 : Int) < (m : Int) := by omega
          have t2 : decide (((acc x f n k).2.1 : Int) < (m : Int)) = true := decide_eq_true t2'
          have hA := HA.out
          rw [if_pos ⟨he, hm⟩] at hA
          have HN := Lib.hid (show Zn w0 (((w3.setCell ⟨T, 1, none⟩ (.string s)).setCell ⟨T, 2, none⟩ (.int .i64 (m : Int))).setCell ⟨T, 3, none⟩ (.int .i64 (k : Int))) D x ((T, tobj Z (acc x f n (k + 1)).1 (acc x f n (k + 1)).2.1 (acc x f n (k + 1)).2.2 false) :: fs) from by
            rw [hA]
            refine G3.out.turn HT0.out.1 HT0.out.2 (heap_setCell_same _ T 3 _ _ _ (heap_setCell_same _ T 2 _ _ _ (heap_setCell_same w3 T 1 _ _ _ (G3.out.fix (T, tobj Z (acc x f n k).1 (acc x f n k).2.1 (acc x f n k).2.2 false) (List.mem_cons_self ..))))) (fun i hi => ?_) ⟨rfl, rfl, rfl⟩ (by simp [World.setCell])
            rw [heap_setCell_other _ ⟨T, 3, none⟩ i _ hi, heap_setCell_other _ ⟨T, 2, none⟩ i _ hi, heap_setCell_other _ ⟨T, 1, none⟩ i _ hi])
          clear hA HA G3 hm he HW
          generalize (acc x f n k).2.1 = ag at b2 t2 t2'
          go_wp2_with (fail)
          exact ⟨⟨k + 1, rfl, by omega, HN.out⟩, by show 2 - ((k : Int) + 1).toNat < 2 - (k : Int).toNat; omega⟩
        · have t2' : ¬ ((acc x f n k).2.1 : Int) < (m : Int) := by omega
          have t2 : decide (((acc x f n k).2.1 : Int) < (m : Int)) = false := decide_eq_false t2'
          have hA := HA.out
          rw [if_neg (fun h => hm h.2)] at hA
          have HN := Lib.hid G3.out
          rw [← hA] at HN
          clear hA HA G3 hm he HW
          generalize (acc x f n k).2.1 = ag at b2 t2 t2'
          go_wp2_with (fail)
          exact ⟨⟨k + 1, rfl, by omega, HN.out⟩, by show 2 - ((k : Int) + 1).toNat < 2 - (k : Int).toNat; omega⟩
      · have t1 : ((e0 : Int) == 0) = false := beq_eq_false_iff_ne.2 (by omega)
        have hA := HA.out
        rw [if_neg (fun h => he h.1)] at hA
        have HN := Lib.hid G3.out
        rw [← hA] at HN
        clear hA HA G3 he HW
        go_wp2_with (fail)
        exact ⟨⟨k + 1, rfl, by omega, HN.out⟩, by show 2 - ((k : Int) + 1).toNat < 2 - (k : Int).toNat; omega⟩
    · have hke : k = 2 := by omega
      subst hke
      have y1 : decide (((2 : Nat) : Int) < 2) = false := decide_eq_false (by omega)
      have y0 : ¬ ((2 : Nat) : Int) < 2 := by omega
      clear hlt HG HCP HST HZ
      by_cases hg : (acc x f n 2).2.1 = 0
      · have z1 : decide (((acc x f n 2).2.1 : Int) < 1) = true := decide_eq_true (by omega)
        have HG0 := Lib.hid hg
        have HL := Lib.hid (HW.out.less (gs := fs) (fun z hz => List.mem_cons_of_mem _ hz))
        clear hg HW
        generalize ((acc x f n 2).2.1 : Int) = ag at a2 z1
        go_wp2_with (fail)
        refine bodyPost_ret (results_tmp2 rfl _ _ _) rfl ?_
        exact .inl ⟨HG0.out, rfl, HL.out⟩
      · have z1 : decide (((acc x f n 2).2.1 : Int) < 1) = false := decide_eq_false (by omega)
        have HG0 := Lib.hid (show 1 ≤ (acc x f n 2).2.1 by omega)
        clear hg
        generalize ((acc x f n 2).2.1 : Int) = ag at a2 z1
        go_wp2_with (fail)
        refine bodyPost_ret (results_tmp2 rfl _ _ _) rfl ?_
        exact .inr ⟨HG0.out, T, rfl, HT0.out.1, fun a b hab => HT0.out.2 (a, b) hab, HW.out⟩
/-- Without a fuse. -/
theorem formatOn (h : Zn w0 w D x fs) {Z f n : Nat} (hz : (Z, zobj D f n) ∈ fs) (hT : Tabs w0) (ha : x.away = false) (hf : x.fuse = none) (hl : x.loose.length ≤ 1073700000) (hd : x.done < 4611686018427300000) (hfn : f + n ≤ x.n) (hc : canB n = true)
    (s : ByteArray) (hs : s.size ≤ 1024) (hp : szN s.size ≤ n / 2) :
    Calls Tryz.prog 38 #[.pointer (some ⟨Z, 0, none⟩), .string s] w fun e w' => ∃ T, e = .returned (.tuple #[.pointer (some ⟨T, 0, none⟩), .int .i64 0]) ∧ w0.heap.size ≤ T ∧ (∀ z ∈ fs, z.1 ≠ T) ∧ Zn w0 w' D ((x.filled f (fun _ => 0) n).placed f 1 s) ((T, tobj Z s 1 0 false) :: fs) := by
  refine (h.format hz hT ha (St.Fz.of_none hf) hl hd hfn hc s hs hp).mono ?_
  rintro e w' (h1 | ⟨_, y, hy, _⟩)
  · exact h1
  · rcases hy with hy | hy
    · exact absurd hf hy.1
    · exact absurd (filled_fuse _ _ _ hf _) hy.1
theorem saveOn {T Z f n g k : Nat} {u : ByteArray} (h : Zn w0 w D x ((T, tobj Z u g k false) :: fs)) (hz : (Z, zobj D f n) ∈ fs) (hne : ∀ z ∈ fs, z.1 ≠ T) (hTw : w0.heap.size ≤ T) (hT : Tabs w0) (ha : x.away = false) (hf : x.fuse = none) (hl : x.loose.length ≤ 1073700000) (hd : x.done < 4611686018427300000) (hfn : f + n ≤ x.n)
    (h4 : 2 ≤ n) (hk : k < 2) (s : ByteArray) (hs : s.size ≤ 1024) (hp : szN s.size ≤ n / 2) (hg : g < 2147483647) :
    Calls Tryz.prog 21 #[.pointer (some ⟨T, 0, none⟩), .string s] w fun e w' => e = .returned (.int .i64 0) ∧ Zn w0 w' D ((x.cleared (other f n k) (n / 2)).placed (other f n k) (g + 1) s) ((T, tobj Z s (g + 1) (1 - k) false) :: fs) := by
  refine (h.save hz hne hTw hT ha (St.Fz.of_none hf) hl hd hfn h4 hk s hs hp hg).mono ?_
  rintro e w' ⟨m, rfl, ⟨rfl, h1⟩ | ⟨_, y, hy, _⟩⟩
  · exact ⟨rfl, h1⟩
  · exact absurd hf hy.fuse
end Zn
end Go.Proofs.YtnmgkkjnjllpbaaGreatDoor
namespace Go.Proofs.YtnmgkkjnjllpbaaGreatDoor
open Go Go.RowKit Pn Dk Sl
namespace Tw
/-- What is opened of two copies. -/
theorem opens {x : Dk.St} {a o lim gen : Nat} {t : ByteArray} (hsz : t.size ≤ 1024) (hfi : szN t.size ≤ lim) (h1 : 1 ≤ gen) (hcu : Whole x.now a t gen) (hol : Old x.now o gen lim) {f n k : Nat} (hk : k < 2) (ha : a = f + k * (n / 2)) (ho : o = f + (1 - k) * (n / 2)) (hl : lim = n / 2) (hg : gen ≤ 2147483647) : acc x f n 2 = (t, gen, k) := by
  have hc : getS x f n k = (t, gen, 0) := hcu.got hsz h1 hg (fun i _ j _ => by show sect x.now (f + k * (n / 2) + (0 + i)) j = _; rw [Nat.zero_add, ← ha]) (by omega)
  have hd : (∃ u g, getS x f n (1 - k) = (u, g, 0) ∧ g < gen ∧ szN u.size ≤ lim) ∨ getS x f n (1 - k) = (⟨#[]⟩, 0, 5) := hol.got (fun i _ j _ => by show sect x.now (f + (1 - k) * (n / 2) + (0 + i)) j = _; rw [Nat.zero_add, ← ho]) (by omega)
  clear hcu hol ha ho hl hg
  match k, hk with
  | 0, _ =>
    have e1 : acc x f n 1 = (t, gen, 0) := by
      show (if (getS x f n 0).2.2 = 0 ∧ 0 < (getS x f n 0).2.1 then ((getS x f n 0).1, (getS x f n 0).2.1, 0) else (⟨#[]⟩, 0, 0)) = _
      rw [hc, if_pos ⟨rfl, h1⟩]
    show (if (getS x f n 1).2.2 = 0 ∧ (acc x f n 1).2.1 < (getS x f n 1).2.1 then _ else acc x f n 1) = _
    rw [e1]
    rcases hd with ⟨u, g, e, hg, _⟩ | e
    · rw [show getS x f n 1 = (u, g, 0) from e, if_neg (fun h => by have := h.2; simp only at this; omega)]
    · rw [show getS x f n 1 = _ from e, if_neg (fun h => by have := h.1; simp only at this; omega)]
  | 1, _ =>
    have e1 : (acc x f n 1).2.1 < gen := by
      show (if (getS x f n 0).2.2 = 0 ∧ 0 < (getS x f n 0).2.1 then ((getS x f n 0).1, (getS x f n 0).2.1, 0) else (⟨#[]⟩, 0, 0)).2.1 < _
      rcases hd with ⟨u, g, e, hg, _⟩ | e
      · rw [show getS x f n 0 = (u, g, 0) from e]
        by_cases h0 : 0 < g
        · rw [if_pos ⟨rfl, h0⟩]
          exact hg
        · rw [if_neg (fun h => h0 h.2)]
          exact h1
      · rw [show getS x f n 0 = _ from e, if_neg (fun h => by have := h.1; simp only at this; omega)]
        exact h1
    show (if (getS x f n 1).2.2 = 0 ∧ (acc x f n 1).2.1 < (getS x f n 1).2.1 then _ else acc x f n 1) = _
    rw [hc, if_pos ⟨rfl, e1⟩]
theorem Pair.opens {x : Dk.St} {a o lim gen : Nat} {t : ByteArray} (h : Pair x a o lim gen t) {f n k : Nat} (hk : k < 2) (ha : a = f + k * (n / 2)) (ho : o = f + (1 - k) * (n / 2)) (hl : lim = n / 2) (hg : gen ≤ 2147483647) : acc x f n 2 = (t, gen, k) := Tw.opens h.size h.fits h.one h.cur h.old hk ha ho hl hg
/-- Behind a format. -/
theorem formatted {x : Dk.St} (hx : x.Full) {f n : Nat} {s : ByteArray} (hs : s.size ≤ 1024) (hp : szN s.size ≤ n / 2) (h4 : 4 ≤ n) (y : Dk.St) (hy : y = (x.filled f (fun _ => 0) n).placed f 1 s) : Pair y f (f + n / 2) (n / 2) 1 s := by
  subst hy
  have hF : ((x.filled f (fun _ => 0) n).laid f (secF 1 (sealL s)) (szN s.size)).burnt.Full := laid_full _ _ _ (filled_full2 x f _ hx n) _
  refine ⟨.inl (Nat.le_refl _), hs, hp, Nat.le_refl _, rfl, (full_synced hF).1, fun i hi j hj => laid_in _ f _ _ i hi j hj, Old.zero (by omega) fun i hi => ?_⟩
  refine (numG_congr (g := fun _ => 0) fun j hj => ?_).trans num_zero
  show sect ((x.filled f (fun _ => 0) n).laid f (secF 1 (sealL s)) (szN s.size)).now (f + n / 2 + i) j = 0
  rw [laid_out _ f _ _ (f + n / 2 + i) (by omega) j hj, Nat.add_assoc]
  exact filled_in x f _ n (n / 2 + i) (by omega) j hj
section
variable {x : Dk.St} {a o lim gen : Nat} {t : ByteArray} (h : Pair x a o lim gen t)
include h
/-- Behind a save: the text that was stands there still. -/
theorem Pair.stands (s : ByteArray) (hfs : szN s.size ≤ lim) : Whole ((x.cleared o lim).placed o (gen + 1) s).now a t gen := by
  obtain ⟨c1, _⟩ := h.cleared
  have hap := h.apart
  have hfi := h.fits
  refine c1.congr fun i hi j hj => ?_
  show sect ((x.filled o (fun _ => 0) lim).burnt.synced.laid o (secF (gen + 1) (sealL s)) (szN s.size)).now (a + i) j = _
  exact laid_out _ o _ _ (a + i) (by omega) j hj
theorem Pair.saves (s : ByteArray) (hs : s.size ≤ 1024) (hfs : szN s.size ≤ lim) (hg : gen ≤ 2147483646) : Pair ((x.cleared o lim).placed o (gen + 1) s) o a lim (gen + 1) s := h.saved s hs hfs hg _ rfl
/-- The power went in a save. -/
theorem Pair.fell (s : ByteArray) (hs : s.size ≤ 1024) (hfs : szN s.size ≤ lim) (hg : gen + 1 ≤ 2147483647) {y : Dk.St} (hy : x.RenewFell o lim (gen + 1) s y) : Pair y.come a o lim gen t ∨ Pair y.come o a lim (gen + 1) s := by
  rcases hy with ⟨_, k, kl, hk, rfl⟩ | ⟨_, k, kl, hk, rfl⟩
  · exact .inl (h.fill_fall k hk kl)
  · exact h.put_fall s hs hfs hg k hk kl _ rfl
/-- The power goes, and comes, between the calls. -/
theorem Pair.rests (kl : List Bool) : Pair (x.fall kl).come a o lim gen t := h.fill_fall 0 (Nat.zero_le _) kl
end
end Tw
namespace Dk
section
variable (x : St) (f n gen : Nat) (s : ByteArray)
theorem placed_n : (x.placed f gen s).n = x.n := laid_n _ _ _ _
theorem placed_away : (x.placed f gen s).away = x.away := laid_away _ _ _ _
theorem placed_fuse (h : x.fuse = none) : (x.placed f gen s).fuse = none := by
  show (x.laid f (secF gen (sealL s)) (szN s.size)).fuse.map _ = none
  rw [laid_fuse x _ _ h]
  rfl
theorem placed_Fz (h : x.Fz) : (x.placed f gen s).Fz := (h.laid f _ _).burnt
theorem placed_done : (x.placed f gen s).done = x.done + szN s.size + 1 := by
  show (x.laid f (secF gen (sealL s)) (szN s.size)).done + 1 = _
  rw [laid_done]
theorem cleared_n : (x.cleared f n).n = x.n := filled_n _ _ _ _
theorem cleared_away : (x.cleared f n).away = x.away := filled_away _ _ _ _
theorem cleared_Fz (h : x.Fz) : (x.cleared f n).Fz := (h.filled f _ _).burnt
theorem cleared_done : (x.cleared f n).done ≤ x.done + n + 1 := by
  have := filled_done x f (fun _ => 0) n
  show (x.filled f (fun _ => 0) n).done + 1 ≤ _
  omega
end
/-- What fell is away, without a fuse, with nothing loose, of as many sectors. -/
theorem RenewFell.state {x : St} {f n gen : Nat} {s : ByteArray} {y : St} (h : x.RenewFell f n gen s y) : y.n = x.n ∧ y.away = true ∧ y.fuse = none ∧ y.loose = [] ∧ y.done ≤ x.done + n + 1 + szN s.size := by
  rcases h with ⟨_, k, kl, hk, rfl⟩ | ⟨_, k, kl, hk, rfl⟩
  · have := filled_done x f (fun _ => 0) k
    refine ⟨filled_n x f _ k, rfl, rfl, rfl, ?_⟩
    show (x.filled f (fun _ => 0) k).done ≤ _
    omega
  · have h1 := cleared_done x f n
    refine ⟨(laid_n _ _ _ k).trans (cleared_n x f n), rfl, rfl, rfl, ?_⟩
    show ((x.cleared f n).laid f (secF gen (sealL s)) k).done ≤ _
    rw [laid_done]
    omega
end Dk
end Go.Proofs.YtnmgkkjnjllpbaaGreatDoor
