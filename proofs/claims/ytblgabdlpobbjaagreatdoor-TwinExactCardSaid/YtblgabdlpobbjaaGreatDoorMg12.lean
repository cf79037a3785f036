/-
  Package twin: a twin's own block; canBe, fits, copyOf, Text, Gen, Side. Conditions: the zone stands in its block, its disk in blocks of its own.
  A zone's and a sealed text's writes over a disk with a fuse or without: all goes well, or the power goes. Conditions: the power is there ahead of it; few writes; both tables of sums lie as the program's text lays them.
-/
import Derived.Test.YtblgabdlpobbjaaGreatDoorMg8
import Derived.Test.YtblgabdlpobbjaaGreatDoorMg11
import Derived.Test.YtblgabdlpobbjaaGreatDoorMg6
set_option maxRecDepth 100000
namespace Go.Proofs.YtblgabdlpobbjaaGreatDoor
open Go.ChangeShapes Go.WideShapes Go.ChangeAt Go.RowKit Pn Dk Sl

namespace Tw
/-- Whether a zone of n sectors can be; whether a text has room there. -/
def canB (n : Nat) : Bool := decide (4 ≤ n) && decide (n % 2 = 0)
def fitB (n : Nat) (s : ByteArray) : Bool := decide (s.size ≤ 1024) && decide (szN s.size ≤ n / 2)
theorem fitB_true {n : Nat} {s : ByteArray} (h1 : s.size ≤ 1024) (h2 : szN s.size ≤ n / 2) : fitB n s = true := by unfold fitB; rw [decide_eq_true h1, decide_eq_true h2]; rfl
theorem fitB_iff {n : Nat} {s : ByteArray} : fitB n s = true ↔ s.size ≤ 1024 ∧ szN s.size ≤ n / 2 := by unfold fitB; rw [Bool.and_eq_true, decide_eq_true_iff, decide_eq_true_iff]
theorem canB_iff {n : Nat} : canB n = true ↔ 4 ≤ n ∧ n % 2 = 0 := by unfold canB; rw [Bool.and_eq_true, decide_eq_true_iff, decide_eq_true_iff]
end Tw
open Tw
/-- A twin's own block. -/
def tobj (Z : Nat) (s : ByteArray) (g k : Nat) (b : Bool) : Obj := .cells #[.pointer (some ⟨Z, 0, none⟩), .string s, .int .i64 (g : Int), .int .i64 (k : Int), .bool b] 46 (0, 0)
section
variable {w : World} {T Z g k : Nat} {s : ByteArray} {b : Bool} (ht : w.heap[T]? = some (tobj Z s g k b))
include ht
theorem twin_c0 : w.cell? ⟨T, 0, none⟩ = some (.pointer (some ⟨Z, 0, none⟩)) := by rw [cell_of_row w T 0 _ _ _ ht]; rfl
theorem twin_c1 : w.cell? ⟨T, 1, none⟩ = some (.string s) := by rw [cell_of_row w T 1 _ _ _ ht]; rfl
theorem twin_c2 : w.cell? ⟨T, 2, none⟩ = some (.int .i64 (g : Int)) := by rw [cell_of_row w T 2 _ _ _ ht]; rfl
theorem twin_c3 : w.cell? ⟨T, 3, none⟩ = some (.int .i64 (k : Int)) := by rw [cell_of_row w T 3 _ _ _ ht]; rfl
theorem twin_c4 : w.cell? ⟨T, 4, none⟩ = some (.bool b) := by rw [cell_of_row w T 4 _ _ _ ht]; rfl
theorem twin_fz (i : Nat) : w.frozen? ⟨T, i, none⟩ = false := frozen_of_row w T i _ _ ht
end
section
variable (w : World) (T Z g k : Nat) (s : ByteArray) (b : Bool) (ht : w.heap[T]? = some (tobj Z s g k b))
include ht
theorem twin_text : Calls Tryz.prog 13 #[.pointer (some ⟨T, 0, none⟩)] w fun e w' => e = .returned (.string s) ∧ w = w' := by
  have c := twin_c1 ht
  clear ht
  go_enter Tryz.func13, Tryz.ntmps13
  go_wp2
  refine bodyPost_ret (results_tmp rfl _ _ _) rfl ?_
  exact ⟨rfl, rfl⟩
theorem twin_gen : Calls Tryz.prog 14 #[.pointer (some ⟨T, 0, none⟩)] w fun e w' => e = .returned (.int .i64 (g : Int)) ∧ w = w' := by
  have c := twin_c2 ht
  clear ht
  generalize (g : Int) = gi at c ⊢
  go_enter Tryz.func14, Tryz.ntmps14
  go_wp2
  refine bodyPost_ret (results_tmp rfl _ _ _) rfl ?_
  exact ⟨rfl, rfl⟩
theorem twin_side : Calls Tryz.prog 15 #[.pointer (some ⟨T, 0, none⟩)] w fun e w' => e = .returned (.int .i64 (k : Int)) ∧ w = w' := by
  have c := twin_c3 ht
  clear ht
  generalize (k : Int) = ki at c ⊢
  go_enter Tryz.func15, Tryz.ntmps15
  go_wp2
  refine bodyPost_ret (results_tmp rfl _ _ _) rfl ?_
  exact ⟨rfl, rfl⟩
end
section
variable (w : World) (Z D f n : Nat) (hz : w.heap[Z]? = some (zobj D f n)) (hn : n ≤ 4096)
include hz hn
theorem twin_canBe : Calls Tryz.prog 22 #[.pointer (some ⟨Z, 0, none⟩)] w fun e w' => e = .returned (.bool (canB n)) ∧ w = w' := by
  have HL := Lib.hid (zone_len w Z D f n hz)
  clear hz
  by_cases h4 : 4 ≤ n
  · have x1 : (4 : Int) ≤ (n : Int) := by omega
    have t1 : decide ((4 : Int) ≤ (n : Int)) = true := decide_eq_true x1
    have e2 : IntKind.i64.wrap ((n : Int).tmod 2) = ((n % 2 : Nat) : Int) := by
      rw [Int.tmod_eq_emod_of_nonneg (by omega)]
      exact (IntWalk.i64_in _ (by omega)).trans (by omega)
    have r : canB n = (((n % 2 : Nat) : Int) == 0) := by
      unfold canB
      rw [decide_eq_true h4, Bool.true_and]
      by_cases h : n % 2 = 0
      · rw [decide_eq_true h, h]; rfl
      · rw [decide_eq_false h]; exact (beq_eq_false_iff_ne.2 (by omega)).symm
    rw [r]
    clear r
    go_enter Tryz.func22, Tryz.ntmps22
    go_wp2_with (fail)
    refine HL.out.mono ?_
    rintro e w1 ⟨rfl, rfl⟩
    go_wp2_with (fail)
    refine HL.out.mono ?_
    rintro e w1 ⟨rfl, rfl⟩
    go_wp2_with (fail)
    refine bodyPost_ret (results_tmp rfl _ _ _) rfl ?_
    exact ⟨rfl, rfl⟩
  · have t1 : decide ((4 : Int) ≤ (n : Int)) = false := decide_eq_false (by omega)
    have r : canB n = false := by unfold canB; rw [decide_eq_false h4]; rfl
    rw [r]
    clear r
    go_enter Tryz.func22, Tryz.ntmps22
    go_wp2_with (fail)
    refine HL.out.mono ?_
    rintro e w1 ⟨rfl, rfl⟩
    go_wp2_with (fail)
    refine bodyPost_ret (results_tmp rfl _ _ _) rfl ?_
    exact ⟨rfl, rfl⟩
theorem twin_fits (s : ByteArray) (hs : s.size ≤ maxLen) : Calls Tryz.prog 26 #[.pointer (some ⟨Z, 0, none⟩), .string s] w fun e w' => e = .returned (.bool (fitB n s)) ∧ w = w' := by
  have HL := Lib.hid (zone_len w Z D f n hz)
  clear hz
  by_cases h4 : s.size ≤ 1024
  · have x1 : (s.size : Int) ≤ 1024 := by omega
    have t1 : decide ((s.size : Int) ≤ 1024) = true := decide_eq_true x1
    have HS := Lib.hid (seal_size w s (by omega))
    have e2 : IntKind.i64.wrap ((n : Int).tdiv 2) = ((n / 2 : Nat) : Int) := by
      rw [Int.tdiv_eq_ediv_of_nonneg (by omega)]
      exact (IntWalk.i64_in _ (by omega)).trans (by omega)
    have r : fitB n s = decide ((szN s.size : Int) ≤ ((n / 2 : Nat) : Int)) := by
      unfold fitB
      rw [decide_eq_true h4, Bool.true_and]
      by_cases h : szN s.size ≤ n / 2
      · rw [decide_eq_true h, decide_eq_true (by omega)]
      · rw [decide_eq_false h, decide_eq_false (by omega)]
    rw [r]
    clear r
    generalize szN s.size = z at HS ⊢
    go_enter Tryz.func26, Tryz.ntmps26
    go_wp2_with (fail)
    refine HS.out.mono ?_
    rintro e w1 ⟨rfl, rfl⟩
    go_wp2_with (fail)
    refine HL.out.mono ?_
    rintro e w1 ⟨rfl, rfl⟩
    go_wp2_with (fail)
    refine bodyPost_ret (results_tmp rfl _ _ _) rfl ?_
    exact ⟨rfl, rfl⟩
  · have t1 : decide ((s.size : Int) ≤ 1024) = false := decide_eq_false (by omega)
    have r : fitB n s = false := by unfold fitB; rw [decide_eq_false h4]; rfl
    unfold maxLen at hs
    have hs' : (s.size : Int) ≤ 9223372036854775807 := by omega
    rw [r]
    clear r
    go_enter Tryz.func26, Tryz.ntmps26
    go_wp2_with (fail)
    refine bodyPost_ret (results_tmp rfl _ _ _) rfl ?_
    exact ⟨rfl, rfl⟩
set_option maxRecDepth 100000 in
/-- A copy's places, as a zone of their own. -/
theorem twin_copyOf (K : Nat → Prop) (x : St) (h : DiskAt K w D x) (hfn : f + n ≤ x.n) (h2 : 2 ≤ n) (k : Nat) (hk : k < 2) :
    Calls Tryz.prog 25 #[.pointer (some ⟨Z, 0, none⟩), .int .i64 (k : Int)] w fun e w' => ∃ Z', e = .returned (.pointer (some ⟨Z', 0, none⟩)) ∧ w.heap.size ≤ Z' ∧ w'.heap[Z']? = some (zobj D (f + k * (n / 2)) (n / 2)) ∧ Below w.heap.size w w' := by
  have hk1 : k * (n / 2) ≤ 1 * (n / 2) := Nat.mul_le_mul_right _ (by omega)
  have HL := Lib.hid (zone_len w Z D f n hz)
  have HP := Lib.hid (zone_part w Z D f n hz K x h hfn (k * (n / 2)) (n / 2) (by omega) (by omega))
  have e2 : (n : Int) / 2 = ((n / 2 : Nat) : Int) := by omega
  have e3 : wrap64 ((k : Int) * ((n / 2 : Nat) : Int)) = ((k * (n / 2) : Nat) : Int) := by
    rw [Int.natCast_mul]
    exact IntWalk.wrap64_in _ (by rw [← Int.natCast_mul]; omega)
  clear hz h hfn
  generalize k * (n / 2) = kh at HP e3 ⊢
  generalize n / 2 = hf at HP e2 e3 ⊢
  generalize (kh : Int) = ki at HP e3
  generalize (hf : Int) = hi at HP e2 e3
  go_enter Tryz.func25, Tryz.ntmps25
  go_wp2_with (fail)
  refine HL.out.mono ?_
  rintro e w1 ⟨rfl, rfl⟩
  go_wp2_with (fail)
  refine HP.out.mono ?_
  rintro e w1 ⟨Z', rfl, g1, g2, g3⟩
  have G2 := Lib.hid g2
  have G3 := Lib.hid g3
  clear g2 g3 HP
  go_wp2_with (fail)
  refine bodyPost_ret (results_tmp rfl _ _ _) rfl ?_
  exact ⟨Z', rfl, g1, G2.out, G3.out⟩
end
end Go.Proofs.YtblgabdlpobbjaaGreatDoor
namespace Go.Proofs.YtblgabdlpobbjaaGreatDoor
open Go.ChangeShapes Go.WideShapes Go.ChangeAt Go.RowKit Pn Dk Sl Tw

namespace Dk
/-- A fuse's bools are few. -/
def St.Fz (x : St) : Prop := ∀ l kl, x.fuse = some (l, kl) → kl.length ≤ 1099511627776
theorem St.Fz.of_none {x : St} (h : x.fuse = none) : x.Fz := fun l kl e => by rw [h] at e; cases e
theorem St.Fz.burnt {x : St} (h : x.Fz) : x.burnt.Fz := fun l kl e => by
  have e' : x.fuse.map (fun f => (f.1 - 1, f.2)) = some (l, kl) := e
  obtain ⟨⟨l', kl'⟩, h1, h2⟩ := Option.map_eq_some_iff.1 e'
  injection h2 with _ h2
  subst h2
  exact h l' kl' h1
theorem St.Fz.chg {x : St} (h : x.Fz) (p : Nat) (g : Nat → UInt8) : (x.chg p g).Fz := by
  unfold St.chg
  split
  · exact h
  · exact h.burnt
theorem St.Fz.filled {x : St} (h : x.Fz) (f : Nat) (g : Nat → UInt8) : ∀ k, (x.filled f g k).Fz
  | 0 => h
  | k + 1 => (St.Fz.filled h f g k).chg _ _
theorem St.Fz.laid {x : St} (h : x.Fz) (p : Nat) (G : Nat → Nat → UInt8) : ∀ k, (x.laid p G k).Fz
  | 0 => h
  | k + 1 => (St.Fz.laid h p G k).burnt
end Dk
namespace Zn
variable {w0 w w' : World} {D : Nat} {x : Dk.St} {fs : List (Nat × Obj)}
/-- A write, whatever the fuse. -/
theorem dwriteAny (h : Zn w0 w D x fs) (ha : x.away = false) (hf : x.Fz) (hl : x.loose.length ≤ 1073741824) (hd : x.done < 4611686018427387904) (p : Nat) (hp : p < x.n) (q : ByteArray) (hq : q.size = 32) :
    Calls Tryz.prog 91 #[.pointer (some ⟨D, 0, none⟩), .int .i64 (p : Int), .string q] w fun e w' => ∃ m, e = .returned (.int .i64 m) ∧ (m = 0 ∧ Zn w0 w' D (x.burnt.put p (bs q)) fs ∨ m = 4 ∧ x.fuse ≠ none ∧ ∃ kl, Zn w0 w' D (x.fall kl) fs) := by
  cases hfu : x.fuse with
  | none =>
    refine (disk_write_ok _ w D x h.disk ha hl p hp q hq h.new (disk_burn_none _ w D x h.disk hfu hd)).mono ?_
    intro e w' hs
    obtain ⟨rfl, h2⟩ := h.says hs
    exact ⟨0, rfl, .inl ⟨rfl, h2⟩⟩
  | some v =>
    obtain ⟨l, kl⟩ := v
    cases l with
    | zero =>
      refine (disk_write_end _ w D x h.disk ha p hp q hq kl hfu hl (hf _ _ hfu)).mono ?_
      intro e w' hs
      obtain ⟨rfl, h2⟩ := h.says hs
      exact ⟨4, rfl, .inr ⟨rfl, Option.some_ne_none _, kl, h2⟩⟩
    | succ l =>
      refine (disk_write_ok _ w D x h.disk ha hl p hp q hq h.new (disk_burn_some _ w D x h.disk l kl hfu hd)).mono ?_
      intro e w' hs
      obtain ⟨rfl, h2⟩ := h.says hs
      exact ⟨0, rfl, .inl ⟨rfl, h2⟩⟩
theorem syncAny (h : Zn w0 w D x fs) (ha : x.away = false) (hf : x.Fz) (hl : x.loose.length ≤ 1073741824) (hd : x.done < 4611686018427387904) :
    Calls Tryz.prog 49 #[.pointer (some ⟨D, 0, none⟩)] w fun e w' => ∃ m, e = .returned (.int .i64 m) ∧ (m = 0 ∧ Zn w0 w' D x.burnt.synced fs ∨ m = 4 ∧ x.fuse ≠ none ∧ ∃ kl, Zn w0 w' D (x.fall kl) fs) := by
  cases hfu : x.fuse with
  | none =>
    refine (disk_sync_ok _ w D x h.disk ha hl (disk_burn_none _ w D x h.disk hfu hd)).mono ?_
    intro e w' hs
    obtain ⟨rfl, h2⟩ := h.says hs
    exact ⟨0, rfl, .inl ⟨rfl, h2⟩⟩
  | some v =>
    obtain ⟨l, kl⟩ := v
    cases l with
    | zero =>
      refine (disk_sync_end _ w D x h.disk ha kl hfu hl (hf _ _ hfu)).mono ?_
      intro e w' hs
      obtain ⟨rfl, h2⟩ := h.says hs
      exact ⟨4, rfl, .inr ⟨rfl, Option.some_ne_none _, kl, h2⟩⟩
    | succ l =>
      refine (disk_sync_ok _ w D x h.disk ha hl (disk_burn_some _ w D x h.disk l kl hfu hd)).mono ?_
      intro e w' hs
      obtain ⟨rfl, h2⟩ := h.says hs
      exact ⟨0, rfl, .inl ⟨rfl, h2⟩⟩
theorem writeAny (h : Zn w0 w D x fs) {Z f n : Nat} (hz : (Z, zobj D f n) ∈ fs) (ha : x.away = false) (hf : x.Fz) (hl : x.loose.length ≤ 1073741824) (hd : x.done < 4611686018427387904) (hfn : f + n ≤ x.n) (p : Nat) (hp : p < n) (q : ByteArray) (hq : q.size = 32) :
    Calls Tryz.prog 71 #[.pointer (some ⟨Z, 0, none⟩), .int .i64 (p : Int), .string q] w fun e w' => ∃ m, e = .returned (.int .i64 m) ∧ (m = 0 ∧ Zn w0 w' D (x.burnt.put (f + p) (bs q)) fs ∨ m = 4 ∧ x.fuse ≠ none ∧ ∃ kl, Zn w0 w' D (x.fall kl) fs) := by
  have hnb : x.n ≤ 4096 := by obtain ⟨_, _, _, _, _, _, h⟩ := h.disk; exact h.nb
  refine zone_write_by w Z D f n (h.fix _ hz) p hp (by omega) q hq (fun m w' => m = 0 ∧ Zn w0 w' D (x.burnt.put (f + p) (bs q)) fs ∨ m = 4 ∧ x.fuse ≠ none ∧ ∃ kl, Zn w0 w' D (x.fall kl) fs) ?_
  refine ((h.drewN 1).dwriteAny ha hf hl hd (f + p) (by omega) q hq).mono ?_
  rintro e w' ⟨m, rfl, h2⟩
  refine ⟨m, rfl, ?_, h2⟩
  rcases h2 with ⟨_, h2⟩ | ⟨_, _, kl, h2⟩
  · exact h2.fix _ hz
  · exact h2.fix _ hz
theorem changeAny (h : Zn w0 w D x fs) {Z f n : Nat} (hz : (Z, zobj D f n) ∈ fs) (ha : x.away = false) (hf : x.Fz) (hl : x.loose.length ≤ 1073741824) (hd : x.done < 4611686018427387904) (hfn : f + n ≤ x.n) (p : Nat) (hp : p < n) (g : Nat → UInt8) :
    Calls Tryz.prog 47 #[.pointer (some ⟨Z, 0, none⟩), .int .i64 (p : Int), .string (secS g)] w fun e w' => ∃ m, e = .returned (.int .i64 m) ∧ (m = 0 ∧ Zn w0 w' D (x.chg (f + p) g) fs ∨ m = 4 ∧ x.fuse ≠ none ∧ ∃ kl, Zn w0 w' D (x.fall kl) fs) := by
  have hnb : x.n ≤ 4096 := by obtain ⟨_, _, _, _, _, _, h⟩ := h.disk; exact h.nb
  refine zone_change_by w Z D f n (h.fix _ hz) p hp (by omega) (secS (sect x.now (f + p))) (secS g) (secS_size g) (fun m w' => m = 0 ∧ Zn w0 w' D (x.chg (f + p) g) fs ∨ m = 4 ∧ x.fuse ≠ none ∧ ∃ kl, Zn w0 w' D (x.fall kl) fs)
    (fun i => disk_read _ (w.drewN i) D x (h.disk.drewN i) ha (f + p) (by omega)) (fun he k => .inl ⟨rfl, ?_⟩) (fun he k => ?_)
  · have e : x.chg (f + p) g = x := by unfold St.chg; rw [if_pos he]
    rw [e]
    exact h.drewN k
  · have e : x.chg (f + p) g = x.burnt.put (f + p) (bs (secS g)) := by unfold St.chg; rw [if_neg he]
    rw [e]
    refine (((h.drewN k).drewN 1).dwriteAny ha hf hl hd (f + p) (by omega) (secS g) (secS_size g)).mono ?_
    rintro e w' ⟨m, rfl, h2⟩
    refine ⟨m, rfl, ?_, h2⟩
    rcases h2 with ⟨_, h2⟩ | ⟨_, _, kl, h2⟩
    · exact h2.fix _ hz
    · exact h2.fix _ hz
theorem fillAny (h : Zn w0 w D x fs) {Z f n : Nat} (hz : (Z, zobj D f n) ∈ fs) (ha : x.away = false) (hf : x.Fz) (hl : x.loose.length + n ≤ 1073741824) (hd : x.done + n < 4611686018427387904) (hfn : f + n ≤ x.n) (b : UInt8) :
    Calls Tryz.prog 27 #[.pointer (some ⟨Z, 0, none⟩), .int .u8 (b.toNat : Int)] w fun e w' => ∃ m, e = .returned (.int .i64 m) ∧ (m = 0 ∧ Zn w0 w' D (x.filled f (fun _ => b) n) fs ∨ m = 4 ∧ x.fuse ≠ none ∧ ∃ k kl, k ≤ n ∧ Zn w0 w' D ((x.filled f (fun _ => b) k).fall kl) fs) := by
  have hnb : x.n ≤ 4096 := by obtain ⟨_, _, _, _, _, _, h⟩ := h.disk; exact h.nb
  refine (zone_fill_by w Z D f n (h.fix _ hz) b (fun k W => Zn w0 W D (x.filled f (fun _ => b) k) fs) (fun m W => m = 4 ∧ x.fuse ≠ none ∧ ∃ k kl, k ≤ n ∧ Zn w0 W D ((x.filled f (fun _ => b) k).fall kl) fs) (fun W hW => h.step hW) (fun k W hW => hW.fix _ hz) (fun k W hk hW => ?_) (by omega)).mono ?_
  · have h1 := filled_loose x f (fun _ => b) k
    have h2 := filled_done x f (fun _ => b) k
    refine (hW.changeAny hz ((filled_away _ _ _ _).trans ha) (hf.filled _ _ _) (by omega) (by omega) (by rw [filled_n]; exact hfn) k hk (fun _ => b)).mono ?_
    rintro e w' ⟨m, rfl, ⟨rfl, h3⟩ | ⟨rfl, hn, kl, h3⟩⟩
    · exact ⟨0, rfl, .inl ⟨rfl, h3⟩⟩
    · exact ⟨4, rfl, .inr ⟨by decide, rfl, fun e => hn (filled_fuse x f _ e k), k, kl, by omega, h3⟩⟩
  · rintro e w' ⟨m, rfl, h2 | ⟨_, h2⟩⟩
    · exact ⟨m, rfl, .inl h2⟩
    · exact ⟨m, rfl, .inr h2⟩
theorem putAny (h : Zn w0 w D x fs) {Z f nz : Nat} (hz : (Z, zobj D f nz) ∈ fs) (hT : Tabs w0) (ha : x.away = false) (hf : x.Fz) (hl : x.loose.length ≤ 1073741000) (hd : x.done < 4611686018427380000) (hfn : f + nz ≤ x.n)
    (n : Nat) (s : ByteArray) (h1 : 1 ≤ n) (h2 : n ≤ 2147483647) (hs : s.size ≤ 1024) (p : Nat) (hp : p + szN s.size ≤ nz) :
    Calls Tryz.prog 48 #[.pointer (some ⟨Z, 0, none⟩), .int .i64 (p : Int), .int .i64 (n : Int), .string s] w fun e w' => ∃ m, e = .returned (.int .i64 m) ∧ (m = 0 ∧ Zn w0 w' D (x.laid (f + p) (secF n (sealL s)) (szN s.size)) fs ∨ m = 4 ∧ x.fuse ≠ none ∧ ∃ k kl, k ≤ szN s.size ∧ Zn w0 w' D ((x.laid (f + p) (secF n (sealL s)) k).fall kl) fs) := by
  have hnb : x.n ≤ 4096 := by obtain ⟨_, _, _, _, _, _, h⟩ := h.disk; exact h.nb
  have hmx := szN_max s.size hs
  have pop : ∀ {w' y g o}, Zn w0 w' D y ((g, o) :: fs) → Zn w0 w' D y fs := fun h3 => ⟨h3.disk.mono fun i hi => ⟨hi.1, fun z hz => hi.2 z (List.mem_cons_of_mem _ hz)⟩, fun z hz => h3.fix z (List.mem_cons_of_mem _ hz), h3.below⟩
  refine (seal_put_by w Z D f nz (h.fix _ hz) (by omega) n s h1 h2 hs (h.tabs hT) p hp (fun k g o W => Zn w0 W D (x.laid (f + p) (secF n (sealL s)) k) ((g, o) :: fs)) (fun m W => m = 4 ∧ x.fuse ≠ none ∧ ∃ k kl, k ≤ szN s.size ∧ Zn w0 W D ((x.laid (f + p) (secF n (sealL s)) k).fall kl) fs)
    (fun g o W hW hg ho => h.add hW hg ho) (fun k g o W hk hW => ⟨hW.fix (g, o) (List.mem_cons_self ..), ?_⟩)).mono ?_
  · refine (hW.writeAny (List.mem_cons_of_mem _ hz) ((laid_away _ _ _ _).trans ha) (hf.laid _ _ _) (by rw [laid_len]; omega) (by rw [laid_done]; omega) (by rw [laid_n]; exact hfn) (p + k) (by omega) _ (secS_size _)).mono ?_
    rintro e w' ⟨m, rfl, ⟨rfl, h3⟩ | ⟨rfl, hn, kl, h3⟩⟩
    · rw [← Nat.add_assoc] at h3
      exact ⟨0, rfl, .inl ⟨rfl, h3⟩⟩
    · exact ⟨4, rfl, .inr ⟨by decide, rfl, fun e => hn (laid_fuse x _ _ e k), k, kl, by omega, pop h3⟩⟩
  · rintro e w' ⟨m, rfl, ⟨rfl, g, o, h3⟩ | ⟨_, h3⟩⟩
    · exact ⟨0, rfl, .inl ⟨rfl, pop h3⟩⟩
    · exact ⟨m, rfl, .inr h3⟩
/-- Of the blocks that stay some are forgotten. -/
theorem less {gs : List (Nat × Obj)} (h : Zn w0 w D x fs) (hs : ∀ z ∈ gs, z ∈ fs) : Zn w0 w D x gs :=
  ⟨h.disk.mono fun _ hi => ⟨hi.1, fun z hz => hi.2 z (hs z hz)⟩, fun z hz => h.fix z (hs z hz), h.below⟩
/-- A block beside the disk is written anew. -/
theorem turn {T : Nat} {o o' : Obj} (h : Zn w0 w D x ((T, o) :: fs)) (hT : w0.heap.size ≤ T) (hne : ∀ z ∈ fs, z.1 ≠ T) (h1 : w'.heap[T]? = some o') (h2 : ∀ i, i ≠ T → w'.heap[i]? = w.heap[i]?) (he : w'.os = w.os ∧ w'.tape = w.tape ∧ w'.output = w.output) (hs : w.heap.size ≤ w'.heap.size) : Zn w0 w' D x ((T, o') :: fs) := by
  refine ⟨(h.disk.keep (w' := w') fun i hi _ => h2 i (hi.2 (T, o) (List.mem_cons_self ..))).mono fun i hi => ⟨hi.1, fun z hz => ?_⟩, fun z hz => ?_, ⟨he.1.trans h.below.os, he.2.1.trans h.below.tape, he.2.2.trans h.below.output, Nat.le_trans h.below.size hs, fun i hi => (h2 i (by omega)).trans (h.below.block i hi)⟩⟩
  · rcases List.mem_cons.1 hz with rfl | hz
    · exact hi.2 (T, o) (List.mem_cons_self ..)
    · exact hi.2 z (List.mem_cons_of_mem _ hz)
  · rcases List.mem_cons.1 hz with rfl | hz
    · exact h1
    · exact (h2 z.1 (hne z hz)).trans (h.fix z (List.mem_cons_of_mem _ hz))
end Zn
end Go.Proofs.YtblgabdlpobbjaaGreatDoor
