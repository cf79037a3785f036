/-
  Package twin: a twin's own block; canBe, fits, copyOf, Text, Gen, Side. Conditions: the zone stands in its block, its disk in blocks of its own.
  A zone's and a sealed text's writes over a disk with a fuse or without: all goes well, or the power goes. Conditions: the power is there ahead of it; few writes; both tables of sums lie as the program's text lays them.
  Package twin: place, renew, Save. Conditions: the power is there ahead of it; few writes; both tables of sums lie as the program's text lays them.
  Package twin: Save. Conditions: the power is there ahead of it, or an earlier save met its loss; few writes; both tables of sums lie as the program's text lays them.
  Package twin: Format, Open; of nil. Conditions: the power is there ahead of it; few writes; both tables of sums lie as the program's text lays them.
  A text in two copies, in plain words: what is opened; behind a format, behind a save. No program here. No conditions.
  Law 07's own helper: the document's example. Condition: both tables of sums lie as the program's text lays them.
  Law 07: a twin of 12 sectors, saved turn by turn; a disk of its image without the last copy. Condition: both tables of sums lie as the program's text lays them.
-/
import Derived.Test.YtblgabdlpobbjaaDoorMg9
import Derived.Test.YtblgabdlpobbjaaDoorMg12
import Derived.Test.YtblgabdlpobbjaaDoorMg7
import Derived.Test.YtblgabdlpobbjaaDoorMg4
import Derived.Test.YtblgabdlpobbjaaDoorMg10
set_option maxRecDepth 100000
namespace Go.Proofs.YtblgabdlpobbjaaDoor
open Go.ChangeShapes Go.WideShapes Go.ChangeAt Go.RowKit Pn Dk Sl

namespace Tw
/-- Whether a zone of n sectors can be; whether a text has room there. -/
def canB (n : Nat) : Bool := decide (4 ≤ n) && decide (n % 2 = 0)
def fitB (n : Nat) (s : ByteArray) : Bool := decide (s.size ≤ 1024) && decide (szN s.size ≤ n / 2)
theorem fitB_true {n : Nat} {s : ByteArray} (h1 : s.size ≤ 1024) (h2 : szN s.size ≤ n / 2) : fitB n s = true := by unfold fitB; rw [decide_eq_true h1, decide_eq_true h2]; rfl
theorem fitB_iff {n : Nat} {s : ByteArray} : fitB n s = true ↔ s.size ≤ 1024 ∧ szN s.size ≤ n / 2 := by unfold fitB; rw [Bool.and_eq_true, decide_eq_true_iff, decide_eq_true_iff]
theorem canB_iff {n : Nat} : canB n = true ↔ 4 ≤ n ∧ n % 2 = 0 := by unfold canB; rw [Bool.and_eq_true, decide_eq_true_iff, decide_eq_true_iff]
end Tw
open Tw
/-- A twin's own block. -/
def tobj (Z : Nat) (s : ByteArray) (g k : Nat) (b : Bool) : Obj := .cells #[.pointer (some ⟨Z, 0, none⟩), .string s, .int .i64 (g : Int), .int .i64 (k : Int), .bool b] 49 (0, 0)
section
variable {w : World} {T Z g k : Nat} {s : ByteArray} {b : Bool} (ht : w.heap[T]? = some (tobj Z s g k b))
include ht
theorem twin_c0 : w.cell? ⟨T, 0, none⟩ = some (.pointer (some ⟨Z, 0, none⟩)) := by rw [cell_of_row w T 0 _ _ _ ht]; rfl
theorem twin_c1 : w.cell? ⟨T, 1, none⟩ = some (.string s) := by rw [cell_of_row w T 1 _ _ _ ht]; rfl
theorem twin_c2 : w.cell? ⟨T, 2, none⟩ = some (.int .i64 (g : Int)) := by rw [cell_of_row w T 2 _ _ _ ht]; rfl
theorem twin_c3 : w.cell? ⟨T, 3, none⟩ = some (.int .i64 (k : Int)) := by rw [cell_of_row w T 3 _ _ _ ht]; rfl
theorem twin_c4 : w.cell? ⟨T, 4, none⟩ = some (.bool b) := by rw [cell_of_row w T 4 _ _ _ ht]; rfl
theorem twin_fz (i : Nat) : w.frozen? ⟨T, i, none⟩ = false := frozen_of_row w T i _ _ ht
end
section
variable (w : World) (T Z g k : Nat) (s : ByteArray) (b : Bool) (ht : w.heap[T]? = some (tobj Z s g k b))
include ht
theorem twin_text : Calls Tryd.prog 16 #[.pointer (some ⟨T, 0, none⟩)] w fun e w' => e = .returned (.string s) ∧ w = w' := by
  have c := twin_c1 ht
  clear ht
  go_enter Tryd.func16, Tryd.ntmps16
  go_wp2
  refine bodyPost_ret (results_tmp rfl _ _ _) rfl ?_
  exact ⟨rfl, rfl⟩
theorem twin_gen : Calls Tryd.prog 15 #[.pointer (some ⟨T, 0, none⟩)] w fun e w' => e = .returned (.int .i64 (g : Int)) ∧ w = w' := by
  have c := twin_c2 ht
  clear ht
  generalize (g : Int) = gi at c ⊢
  go_enter Tryd.func15, Tryd.ntmps15
  go_wp2
  refine bodyPost_ret (results_tmp rfl _ _ _) rfl ?_
  exact ⟨rfl, rfl⟩
theorem twin_side : Calls Tryd.prog 17 #[.pointer (some ⟨T, 0, none⟩)] w fun e w' => e = .returned (.int .i64 (k : Int)) ∧ w = w' := by
  have c := twin_c3 ht
  clear ht
  generalize (k : Int) = ki at c ⊢
  go_enter Tryd.func17, Tryd.ntmps17
  go_wp2
  refine bodyPost_ret (results_tmp rfl _ _ _) rfl ?_
  exact ⟨rfl, rfl⟩
end
section
variable (w : World) (Z D f n : Nat) (hz : w.heap[Z]? = some (zobj D f n)) (hn : n ≤ 4096)
include hz hn
theorem twin_canBe : Calls Tryd.prog 25 #[.pointer (some ⟨Z, 0, none⟩)] w fun e w' => e = .returned (.bool (canB n)) ∧ w = w' := by
  have HL := Lib.hid (zone_len w Z D f n hz)
  clear hz
  by_cases h4 : 4 ≤ n
  · have x1 : (4 : Int) ≤ (n : Int) := by omega
    have t1 : decide ((4 : Int) ≤ (n : Int)) = true := decide_eq_true x1
    have e2 : IntKind.i64.wrap ((n : Int).tmod 2) = ((n % 2 : Nat) : Int) := by
      rw [Int.tmod_eq_emod_of_nonneg (by omega)]
      exact (IntWalk.i64_in _ (by omega)).trans (by omega)
    have r : canB n = (((n % 2 : Nat) : Int) == 0) := by
      unfold canB
      rw [decide_eq_true h4, Bool.true_and]
      by_cases h : n % 2 = 0
      · rw [decide_eq_true h, h]; rfl
      · rw [decide_eq_false h]; exact (beq_eq_false_iff_ne.2 (by omega)).symm
    rw [r]
    clear r
    go_enter Tryd.func25, Tryd.ntmps25
    go_wp2_with (fail)
    refine HL.out.mono ?_
    rintro e w1 ⟨rfl, rfl⟩
    go_wp2_with (fail)
    refine HL.out.mono ?_
    rintro e w1 ⟨rfl, rfl⟩
    go_wp2_with (fail)
    refine bodyPost_ret (results_tmp rfl _ _ _) rfl ?_
    exact ⟨rfl, rfl⟩
  · have t1 : decide ((4 : Int) ≤ (n : Int)) = false := decide_eq_false (by omega)
    have r : canB n = false := by unfold canB; rw [decide_eq_false h4]; rfl
    rw [r]
    clear r
    go_enter Tryd.func25, Tryd.ntmps25
    go_wp2_with (fail)
    refine HL.out.mono ?_
    rintro e w1 ⟨rfl, rfl⟩
    go_wp2_with (fail)
    refine bodyPost_ret (results_tmp rfl _ _ _) rfl ?_
    exact ⟨rfl, rfl⟩
theorem twin_fits (s : ByteArray) (hs : s.size ≤ maxLen) : Calls Tryd.prog 26 #[.pointer (some ⟨Z, 0, none⟩), .string s] w fun e w' => e = .returned (.bool (fitB n s)) ∧ w = w' := by
  have HL := Lib.hid (zone_len w Z D f n hz)
  clear hz
  by_cases h4 : s.size ≤ 1024
  · have x1 : (s.size : Int) ≤ 1024 := by omega
    have t1 : decide ((s.size : Int) ≤ 1024) = true := decide_eq_true x1
    have HS := Lib.hid (seal_size w s (by omega))
    have e2 : IntKind.i64.wrap ((n : Int).tdiv 2) = ((n / 2 : Nat) : Int) := by
      rw [Int.tdiv_eq_ediv_of_nonneg (by omega)]
      exact (IntWalk.i64_in _ (by omega)).trans (by omega)
    have r : fitB n s = decide ((szN s.size : Int) ≤ ((n / 2 : Nat) : Int)) := by
      unfold fitB
      rw [decide_eq_true h4, Bool.true_and]
      by_cases h : szN s.size ≤ n / 2
      · rw [decide_eq_true h, decide_eq_true (by omega)]
      · rw [decide_eq_false h, decide_eq_false (by omega)]
    rw [r]
    clear r
    generalize szN s.size = z at HS ⊢
    go_enter Tryd.func26, Tryd.ntmps26
    go_wp2_with (fail)
    refine HS.out.mono ?_
    rintro e w1 ⟨rfl, rfl⟩
    go_wp2_with (fail)
    refine HL.out.mono ?_
    rintro e w1 ⟨rfl, rfl⟩
    go_wp2_with (fail)
    refine bodyPost_ret (results_tmp rfl _ _ _) rfl ?_
    exact ⟨rfl, rfl⟩
  · have t1 : decide ((s.size : Int) ≤ 1024) = false := decide_eq_false (by omega)
    have r : fitB n s = false := by unfold fitB; rw [decide_eq_false h4]; rfl
    unfold maxLen at hs
    have hs' : (s.size : Int) ≤ 9223372036854775807 := by omega
    rw [r]
    clear r
    go_enter Tryd.func26, Tryd.ntmps26
    go_wp2_with (fail)
    refine bodyPost_ret (results_tmp rfl _ _ _) rfl ?_
    exact ⟨rfl, rfl⟩
set_option maxRecDepth 100000 in
/-- A copy's places, as a zone of their own. -/
theorem twin_copyOf (K : Nat → Prop) (x : St) (h : DiskAt K w D x) (hfn : f + n ≤ x.n) (h2 : 2 ≤ n) (k : Nat) (hk : k < 2) :
    Calls Tryd.prog 29 #[.pointer (some ⟨Z, 0, none⟩), .int .i64 (k : Int)] w fun e w' => ∃ Z', e = .returned (.pointer (some ⟨Z', 0, none⟩)) ∧ w.heap.size ≤ Z' ∧ w'.heap[Z']? = some (zobj D (f + k * (n / 2)) (n / 2)) ∧ Below w.heap.size w w' := by
  have hk1 : k * (n / 2) ≤ 1 * (n / 2) := Nat.mul_le_mul_right _ (by omega)
  have HL := Lib.hid (zone_len w Z D f n hz)
  have HP := Lib.hid (zone_part w Z D f n hz K x h hfn (k * (n / 2)) (n / 2) (by omega) (by omega))
  have e2 : (n : Int) / 2 = ((n / 2 : Nat) : Int) := by omega
  have e3 : wrap64 ((k : Int) * ((n / 2 : Nat) : Int)) = ((k * (n / 2) : Nat) : Int) := by
    rw [Int.natCast_mul]
    exact IntWalk.wrap64_in _ (by rw [← Int.natCast_mul]; omega)
  clear hz h hfn
  generalize k * (n / 2) = kh at HP e3 ⊢
  generalize n / 2 = hf at HP e2 e3 ⊢
  generalize (kh : Int) = ki at HP e3
  generalize (hf : Int) = hi at HP e2 e3
  go_enter Tryd.func29, Tryd.ntmps29
  go_wp2_with (fail)
  refine HL.out.mono ?_
  rintro e w1 ⟨rfl, rfl⟩
  go_wp2_with (fail)
  refine HP.out.mono ?_
  rintro e w1 ⟨Z', rfl, g1, g2, g3⟩
  have G2 := Lib.hid g2
  have G3 := Lib.hid g3
  clear g2 g3 HP
  go_wp2_with (fail)
  refine bodyPost_ret (results_tmp rfl _ _ _) rfl ?_
  exact ⟨Z', rfl, g1, G2.out, G3.out⟩
end
end Go.Proofs.YtblgabdlpobbjaaDoor
namespace Go.Proofs.YtblgabdlpobbjaaDoor
open Go.ChangeShapes Go.WideShapes Go.ChangeAt Go.RowKit Pn Dk Sl Tw

namespace Dk
/-- A fuse's bools are few. -/
def St.Fz (x : St) : Prop := ∀ l kl, x.fuse = some (l, kl) → kl.length ≤ 1099511627776
theorem St.Fz.of_none {x : St} (h : x.fuse = none) : x.Fz := fun l kl e => by rw [h] at e; cases e
theorem St.Fz.burnt {x : St} (h : x.Fz) : x.burnt.Fz := fun l kl e => by
  have e' : x.fuse.map (fun f => (f.1 - 1, f.2)) = some (l, kl) := e
  obtain ⟨⟨l', kl'⟩, h1, h2⟩ := Option.map_eq_some_iff.1 e'
  injection h2 with _ h2
  subst h2
  exact h l' kl' h1
theorem St.Fz.chg {x : St} (h : x.Fz) (p : Nat) (g : Nat → UInt8) : (x.chg p g).Fz := by
  unfold St.chg
  split
  · exact h
  · exact h.burnt
theorem St.Fz.filled {x : St} (h : x.Fz) (f : Nat) (g : Nat → UInt8) : ∀ k, (x.filled f g k).Fz
  | 0 => h
  | k + 1 => (St.Fz.filled h f g k).chg _ _
theorem St.Fz.laid {x : St} (h : x.Fz) (p : Nat) (G : Nat → Nat → UInt8) : ∀ k, (x.laid p G k).Fz
  | 0 => h
  | k + 1 => (St.Fz.laid h p G k).burnt
end Dk
namespace Zn
variable {w0 w w' : World} {D : Nat} {x : Dk.St} {fs : List (Nat × Obj)}
/-- A write, whatever the fuse. -/
theorem dwriteAny (h : Zn w0 w D x fs) (ha : x.away = false) (hf : x.Fz) (hl : x.loose.length ≤ 1073741824) (hd : x.done < 4611686018427387904) (p : Nat) (hp : p < x.n) (q : ByteArray) (hq : q.size = 32) :
    Calls Tryd.prog 36 #[.pointer (some ⟨D, 0, none⟩), .int .i64 (p : Int), .string q] w fun e w' => ∃ m, e = .returned (.int .i64 m) ∧ (m = 0 ∧ Zn w0 w' D (x.burnt.put p (bs q)) fs ∨ m = 4 ∧ x.fuse ≠ none ∧ ∃ kl, Zn w0 w' D (x.fall kl) fs) := by
  cases hfu : x.fuse with
  | none =>
    refine (disk_write_ok _ w D x h.disk ha hl p hp q hq h.new (disk_burn_none _ w D x h.disk hfu hd)).mono ?_
    intro e w' hs
    obtain ⟨rfl, h2⟩ := h.says hs
    exact ⟨0, rfl, .inl ⟨rfl, h2⟩⟩
  | some v =>
    obtain ⟨l, kl⟩ := v
    cases l with
    | zero =>
      refine (disk_write_end _ w D x h.disk ha p hp q hq kl hfu hl (hf _ _ hfu)).mono ?_
      intro e w' hs
      obtain ⟨rfl, h2⟩ := h.says hs
      exact ⟨4, rfl, .inr ⟨rfl, Option.some_ne_none _, kl, h2⟩⟩
    | succ l =>
      refine (disk_write_ok _ w D x h.disk ha hl p hp q hq h.new (disk_burn_some _ w D x h.disk l kl hfu hd)).mono ?_
      intro e w' hs
      obtain ⟨rfl, h2⟩ := h.says hs
      exact ⟨0, rfl, .inl ⟨rfl, h2⟩⟩
theorem syncAny (h : Zn w0 w D x fs) (ha : x.away = false) (hf : x.Fz) (hl : x.loose.length ≤ 1073741824) (hd : x.done < 4611686018427387904) :
    Calls Tryd.prog 43 #[.pointer (some ⟨D, 0, none⟩)] w fun e w' => ∃ m, e = .returned (.int .i64 m) ∧ (m = 0 ∧ Zn w0 w' D x.burnt.synced fs ∨ m = 4 ∧ x.fuse ≠ none ∧ ∃ kl, Zn w0 w' D (x.fall kl) fs) := by
  cases hfu : x.fuse with
  | none =>
    refine (disk_sync_ok _ w D x h.disk ha hl (disk_burn_none _ w D x h.disk hfu hd)).mono ?_
    intro e w' hs
    obtain ⟨rfl, h2⟩ := h.says hs
    exact ⟨0, rfl, .inl ⟨rfl, h2⟩⟩
  | some v =>
    obtain ⟨l, kl⟩ := v
    cases l with
    | zero =>
      refine (disk_sync_end _ w D x h.disk ha kl hfu hl (hf _ _ hfu)).mono ?_
      intro e w' hs
      obtain ⟨rfl, h2⟩ := h.says hs
      exact ⟨4, rfl, .inr ⟨rfl, Option.some_ne_none _, kl, h2⟩⟩
    | succ l =>
      refine (disk_sync_ok _ w D x h.disk ha hl (disk_burn_some _ w D x h.disk l kl hfu hd)).mono ?_
      intro e w' hs
      obtain ⟨rfl, h2⟩ := h.says hs
      exact ⟨0, rfl, .inl ⟨rfl, h2⟩⟩
theorem writeAny (h : Zn w0 w D x fs) {Z f n : Nat} (hz : (Z, zobj D f n) ∈ fs) (ha : x.away = false) (hf : x.Fz) (hl : x.loose.length ≤ 1073741824) (hd : x.done < 4611686018427387904) (hfn : f + n ≤ x.n) (p : Nat) (hp : p < n) (q : ByteArray) (hq : q.size = 32) :
    Calls Tryd.prog 20 #[.pointer (some ⟨Z, 0, none⟩), .int .i64 (p : Int), .string q] w fun e w' => ∃ m, e = .returned (.int .i64 m) ∧ (m = 0 ∧ Zn w0 w' D (x.burnt.put (f + p) (bs q)) fs ∨ m = 4 ∧ x.fuse ≠ none ∧ ∃ kl, Zn w0 w' D (x.fall kl) fs) := by
  have hnb : x.n ≤ 4096 := by obtain ⟨_, _, _, _, _, _, h⟩ := h.disk; exact h.nb
  refine zone_write_by w Z D f n (h.fix _ hz) p hp (by omega) q hq (fun m w' => m = 0 ∧ Zn w0 w' D (x.burnt.put (f + p) (bs q)) fs ∨ m = 4 ∧ x.fuse ≠ none ∧ ∃ kl, Zn w0 w' D (x.fall kl) fs) ?_
  refine ((h.drewN 1).dwriteAny ha hf hl hd (f + p) (by omega) q hq).mono ?_
  rintro e w' ⟨m, rfl, h2⟩
  refine ⟨m, rfl, ?_, h2⟩
  rcases h2 with ⟨_, h2⟩ | ⟨_, _, kl, h2⟩
  · exact h2.fix _ hz
  · exact h2.fix _ hz
theorem changeAny (h : Zn w0 w D x fs) {Z f n : Nat} (hz : (Z, zobj D f n) ∈ fs) (ha : x.away = false) (hf : x.Fz) (hl : x.loose.length ≤ 1073741824) (hd : x.done < 4611686018427387904) (hfn : f + n ≤ x.n) (p : Nat) (hp : p < n) (g : Nat → UInt8) :
    Calls Tryd.prog 41 #[.pointer (some ⟨Z, 0, none⟩), .int .i64 (p : Int), .string (secS g)] w fun e w' => ∃ m, e = .returned (.int .i64 m) ∧ (m = 0 ∧ Zn w0 w' D (x.chg (f + p) g) fs ∨ m = 4 ∧ x.fuse ≠ none ∧ ∃ kl, Zn w0 w' D (x.fall kl) fs) := by
  have hnb : x.n ≤ 4096 := by obtain ⟨_, _, _, _, _, _, h⟩ := h.disk; exact h.nb
  refine zone_change_by w Z D f n (h.fix _ hz) p hp (by omega) (secS (sect x.now (f + p))) (secS g) (secS_size g) (fun m w' => m = 0 ∧ Zn w0 w' D (x.chg (f + p) g) fs ∨ m = 4 ∧ x.fuse ≠ none ∧ ∃ kl, Zn w0 w' D (x.fall kl) fs)
    (fun i => disk_read _ (w.drewN i) D x (h.disk.drewN i) ha (f + p) (by omega)) (fun he k => .inl ⟨rfl, ?_⟩) (fun he k => ?_)
  · have e : x.chg (f + p) g = x := by unfold St.chg; rw [if_pos he]
    rw [e]
    exact h.drewN k
  · have e : x.chg (f + p) g = x.burnt.put (f + p) (bs (secS g)) := by unfold St.chg; rw [if_neg he]
    rw [e]
    refine (((h.drewN k).drewN 1).dwriteAny ha hf hl hd (f + p) (by omega) (secS g) (secS_size g)).mono ?_
    rintro e w' ⟨m, rfl, h2⟩
    refine ⟨m, rfl, ?_, h2⟩
    rcases h2 with ⟨_, h2⟩ | ⟨_, _, kl, h2⟩
    · exact h2.fix _ hz
    · exact h2.fix _ hz
theorem fillAny (h : Zn w0 w D x fs) {Z f n : Nat} (hz : (Z, zobj D f n) ∈ fs) (ha : x.away = false) (hf : x.Fz) (hl : x.loose.length + n ≤ 1073741824) (hd : x.done + n < 4611686018427387904) (hfn : f + n ≤ x.n) (b : UInt8) :
    Calls Tryd.prog 27 #[.pointer (some ⟨Z, 0, none⟩), .int .u8 (b.toNat : Int)] w fun e w' => ∃ m, e = .returned (.int .i64 m) ∧ (m = 0 ∧ Zn w0 w' D (x.filled f (fun _ => b) n) fs ∨ m = 4 ∧ x.fuse ≠ none ∧ ∃ k kl, k ≤ n ∧ Zn w0 w' D ((x.filled f (fun _ => b) k).fall kl) fs) := by
  have hnb : x.n ≤ 4096 := by obtain ⟨_, _, _, _, _, _, h⟩ := h.disk; exact h.nb
  refine (zone_fill_by w Z D f n (h.fix _ hz) b (fun k W => Zn w0 W D (x.filled f (fun _ => b) k) fs) (fun m W => m = 4 ∧ x.fuse ≠ none ∧ ∃ k kl, k ≤ n ∧ Zn w0 W D ((x.filled f (fun _ => b) k).fall kl) fs) (fun W hW => h.step hW) (fun k W hW => hW.fix _ hz) (fun k W hk hW => ?_) (by omega)).mono ?_
  · have h1 := filled_loose x f (fun _ => b) k
    have h2 := filled_done x f (fun _ => b) k
    refine (hW.changeAny hz ((filled_away _ _ _ _).trans ha) (hf.filled _ _ _) (by omega) (by omega) (by rw [filled_n]; exact hfn) k hk (fun _ => b)).mono ?_
    rintro e w' ⟨m, rfl, ⟨rfl, h3⟩ | ⟨rfl, hn, kl, h3⟩⟩
    · exact ⟨0, rfl, .inl ⟨rfl, h3⟩⟩
    · exact ⟨4, rfl, .inr ⟨by decide, rfl, fun e => hn (filled_fuse x f _ e k), k, kl, by omega, h3⟩⟩
  · rintro e w' ⟨m, rfl, h2 | ⟨_, h2⟩⟩
    · exact ⟨m, rfl, .inl h2⟩
    · exact ⟨m, rfl, .inr h2⟩
theorem putAny (h : Zn w0 w D x fs) {Z f nz : Nat} (hz : (Z, zobj D f nz) ∈ fs) (hT : Tabs w0) (ha : x.away = false) (hf : x.Fz) (hl : x.loose.length ≤ 1073741000) (hd : x.done < 4611686018427380000) (hfn : f + nz ≤ x.n)
    (n : Nat) (s : ByteArray) (h1 : 1 ≤ n) (h2 : n ≤ 2147483647) (hs : s.size ≤ 1024) (p : Nat) (hp : p + szN s.size ≤ nz) :
    Calls Tryd.prog 42 #[.pointer (some ⟨Z, 0, none⟩), .int .i64 (p : Int), .int .i64 (n : Int), .string s] w fun e w' => ∃ m, e = .returned (.int .i64 m) ∧ (m = 0 ∧ Zn w0 w' D (x.laid (f + p) (secF n (sealL s)) (szN s.size)) fs ∨ m = 4 ∧ x.fuse ≠ none ∧ ∃ k kl, k ≤ szN s.size ∧ Zn w0 w' D ((x.laid (f + p) (secF n (sealL s)) k).fall kl) fs) := by
  have hnb : x.n ≤ 4096 := by obtain ⟨_, _, _, _, _, _, h⟩ := h.disk; exact h.nb
  have hmx := szN_max s.size hs
  have pop : ∀ {w' y g o}, Zn w0 w' D y ((g, o) :: fs) → Zn w0 w' D y fs := fun h3 => ⟨h3.disk.mono fun i hi => ⟨hi.1, fun z hz => hi.2 z (List.mem_cons_of_mem _ hz)⟩, fun z hz => h3.fix z (List.mem_cons_of_mem _ hz), h3.below⟩
  refine (seal_put_by w Z D f nz (h.fix _ hz) (by omega) n s h1 h2 hs (h.tabs hT) p hp (fun k g o W => Zn w0 W D (x.laid (f + p) (secF n (sealL s)) k) ((g, o) :: fs)) (fun m W => m = 4 ∧ x.fuse ≠ none ∧ ∃ k kl, k ≤ szN s.size ∧ Zn w0 W D ((x.laid (f + p) (secF n (sealL s)) k).fall kl) fs)
    (fun g o W hW hg ho => h.add hW hg ho) (fun k g o W hk hW => ⟨hW.fix (g, o) (List.mem_cons_self ..), ?_⟩)).mono ?_
  · refine (hW.writeAny (List.mem_cons_of_mem _ hz) ((laid_away _ _ _ _).trans ha) (hf.laid _ _ _) (by rw [laid_len]; omega) (by rw [laid_done]; omega) (by rw [laid_n]; exact hfn) (p + k) (by omega) _ (secS_size _)).mono ?_
    rintro e w' ⟨m, rfl, ⟨rfl, h3⟩ | ⟨rfl, hn, kl, h3⟩⟩
    · rw [← Nat.add_assoc] at h3
      exact ⟨0, rfl, .inl ⟨rfl, h3⟩⟩
    · exact ⟨4, rfl, .inr ⟨by decide, rfl, fun e => hn (laid_fuse x _ _ e k), k, kl, by omega, pop h3⟩⟩
  · rintro e w' ⟨m, rfl, ⟨rfl, g, o, h3⟩ | ⟨_, h3⟩⟩
    · exact ⟨0, rfl, .inl ⟨rfl, pop h3⟩⟩
    · exact ⟨m, rfl, .inr h3⟩
/-- Of the blocks that stay some are forgotten. -/
theorem less {gs : List (Nat × Obj)} (h : Zn w0 w D x fs) (hs : ∀ z ∈ gs, z ∈ fs) : Zn w0 w D x gs :=
  ⟨h.disk.mono fun _ hi => ⟨hi.1, fun z hz => hi.2 z (hs z hz)⟩, fun z hz => h.fix z (hs z hz), h.below⟩
/-- A block beside the disk is written anew. -/
theorem turn {T : Nat} {o o' : Obj} (h : Zn w0 w D x ((T, o) :: fs)) (hT : w0.heap.size ≤ T) (hne : ∀ z ∈ fs, z.1 ≠ T) (h1 : w'.heap[T]? = some o') (h2 : ∀ i, i ≠ T → w'.heap[i]? = w.heap[i]?) (he : w'.os = w.os ∧ w'.tape = w.tape ∧ w'.output = w.output) (hs : w.heap.size ≤ w'.heap.size) : Zn w0 w' D x ((T, o') :: fs) := by
  refine ⟨(h.disk.keep (w' := w') fun i hi _ => h2 i (hi.2 (T, o) (List.mem_cons_self ..))).mono fun i hi => ⟨hi.1, fun z hz => ?_⟩, fun z hz => ?_, ⟨he.1.trans h.below.os, he.2.1.trans h.below.tape, he.2.2.trans h.below.output, Nat.le_trans h.below.size hs, fun i hi => (h2 i (by omega)).trans (h.below.block i hi)⟩⟩
  · rcases List.mem_cons.1 hz with rfl | hz
    · exact hi.2 (T, o) (List.mem_cons_self ..)
    · exact hi.2 z (List.mem_cons_of_mem _ hz)
  · rcases List.mem_cons.1 hz with rfl | hz
    · exact h1
    · exact (h2 z.1 (hne z hz)).trans (h.fix z (List.mem_cons_of_mem _ hz))
end Zn
end Go.Proofs.YtblgabdlpobbjaaDoor
namespace Go.Proofs.YtblgabdlpobbjaaDoor
open Go.ChangeShapes Go.WideShapes Go.ChangeAt Go.RowKit Pn Dk Sl Tw

namespace Dk
/-- A text laid from f on, and synced; a fill with nothing, synced. -/
def St.placed (x : St) (f gen : Nat) (s : ByteArray) : St := (x.laid f (secF gen (sealL s)) (szN s.size)).burnt.synced
def St.cleared (x : St) (f n : Nat) : St := (x.filled f (fun _ => 0) n).burnt.synced
/-- The power went when a text was placed; when it was filled ahead of that. -/
def St.PlaceFell (x : St) (f gen : Nat) (s : ByteArray) (y : St) : Prop := x.fuse ≠ none ∧ ∃ k kl, k ≤ szN s.size ∧ y = (x.laid f (secF gen (sealL s)) k).fall kl
def St.FillFell (x : St) (f n : Nat) (y : St) : Prop := x.fuse ≠ none ∧ ∃ k kl, k ≤ n ∧ y = (x.filled f (fun _ => 0) k).fall kl
def St.RenewFell (x : St) (f n gen : Nat) (s : ByteArray) (y : St) : Prop := x.FillFell f n y ∨ (x.cleared f n).PlaceFell f gen s y
theorem cleared_fuse {x : St} (h : x.fuse = none) (f n : Nat) : (x.cleared f n).fuse = none := by
  show (x.filled f (fun _ => 0) n).fuse.map _ = none
  rw [filled_fuse x f _ h n]
  rfl
theorem St.RenewFell.fuse {x : St} {f n gen : Nat} {s : ByteArray} {y : St} (h : x.RenewFell f n gen s y) : x.fuse ≠ none := by
  rcases h with h | h
  · exact h.1
  · exact fun e => h.1 (cleared_fuse e f n)
theorem St.Fz.synced {x : St} (h : x.Fz) : x.synced.Fz := h
end Dk
namespace Zn
variable {w0 w w' : World} {D : Nat} {x : Dk.St} {fs : List (Nat × Obj)}
set_option maxRecDepth 100000 in
set_option maxHeartbeats 1600000 in
theorem place (h : Zn w0 w D x fs) {Z f nz : Nat} (hz : (Z, zobj D f nz) ∈ fs) (hT : Tabs w0) (ha : x.away = false) (hf : x.Fz) (hl : x.loose.length ≤ 1073740000) (hd : x.done < 4611686018427370000) (hfn : f + nz ≤ x.n)
    (n : Nat) (s : ByteArray) (h1 : 1 ≤ n) (h2 : n ≤ 2147483647) (hs : s.size ≤ 1024) (hp : szN s.size ≤ nz) :
    Calls Tryd.prog 28 #[.pointer (some ⟨Z, 0, none⟩), .int .i64 (n : Int), .string s] w fun e w' => ∃ m, e = .returned (.int .i64 m) ∧ (m = 0 ∧ Zn w0 w' D (x.placed f n s) fs ∨ m = 4 ∧ ∃ y, x.PlaceFell f n s y ∧ Zn w0 w' D y fs) := by
  have hmx := szN_max s.size hs
  have HP := Lib.hid (h.putAny hz hT ha hf (by omega) (by omega) hfn n s h1 h2 hs 0 (by omega))
  rw [Nat.add_zero] at HP
  have HS := Lib.hid (fun W (hW : Zn w0 W D (x.laid f (secF n (sealL s)) (szN s.size)) fs) => hW.syncAny ((laid_away _ _ _ _).trans ha) (hf.laid _ _ _) (by rw [laid_len]; omega) (by rw [laid_done]; omega))
  have HC := Lib.hid (fun (W : World) y (hW : Zn w0 W D y fs) => zone_c0 (hW.fix _ hz))
  clear h hz hT ha hf hl hd hfn h1 h2 hs hp hmx
  go_enter Tryd.func28, Tryd.ntmps28
  go_wp2_with (fail)
  refine HP.out.mono ?_
  rintro e w1 ⟨m, rfl, ⟨rfl, g1⟩ | ⟨rfl, hn, k, kl, g0, g1⟩⟩
  · have G1 := Lib.hid g1
    have c0 := HC.out w1 _ g1
    clear g1 HP
    go_wp2_with (fail)
    refine (HS.out w1 G1.out).mono ?_
    rintro e w2 ⟨m, rfl, g2⟩
    have G2 := Lib.hid g2
    clear g2 HS
    go_wp2_with (fail)
    refine bodyPost_ret (results_tmp rfl _ _ _) rfl ?_
    refine ⟨m, rfl, ?_⟩
    rcases G2.out with h3 | ⟨h3, hn, kl, h4⟩
    · exact .inl h3
    · exact .inr ⟨h3, _, ⟨fun e => hn (laid_fuse x _ _ e _), _, kl, Nat.le_refl _, rfl⟩, h4⟩
  · have G1 := Lib.hid g1
    clear g1 HP
    go_wp2_with (fail)
    refine bodyPost_ret (results_tmp rfl _ _ _) rfl ?_
    exact ⟨4, rfl, .inr ⟨rfl, _, ⟨hn, k, kl, g0, rfl⟩, G1.out⟩⟩
set_option maxRecDepth 100000 in
set_option maxHeartbeats 1600000 in
theorem renew (h : Zn w0 w D x fs) {Z f nz : Nat} (hz : (Z, zobj D f nz) ∈ fs) (hT : Tabs w0) (ha : x.away = false) (hf : x.Fz) (hl : x.loose.length ≤ 1073700000) (hd : x.done < 4611686018427300000) (hfn : f + nz ≤ x.n)
    (n : Nat) (s : ByteArray) (h1 : 1 ≤ n) (h2 : n ≤ 2147483647) (hs : s.size ≤ 1024) (hp : szN s.size ≤ nz) :
    Calls Tryd.prog 32 #[.pointer (some ⟨Z, 0, none⟩), .int .i64 (n : Int), .string s] w fun e w' => ∃ m, e = .returned (.int .i64 m) ∧ (m = 0 ∧ Zn w0 w' D ((x.cleared f nz).placed f n s) fs ∨ m = 4 ∧ ∃ y, x.RenewFell f nz n s y ∧ Zn w0 w' D y fs) := by
  have hnb : x.n ≤ 4096 := by obtain ⟨_, _, _, _, _, _, h⟩ := h.disk; exact h.nb
  have l1 := filled_loose x f (fun _ => 0) nz
  have l2 := filled_done x f (fun _ => 0) nz
  have HF := Lib.hid (h.fillAny hz ha hf (by omega) (by omega) hfn 0)
  have HS := Lib.hid (fun W (hW : Zn w0 W D (x.filled f (fun _ => 0) nz) fs) => hW.syncAny ((filled_away _ _ _ _).trans ha) (hf.filled _ _ _) (by omega) (by omega))
  have HP := Lib.hid (fun W (hW : Zn w0 W D (x.cleared f nz) fs) => hW.place hz hT ((filled_away x f _ nz).trans ha) (hf.filled _ _ _).burnt (Nat.zero_le _) (show (x.filled f (fun _ => 0) nz).done + 1 < _ by omega) (by rw [show (x.cleared f nz).n = x.n from filled_n x f _ nz]; exact hfn) n s h1 h2 hs hp)
  have HC := Lib.hid (fun (W : World) y (hW : Zn w0 W D y fs) => zone_c0 (hW.fix _ hz))
  clear h hz hT ha hf hl hd hfn h1 h2 hs hp l1 l2
  go_enter Tryd.func32, Tryd.ntmps32
  go_wp2_with (fail)
  refine HF.out.mono ?_
  rintro e w1 ⟨m, rfl, ⟨rfl, g1⟩ | ⟨rfl, hn, k, kl, g0, g1⟩⟩
  · have G1 := Lib.hid g1
    have c0 := HC.out w1 _ g1
    clear g1 HF
    go_wp2_with (fail)
    refine (HS.out w1 G1.out).mono ?_
    rintro e w2 ⟨m, rfl, ⟨rfl, g2⟩ | ⟨rfl, hn, kl, g2⟩⟩
    · have G2 := Lib.hid g2
      clear g2 HS G1 c0
      go_wp2_with (fail)
      refine (HP.out w2 G2.out).mono ?_
      rintro e w3 ⟨m, rfl, g3⟩
      have G3 := Lib.hid g3
      clear g3 HP
      go_wp2_with (fail)
      refine bodyPost_ret (results_tmp rfl _ _ _) rfl ?_
      refine ⟨m, rfl, ?_⟩
      rcases G3.out with h3 | ⟨h3, y, h4, h5⟩
      · exact .inl h3
      · exact .inr ⟨h3, y, .inr h4, h5⟩
    · have G2 := Lib.hid g2
      clear g2 HS G1 c0
      go_wp2_with (fail)
      refine bodyPost_ret (results_tmp rfl _ _ _) rfl ?_
      exact ⟨4, rfl, .inr ⟨rfl, _, .inl ⟨fun e => hn (filled_fuse x f _ e _), _, kl, Nat.le_refl _, rfl⟩, G2.out⟩⟩
  · have G1 := Lib.hid g1
    clear g1 HF
    go_wp2_with (fail)
    refine bodyPost_ret (results_tmp rfl _ _ _) rfl ?_
    exact ⟨4, rfl, .inr ⟨rfl, _, .inl ⟨hn, k, kl, g0, rfl⟩, G1.out⟩⟩
end Zn
end Go.Proofs.YtblgabdlpobbjaaDoor
namespace Go.Proofs.YtblgabdlpobbjaaDoor
open Go.ChangeShapes Go.WideShapes Go.ChangeAt Go.RowKit Pn Dk Sl Tw

theorem wrap_nat {m : Nat} (h : m ≤ 2147483647) : IntKind.i64.wrap (m : Int) = (m : Int) ∧ wrap64 (m : Int) = (m : Int) := ⟨IntWalk.i64_in _ (by omega), IntWalk.wrap64_in _ (by omega)⟩
section
variable (w : World) (T Z D f n g k : Nat) (u s : ByteArray) (b : Bool) (ht : w.heap[T]? = some (tobj Z u g k b)) (hz : w.heap[Z]? = some (zobj D f n)) (hn : n ≤ 4096) (hs : s.size ≤ maxLen)
include ht hz hn hs
theorem twin_save_arg (hb : fitB n s = false) : Calls Tryd.prog 10 #[.pointer (some ⟨T, 0, none⟩), .string s] w fun e w' => e = .returned (.int .i64 1) ∧ w = w' := by
  have hF := twin_fits w Z D f n hz hn s hs
  rw [hb] at hF
  have HF := Lib.hid hF
  have c0 := twin_c0 ht
  clear ht hz hn hs hb hF
  go_enter Tryd.func10, Tryd.ntmps10
  go_wp2_with (fail)
  refine HF.out.mono ?_
  rintro e w1 ⟨rfl, rfl⟩
  go_wp2_with (fail)
  refine bodyPost_ret (results_tmp rfl _ _ _) rfl ?_
  exact ⟨rfl, rfl⟩
theorem twin_save_full (hb : fitB n s = true) (hg : 2147483647 ≤ g) : Calls Tryd.prog 10 #[.pointer (some ⟨T, 0, none⟩), .string s] w fun e w' => e = .returned (.int .i64 10) ∧ w = w' := by
  have hF := twin_fits w Z D f n hz hn s hs
  rw [hb] at hF
  have HF := Lib.hid hF
  have c0 := twin_c0 ht
  have c2 := twin_c2 ht
  have x1 : (2147483647 : Int) ≤ (g : Int) := by omega
  have t1 : decide ((2147483647 : Int) ≤ (g : Int)) = true := decide_eq_true x1
  clear ht hz hn hs hb hF hg
  go_enter Tryd.func10, Tryd.ntmps10
  go_wp2_with (fail)
  refine HF.out.mono ?_
  rintro e w1 ⟨rfl, rfl⟩
  go_wp2_with (fail)
  refine bodyPost_ret (results_tmp rfl _ _ _) rfl ?_
  exact ⟨rfl, rfl⟩
end
section
variable (w : World) (T Z D f n g k : Nat) (u s : ByteArray) (hz : w.heap[Z]? = some (zobj D f n)) (hn : n ≤ 4096) (hs : s.size ≤ maxLen)
include hz hn hs
theorem twin_save_down (ht : w.heap[T]? = some (tobj Z u g k true)) (hb : fitB n s = true) (hg : g < 2147483647) : Calls Tryd.prog 10 #[.pointer (some ⟨T, 0, none⟩), .string s] w fun e w' => e = .returned (.int .i64 4) ∧ w = w' := by
  have hF := twin_fits w Z D f n hz hn s hs
  rw [hb] at hF
  have HF := Lib.hid hF
  have c0 := twin_c0 ht
  have c2 := twin_c2 ht
  have c4 := twin_c4 ht
  have x1 : ¬ (2147483647 : Int) ≤ (g : Int) := by omega
  have t1 : decide ((2147483647 : Int) ≤ (g : Int)) = false := decide_eq_false x1
  clear ht hz hn hs hb hF hg
  go_enter Tryd.func10, Tryd.ntmps10
  go_wp2_with (fail)
  refine HF.out.mono ?_
  rintro e w1 ⟨rfl, rfl⟩
  go_wp2_with (fail)
  refine bodyPost_ret (results_tmp rfl _ _ _) rfl ?_
  exact ⟨rfl, rfl⟩
end
namespace Zn
variable {w0 w w' : World} {D : Nat} {x : Dk.St} {fs : List (Nat × Obj)}
/-- Where the copy that isn't the last one begins. -/
def other (f n k : Nat) : Nat := f + (1 - k) * (n / 2)
set_option maxRecDepth 100000 in
set_option maxHeartbeats 3200000 in
theorem save {T Z f n g k : Nat} {u : ByteArray} (h : Zn w0 w D x ((T, tobj Z u g k false) :: fs)) (hz : (Z, zobj D f n) ∈ fs) (hne : ∀ z ∈ fs, z.1 ≠ T) (hTw : w0.heap.size ≤ T) (hT : Tabs w0) (ha : x.away = false) (hf : x.Fz) (hl : x.loose.length ≤ 1073700000) (hd : x.done < 4611686018427300000) (hfn : f + n ≤ x.n)
    (h4 : 2 ≤ n) (hk : k < 2) (s : ByteArray) (hs : s.size ≤ 1024) (hp : szN s.size ≤ n / 2) (hg : g < 2147483647) :
    Calls Tryd.prog 10 #[.pointer (some ⟨T, 0, none⟩), .string s] w fun e w' => ∃ m, e = .returned (.int .i64 m) ∧ (m = 0 ∧ Zn w0 w' D ((x.cleared (other f n k) (n / 2)).placed (other f n k) (g + 1) s) ((T, tobj Z s (g + 1) (1 - k) false) :: fs) ∨ m = 4 ∧ ∃ y, x.RenewFell (other f n k) (n / 2) (g + 1) s y ∧ Zn w0 w' D y ((T, tobj Z u g k true) :: fs)) := by
  have hnb : x.n ≤ 4096 := by obtain ⟨_, _, _, _, _, _, h⟩ := h.disk; exact h.nb
  have ht := h.fix (T, tobj Z u g k false) (List.mem_cons_self ..)
  have hzz := h.fix _ (List.mem_cons_of_mem _ hz)
  have hF := twin_fits w Z D f n hzz (by omega) s (by unfold maxLen; omega)
  rw [fitB_true hs hp] at hF
  have HF := Lib.hid hF
  have c0 := twin_c0 ht
  have c2 := twin_c2 ht
  have c3 := twin_c3 ht
  have c4 := twin_c4 ht
  have x1 : ¬ (2147483647 : Int) ≤ (g : Int) := by omega
  have t1 : decide ((2147483647 : Int) ≤ (g : Int)) = false := decide_eq_false x1
  have e1 : wrap64 ((1 - k : Nat) : Int) = ((1 - k : Nat) : Int) := IntWalk.wrap64_in _ (by omega)
  have e1' : 1 - (k : Int) = ((1 - k : Nat) : Int) := by omega
  have hg2 : g + 1 ≤ 2147483647 := Nat.succ_le_of_lt hg
  have hg1 : 1 ≤ g + 1 := Nat.succ_le_succ (Nat.zero_le g)
  have e2 := (wrap_nat hg2).2
  have e3 := (wrap_nat hg2).1
  have e2' : (g : Int) + 1 = ((g + 1 : Nat) : Int) := (Int.natCast_succ g).symm
  have hk1 : (1 - k) * (n / 2) ≤ 1 * (n / 2) := Nat.mul_le_mul_right _ (by omega)
  have hoth : other f n k + n / 2 ≤ x.n := by unfold other; omega
  have HCP := Lib.hid (show Calls Tryd.prog 29 #[.pointer (some ⟨Z, 0, none⟩), .int .i64 ((1 - k : Nat) : Int)] w.drew fun e w' => ∃ Z', e = .returned (.pointer (some ⟨Z', 0, none⟩)) ∧ Zn w0 w' D x ((Z', zobj D (other f n k) (n / 2)) :: (T, tobj Z u g k false) :: fs) from by
    refine (twin_copyOf w.drew Z D f n ((h.drewN 1).fix _ (List.mem_cons_of_mem _ hz)) (by omega) _ x (h.drewN 1).disk hfn h4 (1 - k) (by omega)).mono ?_
    rintro e w' ⟨Z', rfl, g1, g2, g3⟩
    exact ⟨Z', rfl, (h.drewN 1).add g3 g1 g2⟩)
  have HR := Lib.hid (fun (W : World) (Z' : Nat) (hW : Zn w0 W D x ((Z', zobj D (other f n k) (n / 2)) :: (T, tobj Z u g k false) :: fs)) => hW.renew (Z := Z') (List.mem_cons_self ..) hT ha hf hl hd hoth (g + 1) s hg1 hg2 hs hp)
  have HFX := Lib.hid (fun (W : World) (Z' : Nat) y (hW : Zn w0 W D y ((Z', zobj D (other f n k) (n / 2)) :: (T, tobj Z u g k false) :: fs)) => (show Zn w0 W D y ((T, tobj Z u g k false) :: fs) from hW.less (fun z hz => List.mem_cons_of_mem _ hz)))
  have HTN := Lib.hid (show ∀ (W : World) y, Zn w0 W D y ((T, tobj Z u g k false) :: fs) → Zn w0 (W.setCell ⟨T, 4, none⟩ (.bool true)) D y ((T, tobj Z u g k true) :: fs) ∧ Zn w0 (((W.setCell ⟨T, 1, none⟩ (.string s)).setCell ⟨T, 2, none⟩ (.int .i64 ((g + 1 : Nat) : Int))).setCell ⟨T, 3, none⟩ (.int .i64 ((1 - k : Nat) : Int))) D y ((T, tobj Z s (g + 1) (1 - k) false) :: fs) from fun W y hW => by
    have hb := hW.fix (T, tobj Z u g k false) (List.mem_cons_self ..)
    refine ⟨hW.turn hTw hne (heap_setCell_same W T 4 _ _ _ hb) (fun i hi => heap_setCell_other W ⟨T, 4, none⟩ i _ hi) ⟨rfl, rfl, rfl⟩ (by simp [World.setCell]), hW.turn hTw hne (heap_setCell_same _ T 3 _ _ _ (heap_setCell_same _ T 2 _ _ _ (heap_setCell_same W T 1 _ _ _ hb))) (fun i hi => ?_) ⟨rfl, rfl, rfl⟩ (by simp [World.setCell])⟩
    rw [heap_setCell_other _ ⟨T, 3, none⟩ i _ hi, heap_setCell_other _ ⟨T, 2, none⟩ i _ hi, heap_setCell_other _ ⟨T, 1, none⟩ i _ hi])
  have HC := Lib.hid (show ∀ (W : World) y, Zn w0 W D y ((T, tobj Z u g k false) :: fs) → W.heap[T]? = some (tobj Z u g k false) from fun W y hW => hW.fix (T, tobj Z u g k false) (List.mem_cons_self ..))
  clear h hz hne hTw hT ha hf hl hd hfn h4 hk hs hp hg ht hzz hF hk1 hoth hg1 hg2
  generalize ((1 - k : Nat) : Int) = k1 at e1 e1' HCP HTN
  generalize ((g + 1 : Nat) : Int) = g1 at e2 e2' e3 HR HTN
  go_enter Tryd.func10, Tryd.ntmps10
  go_wp2_with (fail)
  refine HF.out.mono ?_
  rintro e w1 ⟨rfl, rfl⟩
  go_wp2_with (fail)
  clear c3 c4 HF
  have c0d : w.drew.cell? ⟨T, 0, none⟩ = some (.pointer (some ⟨Z, 0, none⟩)) := c0
  have c2d : w.drew.cell? ⟨T, 2, none⟩ = some (.int .i64 (g : Int)) := c2
  go_region_held3 (fun W : World => W.cell? ⟨T, 0, none⟩ = some (.pointer (some ⟨Z, 0, none⟩)) ∧ W.cell? ⟨T, 2, none⟩ = some (.int .i64 (g : Int))) (first | exact ⟨c0d, c2d⟩ | assumption) (first
    | (go_at_call 29; (with_reducible refine HCP.out.mono ?_); rintro e w2 ⟨Z', rfl, h2⟩; have H2 := Lib.hid h2; have hh2 := HC.out w2 _ (HFX.out w2 Z' _ h2); have hs := And.intro (twin_c0 hh2) (twin_c2 hh2); clear h2)
    | (go_at_call 32; (with_reducible refine (HR.out _ Z' H2.out).mono ?_); rintro e w3 ⟨m, rfl, h3⟩; have H3 := Lib.hid h3; have hh3 : w3.heap[T]? = some (tobj Z u g k false) := (by rcases h3 with ⟨_, h3⟩ | ⟨_, y, _, h3⟩ <;> exact HC.out w3 _ (HFX.out w3 Z' _ h3)); have hs := And.intro (twin_c0 hh3) (twin_c2 hh3); clear h3))
  rcases H3.out with ⟨rfl, h3⟩ | ⟨rfl, y, hy, h3⟩
  · have hT3 := HC.out _ _ (HFX.out _ Z' _ h3)
    have F := Lib.hid (HTN.out _ _ (HFX.out _ Z' _ h3)).2
    have d1 := twin_c1 hT3
    have d2 := twin_c2 hT3
    have d3 := twin_c3 hT3
    have f1 := twin_fz hT3
    clear h3 H3 H2 hT3 HTN HFX HC HR HCP c0 c2 c0d c2d
    go_wp2_with (fail)
    refine bodyPost_ret (results_tmp rfl _ _ _) rfl ?_
    exact ⟨0, rfl, .inl ⟨rfl, F.out⟩⟩
  · have hT3 := HC.out _ _ (HFX.out _ Z' _ h3)
    have F := Lib.hid (HTN.out _ _ (HFX.out _ Z' _ h3)).1
    have d4 := twin_c4 hT3
    have f1 := twin_fz hT3
    clear h3 H3 H2 hT3 HTN HFX HC HR HCP c0 c2 c0d c2d
    go_wp2_with (fail)
    refine bodyPost_ret (results_tmp rfl _ _ _) rfl ?_
    exact ⟨4, rfl, .inr ⟨rfl, y, hy, F.out⟩⟩
end Zn
end Go.Proofs.YtblgabdlpobbjaaDoor
namespace Go.Proofs.YtblgabdlpobbjaaDoor
open Go.ChangeShapes Go.WideShapes Go.ChangeAt Go.RowKit Pn Dk Sl Tw

theorem twin_format_nil (w : World) (s : ByteArray) : Calls Tryd.prog 8 #[.pointer none, .string s] w fun e w' => e = .returned (.tuple #[.pointer none, .int .i64 2]) ∧ w = w' := by
  go_enter Tryd.func8, Tryd.ntmps8
  go_wp2
  refine bodyPost_ret (results_tmp2 rfl _ _ _) rfl ?_
  exact ⟨rfl, rfl⟩
theorem twin_open_nil (w : World) : Calls Tryd.prog 14 #[.pointer none] w fun e w' => e = .returned (.tuple #[.pointer none, .int .i64 2]) ∧ w = w' := by
  go_enter Tryd.func14, Tryd.ntmps14
  go_wp2
  refine bodyPost_ret (results_tmp2 rfl _ _ _) rfl ?_
  exact ⟨rfl, rfl⟩
theorem twin_save_nil (w : World) (s : ByteArray) : Calls Tryd.prog 10 #[.pointer none, .string s] w fun e w' => e = .returned (.int .i64 2) ∧ w = w' := by
  go_enter Tryd.func10, Tryd.ntmps10
  go_wp2
  refine bodyPost_ret (results_tmp rfl _ _ _) rfl ?_
  exact ⟨rfl, rfl⟩
theorem twin_text_nil (w : World) : Calls Tryd.prog 16 #[.pointer none] w fun e w' => e = .returned (.string ⟨#[]⟩) ∧ w = w' := by
  go_enter Tryd.func16, Tryd.ntmps16
  go_wp2
  refine bodyPost_ret (results_tmp rfl _ _ _) rfl ?_
  exact ⟨rfl, rfl⟩
theorem twin_gen_nil (w : World) : Calls Tryd.prog 15 #[.pointer none] w fun e w' => e = .returned (.int .i64 0) ∧ w = w' := by
  go_enter Tryd.func15, Tryd.ntmps15
  go_wp2
  refine bodyPost_ret (results_tmp rfl _ _ _) rfl ?_
  exact ⟨rfl, rfl⟩
theorem twin_side_nil (w : World) : Calls Tryd.prog 17 #[.pointer none] w fun e w' => e = .returned (.int .i64 0) ∧ w = w' := by
  go_enter Tryd.func17, Tryd.ntmps17
  go_wp2
  refine bodyPost_ret (results_tmp rfl _ _ _) rfl ?_
  exact ⟨rfl, rfl⟩
section
variable (w : World) (Z D f n : Nat) (hz : w.heap[Z]? = some (zobj D f n)) (hn : n ≤ 4096) (hb : canB n = false)
include hz hn hb
theorem twin_format_cant (s : ByteArray) : Calls Tryd.prog 8 #[.pointer (some ⟨Z, 0, none⟩), .string s] w fun e w' => e = .returned (.tuple #[.pointer none, .int .i64 1]) ∧ w = w' := by
  have hF := twin_canBe w Z D f n hz hn
  rw [hb] at hF
  have HF := Lib.hid hF
  clear hz hn hb hF
  go_enter Tryd.func8, Tryd.ntmps8
  go_wp2_with (fail)
  refine HF.out.mono ?_
  rintro e w1 ⟨rfl, rfl⟩
  go_wp2_with (fail)
  refine bodyPost_ret (results_tmp2 rfl _ _ _) rfl ?_
  exact ⟨rfl, rfl⟩
theorem twin_open_cant : Calls Tryd.prog 14 #[.pointer (some ⟨Z, 0, none⟩)] w fun e w' => e = .returned (.tuple #[.pointer none, .int .i64 1]) ∧ w = w' := by
  have hF := twin_canBe w Z D f n hz hn
  rw [hb] at hF
  have HF := Lib.hid hF
  clear hz hn hb hF
  go_enter Tryd.func14, Tryd.ntmps14
  go_wp2_with (fail)
  refine HF.out.mono ?_
  rintro e w1 ⟨rfl, rfl⟩
  go_wp2_with (fail)
  refine bodyPost_ret (results_tmp2 rfl _ _ _) rfl ?_
  exact ⟨rfl, rfl⟩
end
namespace Tw
/-- What is got of a copy; the last one of the first k. -/
def getS (x : Dk.St) (f n k : Nat) : ByteArray × Nat × Nat := getR (rdZ x (f + k * (n / 2))) (n / 2) 0
def acc (x : Dk.St) (f n : Nat) : Nat → ByteArray × Nat × Nat
  | 0 => (⟨#[]⟩, 0, 0)
  | k + 1 => if (getS x f n k).2.2 = 0 ∧ (acc x f n k).2.1 < (getS x f n k).2.1 then ((getS x f n k).1, (getS x f n k).2.1, k) else acc x f n k
end Tw
namespace Zn
variable {w0 w w' : World} {D : Nat} {x : Dk.St} {fs : List (Nat × Obj)}
set_option maxRecDepth 100000 in
set_option maxHeartbeats 3200000 in
theorem format (h : Zn w0 w D x fs) {Z f n : Nat} (hz : (Z, zobj D f n) ∈ fs) (hT : Tabs w0) (ha : x.away = false) (hf : x.Fz) (hl : x.loose.length ≤ 1073700000) (hd : x.done < 4611686018427300000) (hfn : f + n ≤ x.n) (hc : canB n = true)
    (s : ByteArray) (hs : s.size ≤ 1024) (hp : szN s.size ≤ n / 2) :
    Calls Tryd.prog 8 #[.pointer (some ⟨Z, 0, none⟩), .string s] w fun e w' => (∃ T, e = .returned (.tuple #[.pointer (some ⟨T, 0, none⟩), .int .i64 0]) ∧ w0.heap.size ≤ T ∧ (∀ z ∈ fs, z.1 ≠ T) ∧ Zn w0 w' D ((x.filled f (fun _ => 0) n).placed f 1 s) ((T, tobj Z s 1 0 false) :: fs)) ∨
      (e = .returned (.tuple #[.pointer none, .int .i64 4]) ∧ ∃ y, (x.FillFell f n y ∨ (x.filled f (fun _ => 0) n).PlaceFell f 1 s y) ∧ Zn w0 w' D y fs) := by
  have hnb : x.n ≤ 4096 := by obtain ⟨_, _, _, _, _, _, h⟩ := h.disk; exact h.nb
  obtain ⟨h4, _⟩ := canB_iff.1 hc
  have hk1 : 0 * (n / 2) = 0 := Nat.zero_mul _
  have l1 := filled_loose x f (fun _ => 0) n
  have l2 := filled_done x f (fun _ => 0) n
  have hB := twin_canBe w Z D f n (h.fix _ hz) (by omega)
  rw [hc] at hB
  have hF := twin_fits w Z D f n (h.fix _ hz) (by omega) s (by unfold maxLen; omega)
  rw [fitB_true hs hp] at hF
  have HB := Lib.hid hB
  have HF := Lib.hid hF
  have HFL := Lib.hid (h.fillAny hz ha hf (by omega) (by omega) hfn 0)
  have HCP := Lib.hid (fun (W : World) (hW : Zn w0 W D (x.filled f (fun _ => 0) n) fs) => (show Calls Tryd.prog 29 #[.pointer (some ⟨Z, 0, none⟩), .int .i64 0] W fun e w' => ∃ Z', e = .returned (.pointer (some ⟨Z', 0, none⟩)) ∧ Zn w0 w' D (x.filled f (fun _ => 0) n) ((Z', zobj D f (n / 2)) :: fs) from by
    refine (twin_copyOf W Z D f n (hW.fix _ hz) (by omega) _ _ hW.disk (by rw [filled_n]; exact hfn) (by omega) 0 (by omega)).mono ?_
    rintro e w' ⟨Z', rfl, g1, g2, g3⟩
    rw [hk1, Nat.add_zero] at g2
    exact ⟨Z', rfl, hW.add g3 g1 g2⟩))
  have hh : f + n / 2 ≤ x.n := by omega
  have HPL := Lib.hid (fun (W : World) (Z' : Nat) (hW : Zn w0 W D (x.filled f (fun _ => 0) n) ((Z', zobj D f (n / 2)) :: fs)) => hW.place (Z := Z') (List.mem_cons_self ..) hT ((filled_away _ _ _ _).trans ha) (hf.filled _ _ _) (by omega) (by omega) (by rw [filled_n]; exact hh) 1 s (Nat.le_refl _) (by decide) hs hp)
  have HLT := Lib.hid (fun (W : World) y (hW : Zn w0 W D y fs) => (show w0.heap.size ≤ W.heap.size ∧ ∀ z ∈ fs, z.1 ≠ W.heap.size from ⟨hW.below.size, fun z hz => Nat.ne_of_lt (Array.getElem?_eq_some_iff.1 (hW.fix z hz)).1⟩))
  clear h hz hT ha hf hl hd hfn hc hs hp hnb h4 hk1 l1 l2 hB hF hh
  go_enter Tryd.func8, Tryd.ntmps8
  go_wp2_with (fail)
  refine HB.out.mono ?_
  rintro e w1 ⟨rfl, rfl⟩
  go_wp2_with (fail)
  refine HF.out.mono ?_
  rintro e w1 ⟨rfl, rfl⟩
  clear HB HF
  go_wp2_with (fail)
  refine HFL.out.mono ?_
  rintro e w1 ⟨m, rfl, ⟨rfl, g1⟩ | ⟨rfl, hn, k, kl, g0, g1⟩⟩
  · have G1 := Lib.hid g1
    clear g1 HFL
    go_wp2_with (fail)
    refine (HCP.out w1 G1.out).mono ?_
    rintro e w2 ⟨Z', rfl, g2⟩
    have G2 := Lib.hid g2
    clear g2 HCP G1
    go_wp2_with (fail)
    refine (HPL.out w2 Z' G2.out).mono ?_
    rintro e w3 ⟨m, rfl, ⟨rfl, g3⟩ | ⟨rfl, y, hy, g3⟩⟩
    · have G3 := Lib.hid (g3.less (gs := fs) (fun z hz => List.mem_cons_of_mem _ hz))
      clear g3 HPL G2
      go_wp2_with (fail)
      refine bodyPost_ret (results_tmp2 rfl _ _ _) rfl ?_
      exact .inl ⟨_, rfl, (HLT.out w3 _ G3.out).1, (HLT.out w3 _ G3.out).2, G3.out.add ((Below.refl _ _).alloc (Nat.le_refl _) _) (Nat.le_refl _) (heap_alloc_new w3 _)⟩
    · have G3 := Lib.hid (g3.less (gs := fs) (fun z hz => List.mem_cons_of_mem _ hz))
      clear g3 HPL G2
      go_wp2_with (fail)
      refine bodyPost_ret (results_tmp2 rfl _ _ _) rfl ?_
      exact .inr ⟨rfl, y, .inr hy, G3.out⟩
  · have G1 := Lib.hid g1
    clear g1 HFL
    go_wp2_with (fail)
    refine bodyPost_ret (results_tmp2 rfl _ _ _) rfl ?_
    exact .inr ⟨rfl, _, .inl ⟨hn, k, kl, g0, rfl⟩, G1.out⟩
set_option maxRecDepth 100000 in
set_option maxHeartbeats 3200000 in
theorem open_ (h : Zn w0 w D x fs) {Z f n : Nat} (hz : (Z, zobj D f n) ∈ fs) (hT : Tabs w0) (ha : x.away = false) (hfn : f + n ≤ x.n) (hc : canB n = true) :
    Calls Tryd.prog 14 #[.pointer (some ⟨Z, 0, none⟩)] w fun e w' => ((acc x f n 2).2.1 = 0 ∧ e = .returned (.tuple #[.pointer none, .int .i64 5]) ∧ Zn w0 w' D x fs) ∨
      ∃ T, 1 ≤ (acc x f n 2).2.1 ∧ e = .returned (.tuple #[.pointer (some ⟨T, 0, none⟩), .int .i64 0]) ∧ w0.heap.size ≤ T ∧ (∀ z ∈ fs, z.1 ≠ T) ∧ Zn w0 w' D x ((T, tobj Z (acc x f n 2).1 (acc x f n 2).2.1 (acc x f n 2).2.2 false) :: fs) := by
  have hnb : x.n ≤ 4096 := by obtain ⟨_, _, _, _, _, _, h⟩ := h.disk; exact h.nb
  obtain ⟨h4, _⟩ := canB_iff.1 hc
  have hB := twin_canBe w Z D f n (h.fix _ hz) (by omega)
  rw [hc] at hB
  have hI := disk_isOn _ w D x h.disk
  rw [ha] at hI
  have HB := Lib.hid hB
  have HI := Lib.hid hI
  have c0 := zone_c0 (h.fix _ hz)
  have HST := Lib.hid (show ∀ k : Nat, acc x f n (k + 1) = if (getS x f n k).2.2 = 0 ∧ (acc x f n k).2.1 < (getS x f n k).2.1 then ((getS x f n k).1, (getS x f n k).2.1, k) else acc x f n k from fun k => rfl)
  have hkk : ∀ k, k < 2 → f + k * (n / 2) + n / 2 ≤ x.n := fun k hk => by
    have hk1 : k * (n / 2) ≤ 1 * (n / 2) := Nat.mul_le_mul_right _ (by omega)
    omega
  have HCP := Lib.hid (fun (W : World) (gs : List (Nat × Obj)) (hW : Zn w0 W D x gs) (hz' : (Z, zobj D f n) ∈ gs) (k : Nat) (hk : k < 2) => (show Calls Tryd.prog 29 #[.pointer (some ⟨Z, 0, none⟩), .int .i64 (k : Int)] W fun e w' => ∃ Z', e = .returned (.pointer (some ⟨Z', 0, none⟩)) ∧ Zn w0 w' D x ((Z', zobj D (f + k * (n / 2)) (n / 2)) :: gs) from by
    refine (twin_copyOf W Z D f n (hW.fix _ hz') (by omega) _ _ hW.disk hfn (by omega) k hk).mono ?_
    rintro e w' ⟨Z', rfl, g1, g2, g3⟩
    exact ⟨Z', rfl, hW.add g3 g1 g2⟩))
  have HG := Lib.hid (fun (W : World) (Z' k : Nat) (gs : List (Nat × Obj)) (hk : k < 2) (hW : Zn w0 W D x ((Z', zobj D (f + k * (n / 2)) (n / 2)) :: gs)) (s : ByteArray) (m e0 : Nat) (hg : getS x f n k = (s, m, e0)) => hW.get (Z := Z') (List.mem_cons_self ..) hT ha (hkk k hk) 0 (by omega) hg)
  have HT0 := Lib.hid (show w0.heap.size ≤ w.heap.size ∧ ∀ z ∈ fs, z.1 ≠ w.heap.size from ⟨h.below.size, fun z hz => Nat.ne_of_lt (Array.getElem?_eq_some_iff.1 (h.fix z hz)).1⟩)
  have H0 := Lib.hid (show Zn w0 (w.alloc (tobj Z ⟨#[]⟩ 0 0 false)) D x ((w.heap.size, tobj Z ⟨#[]⟩ 0 0 false) :: fs) from h.add ((Below.refl _ _).alloc (Nat.le_refl _) _) (Nat.le_refl _) (heap_alloc_new w _))
  have HZ := Lib.hid hz
  clear h hz hT ha hfn hc hnb h4 hB hI hkk
  go_enter Tryd.func14, Tryd.ntmps14
  go_wp2_with (fail)
  refine HB.out.mono ?_
  rintro e w1 ⟨rfl, rfl⟩
  go_wp2_with (fail)
  refine HI.out.mono ?_
  rintro e w1 ⟨rfl, rfl⟩
  clear HB HI
  go_wp2_with (fail)
  obtain ⟨T, hTe⟩ : ∃ T, T = w.heap.size := ⟨_, rfl⟩
  rw [← hTe] at H0 HT0
  rw [← hTe]
  have H0' := Lib.hid (show ∃ W, W = w.alloc (tobj Z ⟨#[]⟩ 0 0 false) ∧ Zn w0 W D x ((T, tobj Z ⟨#[]⟩ 0 0 false) :: fs) from ⟨_, rfl, H0.out⟩)
  clear H0 hTe
  go_loopw [23] (fun i wr => ∃ k : Nat, i = .int .i64 (k : Int) ∧ k ≤ 2 ∧ Zn w0 wr D x ((T, tobj Z (acc x f n k).1 (acc x f n k).2.1 (acc x f n k).2.2 false) :: fs)) (fun i _ => match i with | .int _ k => 2 - k.toNat | _ => 0)
  case atStart =>
    obtain ⟨W, rfl, hW⟩ := H0'.out
    exact ⟨0, rfl, Nat.zero_le _, hW⟩
  case round =>
    clear H0' c0
    obtain ⟨k, rfl, hk2, hW⟩ := hrel
    have HW := Lib.hid hW
    have a2 := twin_c2 (hW.fix (T, tobj Z (acc x f n k).1 (acc x f n k).2.1 (acc x f n k).2.2 false) (List.mem_cons_self ..))
    clear hW
    by_cases hlt : k < 2
    · have y0 : (k : Int) < 2 := by omega
      have y1 : decide ((k : Int) < 2) = true := decide_eq_true y0
      have y2 : 0 ≤ (k : Int) := by omega
      have HA := Lib.hid (HST.out k)
      obtain ⟨s, m, e0, hr⟩ : ∃ s m e0, getS x f n k = (s, m, e0) := ⟨_, _, _, rfl⟩
      have HG1 := Lib.hid (fun W Z' gs hW => HG.out W Z' k gs hlt hW s m e0 hr)
      have HCP1 := Lib.hid (HCP.out wr _ HW.out (List.mem_cons_of_mem _ HZ.out) k hlt)
      rw [hr] at HA
      clear HG HCP HST hr
      go_wp2_with (fail)
      refine HCP1.out.mono ?_
      rintro e w2 ⟨Z', rfl, g2⟩
      have G2 := Lib.hid g2
      clear g2 HCP1 a2
      go_wp2_with (fail)
      refine (HG1.out w2 Z' _ G2.out).mono ?_
      rintro e w3 ⟨rfl, g3⟩
      have G3 := Lib.hid (g3.less (fun z hz => List.mem_cons_of_mem _ hz))
      have b2 := twin_c2 (G3.out.fix (T, tobj Z (acc x f n k).1 (acc x f n k).2.1 (acc x f n k).2.2 false) (List.mem_cons_self ..))
      have f1 := twin_fz (G3.out.fix (T, tobj Z (acc x f n k).1 (acc x f n k).2.1 (acc x f n k).2.2 false) (List.mem_cons_self ..))
      have cc := twin_c1 (G3.out.fix (T, tobj Z (acc x f n k).1 (acc x f n k).2.1 (acc x f n k).2.2 false) (List.mem_cons_self ..))
      have cd := twin_c3 (G3.out.fix (T, tobj Z (acc x f n k).1 (acc x f n k).2.1 (acc x f n k).2.2 false) (List.mem_cons_self ..))
      clear g3 HG1 G2
      by_cases he : e0 = 0
      · have t1 : ((e0 : Int) == 0) = true := by rw [he]; rfl
        by_cases hm : (acc x f n k).2.1 < m
        · have t2' : ((acc x f n k).2.1 : Int) < (m : Int) := by omega
          have t2 : decide (((acc x f n k).2.1 : Int) < (m : Int)) = true := decide_eq_true t2'
          have hA := HA.out
          rw [if_pos ⟨he, hm⟩] at hA
          have HN := Lib.hid (show Zn w0 (((w3.setCell ⟨T, 1, none⟩ (.string s)).setCell ⟨T, 2, none⟩ (.int .i64 (m : Int))).setCell ⟨T, 3, none⟩ (.int .i64 (k : Int))) D x ((T, tobj Z (acc x f n (k + 1)).1 (acc x f n (k + 1)).2.1 (acc x f n (k + 1)).2.2 false) :: fs) from by
            rw [hA]
            refine G3.out.turn HT0.out.1 HT0.out.2 (heap_setCell_same _ T 3 _ _ _ (heap_setCell_same _ T 2 _ _ _ (heap_setCell_same w3 T 1 _ _ _ (G3.out.fix (T, tobj Z (acc x f n k).1 (acc x f n k).2.1 (acc x f n k).2.2 false) (List.mem_cons_self ..))))) (fun i hi => ?_) ⟨rfl, rfl, rfl⟩ (by simp [World.setCell])
            rw [heap_setCell_other _ ⟨T, 3, none⟩ i _ hi, heap_setCell_other _ ⟨T, 2, none⟩ i _ hi, heap_setCell_other _ ⟨T, 1, none⟩ i _ hi])
          clear hA HA G3 hm he HW
          generalize (acc x f n k).2.1 = ag at b2 t2 t2'
          go_wp2_with (fail)
          exact ⟨⟨k + 1, rfl, by omega, HN.out⟩, by show 2 - ((k : Int) + 1).toNat < 2 - (k : Int).toNat; omega⟩
        · have t2' : ¬ ((acc x f n k).2.1 : Int) < (m : Int) := by omega
          have t2 : decide (((acc x f n k).2.1 : Int) < (m : Int)) = false := decide_eq_false t2'
          have hA := HA.out
          rw [if_neg (fun h => hm h.2)] at hA
          have HN := Lib.hid G3.out
          rw [← hA] at HN
          clear hA HA G3 hm he HW
          generalize (acc x f n k).2.1 = ag at b2 t2 t2'
          go_wp2_with (fail)
          exact ⟨⟨k + 1, rfl, by omega, HN.out⟩, by show 2 - ((k : Int) + 1).toNat < 2 - (k : Int).toNat; omega⟩
      · have t1 : ((e0 : Int) == 0) = false := beq_eq_false_iff_ne.2 (by omega)
        have hA := HA.out
        rw [if_neg (fun h => he h.1)] at hA
        have HN := Lib.hid G3.out
        rw [← hA] at HN
        clear hA HA G3 he HW
        go_wp2_with (fail)
        exact ⟨⟨k + 1, rfl, by omega, HN.out⟩, by show 2 - ((k : Int) + 1).toNat < 2 - (k : Int).toNat; omega⟩
    · have hke : k = 2 := by omega
      subst hke
      have y1 : decide (((2 : Nat) : Int) < 2) = false := decide_eq_false (by omega)
      have y0 : ¬ ((2 : Nat) : Int) < 2 := by omega
      clear hlt HG HCP HST HZ
      by_cases hg : (acc x f n 2).2.1 = 0
      · have z1 : decide (((acc x f n 2).2.1 : Int) < 1) = true := decide_eq_true (by omega)
        have HG0 := Lib.hid hg
        have HL := Lib.hid (HW.out.less (gs := fs) (fun z hz => List.mem_cons_of_mem _ hz))
        clear hg HW
        generalize ((acc x f n 2).2.1 : Int) = ag at a2 z1
        go_wp2_with (fail)
        refine bodyPost_ret (results_tmp2 rfl _ _ _) rfl ?_
        exact .inl ⟨HG0.out, rfl, HL.out⟩
      · have z1 : decide (((acc x f n 2).2.1 : Int) < 1) = false := decide_eq_false (by omega)
        have HG0 := Lib.hid (show 1 ≤ (acc x f n 2).2.1 by omega)
        clear hg
        generalize ((acc x f n 2).2.1 : Int) = ag at a2 z1
        go_wp2_with (fail)
        refine bodyPost_ret (results_tmp2 rfl _ _ _) rfl ?_
        exact .inr ⟨HG0.out, T, rfl, HT0.out.1, fun a b hab => HT0.out.2 (a, b) hab, HW.out⟩
/-- Without a fuse. -/
theorem formatOn (h : Zn w0 w D x fs) {Z f n : Nat} (hz : (Z, zobj D f n) ∈ fs) (hT : Tabs w0) (ha : x.away = false) (hf : x.fuse = none) (hl : x.loose.length ≤ 1073700000) (hd : x.done < 4611686018427300000) (hfn : f + n ≤ x.n) (hc : canB n = true)
    (s : ByteArray) (hs : s.size ≤ 1024) (hp : szN s.size ≤ n / 2) :
    Calls Tryd.prog 8 #[.pointer (some ⟨Z, 0, none⟩), .string s] w fun e w' => ∃ T, e = .returned (.tuple #[.pointer (some ⟨T, 0, none⟩), .int .i64 0]) ∧ w0.heap.size ≤ T ∧ (∀ z ∈ fs, z.1 ≠ T) ∧ Zn w0 w' D ((x.filled f (fun _ => 0) n).placed f 1 s) ((T, tobj Z s 1 0 false) :: fs) := by
  refine (h.format hz hT ha (St.Fz.of_none hf) hl hd hfn hc s hs hp).mono ?_
  rintro e w' (h1 | ⟨_, y, hy, _⟩)
  · exact h1
  · rcases hy with hy | hy
    · exact absurd hf hy.1
    · exact absurd (filled_fuse _ _ _ hf _) hy.1
theorem saveOn {T Z f n g k : Nat} {u : ByteArray} (h : Zn w0 w D x ((T, tobj Z u g k false) :: fs)) (hz : (Z, zobj D f n) ∈ fs) (hne : ∀ z ∈ fs, z.1 ≠ T) (hTw : w0.heap.size ≤ T) (hT : Tabs w0) (ha : x.away = false) (hf : x.fuse = none) (hl : x.loose.length ≤ 1073700000) (hd : x.done < 4611686018427300000) (hfn : f + n ≤ x.n)
    (h4 : 2 ≤ n) (hk : k < 2) (s : ByteArray) (hs : s.size ≤ 1024) (hp : szN s.size ≤ n / 2) (hg : g < 2147483647) :
    Calls Tryd.prog 10 #[.pointer (some ⟨T, 0, none⟩), .string s] w fun e w' => e = .returned (.int .i64 0) ∧ Zn w0 w' D ((x.cleared (other f n k) (n / 2)).placed (other f n k) (g + 1) s) ((T, tobj Z s (g + 1) (1 - k) false) :: fs) := by
  refine (h.save hz hne hTw hT ha (St.Fz.of_none hf) hl hd hfn h4 hk s hs hp hg).mono ?_
  rintro e w' ⟨m, rfl, ⟨rfl, h1⟩ | ⟨_, y, hy, _⟩⟩
  · exact ⟨rfl, h1⟩
  · exact absurd hf hy.fuse
end Zn
end Go.Proofs.YtblgabdlpobbjaaDoor
namespace Go.Proofs.YtblgabdlpobbjaaDoor
open Go Go.RowKit Pn Dk Sl
namespace Tw
/-- What is opened of two copies. -/
theorem opens {x : Dk.St} {a o lim gen : Nat} {t : ByteArray} (hsz : t.size ≤ 1024) (hfi : szN t.size ≤ lim) (h1 : 1 ≤ gen) (hcu : Whole x.now a t gen) (hol : Old x.now o gen lim) {f n k : Nat} (hk : k < 2) (ha : a = f + k * (n / 2)) (ho : o = f + (1 - k) * (n / 2)) (hl : lim = n / 2) (hg : gen ≤ 2147483647) : acc x f n 2 = (t, gen, k) := by
  have hc : getS x f n k = (t, gen, 0) := hcu.got hsz h1 hg (fun i _ j _ => by show sect x.now (f + k * (n / 2) + (0 + i)) j = _; rw [Nat.zero_add, ← ha]) (by omega)
  have hd : (∃ u g, getS x f n (1 - k) = (u, g, 0) ∧ g < gen ∧ szN u.size ≤ lim) ∨ getS x f n (1 - k) = (⟨#[]⟩, 0, 5) := hol.got (fun i _ j _ => by show sect x.now (f + (1 - k) * (n / 2) + (0 + i)) j = _; rw [Nat.zero_add, ← ho]) (by omega)
  clear hcu hol ha ho hl hg
  match k, hk with
  | 0, _ =>
    have e1 : acc x f n 1 = (t, gen, 0) := by
      show (if (getS x f n 0).2.2 = 0 ∧ 0 < (getS x f n 0).2.1 then ((getS x f n 0).1, (getS x f n 0).2.1, 0) else (⟨#[]⟩, 0, 0)) = _
      rw [hc, if_pos ⟨rfl, h1⟩]
    show (if (getS x f n 1).2.2 = 0 ∧ (acc x f n 1).2.1 < (getS x f n 1).2.1 then _ else acc x f n 1) = _
    rw [e1]
    rcases hd with ⟨u, g, e, hg, _⟩ | e
    · rw [show getS x f n 1 = (u, g, 0) from e, if_neg (fun h => by have := h.2; simp only at this; omega)]
    · rw [show getS x f n 1 = _ from e, if_neg (fun h => by have := h.1; simp only at this; omega)]
  | 1, _ =>
    have e1 : (acc x f n 1).2.1 < gen := by
      show (if (getS x f n 0).2.2 = 0 ∧ 0 < (getS x f n 0).2.1 then ((getS x f n 0).1, (getS x f n 0).2.1, 0) else (⟨#[]⟩, 0, 0)).2.1 < _
      rcases hd with ⟨u, g, e, hg, _⟩ | e
      · rw [show getS x f n 0 = (u, g, 0) from e]
        by_cases h0 : 0 < g
        · rw [if_pos ⟨rfl, h0⟩]
          exact hg
        · rw [if_neg (fun h => h0 h.2)]
          exact h1
      · rw [show getS x f n 0 = _ from e, if_neg (fun h => by have := h.1; simp only at this; omega)]
        exact h1
    show (if (getS x f n 1).2.2 = 0 ∧ (acc x f n 1).2.1 < (getS x f n 1).2.1 then _ else acc x f n 1) = _
    rw [hc, if_pos ⟨rfl, e1⟩]
theorem Pair.opens {x : Dk.St} {a o lim gen : Nat} {t : ByteArray} (h : Pair x a o lim gen t) {f n k : Nat} (hk : k < 2) (ha : a = f + k * (n / 2)) (ho : o = f + (1 - k) * (n / 2)) (hl : lim = n / 2) (hg : gen ≤ 2147483647) : acc x f n 2 = (t, gen, k) := Tw.opens h.size h.fits h.one h.cur h.old hk ha ho hl hg
/-- Behind a format. -/
theorem formatted {x : Dk.St} (hx : x.Full) {f n : Nat} {s : ByteArray} (hs : s.size ≤ 1024) (hp : szN s.size ≤ n / 2) (h4 : 4 ≤ n) (y : Dk.St) (hy : y = (x.filled f (fun _ => 0) n).placed f 1 s) : Pair y f (f + n / 2) (n / 2) 1 s := by
  subst hy
  have hF : ((x.filled f (fun _ => 0) n).laid f (secF 1 (sealL s)) (szN s.size)).burnt.Full := laid_full _ _ _ (filled_full2 x f _ hx n) _
  refine ⟨.inl (Nat.le_refl _), hs, hp, Nat.le_refl _, rfl, (full_synced hF).1, fun i hi j hj => laid_in _ f _ _ i hi j hj, Old.zero (by omega) fun i hi => ?_⟩
  refine (numG_congr (g := fun _ => 0) fun j hj => ?_).trans num_zero
  show sect ((x.filled f (fun _ => 0) n).laid f (secF 1 (sealL s)) (szN s.size)).now (f + n / 2 + i) j = 0
  rw [laid_out _ f _ _ (f + n / 2 + i) (by omega) j hj, Nat.add_assoc]
  exact filled_in x f _ n (n / 2 + i) (by omega) j hj
section
variable {x : Dk.St} {a o lim gen : Nat} {t : ByteArray} (h : Pair x a o lim gen t)
include h
/-- Behind a save: the text that was stands there still. -/
theorem Pair.stands (s : ByteArray) (hfs : szN s.size ≤ lim) : Whole ((x.cleared o lim).placed o (gen + 1) s).now a t gen := by
  obtain ⟨c1, _⟩ := h.cleared
  have hap := h.apart
  have hfi := h.fits
  refine c1.congr fun i hi j hj => ?_
  show sect ((x.filled o (fun _ => 0) lim).burnt.synced.laid o (secF (gen + 1) (sealL s)) (szN s.size)).now (a + i) j = _
  exact laid_out _ o _ _ (a + i) (by omega) j hj
theorem Pair.saves (s : ByteArray) (hs : s.size ≤ 1024) (hfs : szN s.size ≤ lim) (hg : gen ≤ 2147483646) : Pair ((x.cleared o lim).placed o (gen + 1) s) o a lim (gen + 1) s := h.saved s hs hfs hg _ rfl
/-- The power went in a save. -/
theorem Pair.fell (s : ByteArray) (hs : s.size ≤ 1024) (hfs : szN s.size ≤ lim) (hg : gen + 1 ≤ 2147483647) {y : Dk.St} (hy : x.RenewFell o lim (gen + 1) s y) : Pair y.come a o lim gen t ∨ Pair y.come o a lim (gen + 1) s := by
  rcases hy with ⟨_, k, kl, hk, rfl⟩ | ⟨_, k, kl, hk, rfl⟩
  · exact .inl (h.fill_fall k hk kl)
  · exact h.put_fall s hs hfs hg k hk kl _ rfl
/-- The power goes, and comes, between the calls. -/
theorem Pair.rests (kl : List Bool) : Pair (x.fall kl).come a o lim gen t := h.fill_fall 0 (Nat.zero_le _) kl
end
end Tw
namespace Dk
section
variable (x : St) (f n gen : Nat) (s : ByteArray)
theorem placed_n : (x.placed f gen s).n = x.n := laid_n _ _ _ _
theorem placed_away : (x.placed f gen s).away = x.away := laid_away _ _ _ _
theorem placed_fuse (h : x.fuse = none) : (x.placed f gen s).fuse = none := by
  show (x.laid f (secF gen (sealL s)) (szN s.size)).fuse.map _ = none
  rw [laid_fuse x _ _ h]
  rfl
theorem placed_Fz (h : x.Fz) : (x.placed f gen s).Fz := (h.laid f _ _).burnt
theorem placed_done : (x.placed f gen s).done = x.done + szN s.size + 1 := by
  show (x.laid f (secF gen (sealL s)) (szN s.size)).done + 1 = _
  rw [laid_done]
theorem cleared_n : (x.cleared f n).n = x.n := filled_n _ _ _ _
theorem cleared_away : (x.cleared f n).away = x.away := filled_away _ _ _ _
theorem cleared_Fz (h : x.Fz) : (x.cleared f n).Fz := (h.filled f _ _).burnt
theorem cleared_done : (x.cleared f n).done ≤ x.done + n + 1 := by
  have := filled_done x f (fun _ => 0) n
  show (x.filled f (fun _ => 0) n).done + 1 ≤ _
  omega
end
/-- What fell is away, without a fuse, with nothing loose, of as many sectors. -/
theorem RenewFell.state {x : St} {f n gen : Nat} {s : ByteArray} {y : St} (h : x.RenewFell f n gen s y) : y.n = x.n ∧ y.away = true ∧ y.fuse = none ∧ y.loose = [] ∧ y.done ≤ x.done + n + 1 + szN s.size := by
  rcases h with ⟨_, k, kl, hk, rfl⟩ | ⟨_, k, kl, hk, rfl⟩
  · have := filled_done x f (fun _ => 0) k
    refine ⟨filled_n x f _ k, rfl, rfl, rfl, ?_⟩
    show (x.filled f (fun _ => 0) k).done ≤ _
    omega
  · have h1 := cleared_done x f n
    refine ⟨(laid_n _ _ _ k).trans (cleared_n x f n), rfl, rfl, rfl, ?_⟩
    show ((x.cleared f n).laid f (secF gen (sealL s)) k).done ≤ _
    rw [laid_done]
    omega
end Dk
end Go.Proofs.YtblgabdlpobbjaaDoor
namespace Go.Proofs.YtblgabdlpobbjaaDoor
open Go.ChangeShapes Go.WideShapes Go.ChangeAt Go.RowKit Pn Dk Sl Tw

namespace Tw
def swA : ByteArray := ⟨#[97]⟩
def swB : ByteArray := ⟨#[98]⟩
theorem sB_text : swB.toList = [98] := by rw [ByteArray.toList_eq]; rfl
def aw0 : Dk.St := freshSt 10 fun _ => 0
def aw1 : Dk.St := (aw0.filled 1 (fun _ => 0) 8).placed 1 1 swA
def aw2 : Dk.St := (aw1.cleared 5 4).placed 5 (1 + 1) swB
theorem awp1 : Pair aw1 1 5 4 1 swA := formatted (x := aw0) (f := 1) (n := 8) (show aw0.Full from rfl) (by decide) (by decide) (by decide) _ rfl
theorem awp2 : Pair aw2 5 1 4 (1 + 1) swB := awp1.saves swB (by decide) (by decide) (by decide)
theorem aw_acc : acc aw2 1 8 2 = (swB, 2, 1) := awp2.opens (f := 1) (n := 8) (k := 1) (by decide) rfl rfl rfl (by decide)
theorem aw1_n : aw1.n = 10 := (placed_n _ _ _ _).trans (filled_n _ _ _ _)
theorem aw1_away : aw1.away = false := (placed_away _ _ _ _).trans (filled_away _ _ _ _)
theorem aw1_fuse : aw1.fuse = none := placed_fuse _ _ _ _ (filled_fuse _ _ _ rfl _)
theorem aw1_done : aw1.done ≤ 100 := by
  have h1 := placed_done (aw0.filled 1 (fun _ => 0) 8) 1 1 swA
  have h2 := (filled_done aw0 1 (fun _ => 0) 8).2
  have h3 : szN swA.size = 2 := by decide
  have h4 : aw0.done = 0 := rfl
  show ((aw0.filled 1 (fun _ => 0) 8).placed 1 1 swA).done ≤ 100
  omega
theorem aw2_n : aw2.n = 10 := (placed_n _ _ _ _).trans ((cleared_n _ _ _).trans aw1_n)
theorem aw2_away : aw2.away = false := (placed_away _ _ _ _).trans ((cleared_away _ _ _).trans aw1_away)
end Tw
set_option maxRecDepth 100000 in
set_option maxHeartbeats 3200000 in
theorem awake07 (w : World) (hT : Tabs w) :
    Calls Tryd.prog 5 #[] w fun e w' => e = .returned (.bool true) ∧ Below w.heap.size w w' := by
  have HT := Lib.hid hT
  clear hT
  go_enter Tryd.func5, Tryd.ntmps5
  go_wp2_with (fail)
  refine (at_new w w (Below.refl _ _) 10 10 (by omega)).mono ?_
  rintro e w1 ⟨D, rfl, h1⟩
  have H1 := Lib.hid (show Zn w w1 D aw0 [] from Zn.of_at h1)
  clear h1
  go_wp2_with (fail)
  refine (H1.out.news 1 8 (by decide) (by decide)).mono ?_
  rintro e w2 ⟨Z, rfl, h2⟩
  have H2 := Lib.hid h2
  clear h2 H1
  go_wp2_with (fail)
  refine (H2.out.formatOn (Z := Z) (f := 1) (n := 8) (List.mem_cons_self ..) HT.out rfl rfl (by decide) (by decide) (by decide) rfl swA (by decide) (by decide)).mono ?_
  rintro e w3 ⟨T, rfl, g1, g2, h3⟩
  have H3 := Lib.hid (show Zn w w3 D aw1 [(T, tobj Z swA 1 0 false), (Z, zobj D 1 8)] from h3)
  have G := Lib.hid (And.intro g1 g2)
  clear h3 H2 g1 g2
  go_wp2_with (fail)
  refine (H3.out.saveOn (T := T) (Z := Z) (f := 1) (n := 8) (List.mem_cons_self ..) G.out.2 G.out.1 HT.out aw1_away aw1_fuse (Nat.zero_le _) (Nat.lt_of_le_of_lt aw1_done (by decide)) (by rw [aw1_n]; decide) (by decide) (by decide) swB (by decide) (by decide) (by decide)).mono ?_
  rintro e w4 ⟨rfl, h4⟩
  have H4 := Lib.hid (show Zn w w4 D aw2 [(T, tobj Z swB 2 1 false), (Z, zobj D 1 8)] from h4)
  clear h4 H3
  go_wp2_with (fail)
  refine (H4.out.open_ (Z := Z) (f := 1) (n := 8) (List.mem_cons_of_mem _ (List.mem_cons_self ..)) HT.out aw2_away (by rw [aw2_n]; decide) rfl).mono ?_
  rw [aw_acc]
  rintro e w5 (⟨h0, _⟩ | ⟨T', _, rfl, _, _, h5⟩)
  · exact absurd h0 (by decide)
  have H5 := Lib.hid h5
  have cz := twin_c0 (h5.fix (T, tobj Z swB 2 1 false) (by simp))
  have cd := zone_c0 (h5.fix (Z, zobj D 1 8) (by simp))
  clear h5 H4
  go_wp2_with (fail)
  have ht := sB_text
  refine (twin_text w5 T Z 2 1 swB false (H5.out.fix (T, tobj Z swB 2 1 false) (by simp))).mono ?_
  rintro e w6 ⟨rfl, rfl⟩
  go_wp2_with (fail)
  refine (twin_gen w5 T Z 2 1 swB false (H5.out.fix (T, tobj Z swB 2 1 false) (by simp))).mono ?_
  rintro e w6 ⟨rfl, rfl⟩
  go_wp2_with (fail)
  refine (twin_side w5 T Z 2 1 swB false (H5.out.fix (T, tobj Z swB 2 1 false) (by simp))).mono ?_
  rintro e w6 ⟨rfl, rfl⟩
  go_wp2_with (fail)
  refine (twin_text w5 T' Z 2 1 swB false (H5.out.fix (T', tobj Z swB 2 1 false) (by simp))).mono ?_
  rintro e w6 ⟨rfl, rfl⟩
  go_wp2_with (fail)
  refine (twin_gen w5 T' Z 2 1 swB false (H5.out.fix (T', tobj Z swB 2 1 false) (by simp))).mono ?_
  rintro e w6 ⟨rfl, rfl⟩
  go_wp2_with (fail)
  refine (disk_loose _ w5 D aw2 H5.out.disk).mono ?_
  rintro e w6 ⟨rfl, rfl⟩
  rw [show aw2.loose = [] from rfl]
  go_wp2_with (fail)
  refine bodyPost_ret (results_tmp rfl _ _ _) rfl ?_
  exact ⟨rfl, H5.out.below⟩
end Go.Proofs.YtblgabdlpobbjaaDoor
namespace Go.Proofs.YtblgabdlpobbjaaDoor
open Go.ChangeShapes Go.WideShapes Go.ChangeAt Go.RowKit Pn Dk Sl Tw

namespace Tw
theorem bs_img (n : Nat) (f : Nat → UInt8) (k : Nat) (h : k < n * 32) : bs (imgS n f) k = f k := by
  unfold bs imgS
  rw [List.getD_eq_getElem?_getD]
  simp [h]
/-- A disk of these bytes, of which a sector is zeroed. -/
def without (n o : Nat) (f : Nat → UInt8) : Dk.St := (freshSt n (bs (imgS n f))).burnt.put o (bs (secS fun _ => 0))
theorem without_other {n o : Nat} {f : Nat → UInt8} {q : Nat} (hq : q < n) (hne : o ≠ q) : ∀ j, j < 32 → sect (without n o f).now q j = sect f q j := fun j hj => by
  show sect (putS (bs (imgS n f)) o (bs (secS fun _ => 0))) q j = _
  rw [sect_put_other _ _ _ _ _ hj hne]
  exact bs_img n f (q * 32 + j) (by omega)
theorem without_same {n o : Nat} {f : Nat → UInt8} : numG (sect (without n o f).now o) = 0 := by
  refine (numG_congr (g := fun _ => 0) fun j hj => ?_).trans num_zero
  show sect (putS (bs (imgS n f)) o (bs (secS fun _ => 0))) o j = _
  rw [sect_put_same _ _ _ _ hj, bs_secS _ _ hj]
/-- Without the last copy the one ahead of it is opened. -/
theorem without_opens {y : Dk.St} {a o lim gen : Nat} {s t : ByteArray} (hp : Pair y o a lim (gen + 1) s) (hw : Whole y.now a t gen) (ht : t.size ≤ 1024) (hf : szN t.size ≤ lim) (h1 : 1 ≤ gen) (hg : gen + 1 ≤ 2147483647) {n k : Nat} (hn : a + lim ≤ n ∧ o + lim ≤ n)
    (hk : k < 2) (ha : a = 0 + k * (n / 2)) (ho : o = 0 + (1 - k) * (n / 2)) (hl : lim = n / 2) : acc (without n o y.safe) 0 n 2 = (t, gen, k) := by
  have hap := hp.apart
  have hsz := szN_two s.size
  have hfs := hp.fits
  have hs := hp.safe
  refine opens ht hf h1 (fun i hi j hj => ?_) ⟨s, gen + 1, ⟨hp.size, by omega, hg, fun i hi => ?_⟩, hfs, .inr ⟨0, by omega, without_same⟩⟩ hk ha ho hl (by omega)
  · rw [without_other (by omega) (by omega) j hj, hs]
    exact hw i hi j hj
  · by_cases h0 : i = 0
    · subst h0
      exact .inl without_same
    · refine .inr fun j hj => ?_
      rw [without_other (by omega) (by omega) j hj, hs]
      exact hp.cur i hi j hj
/-- A twin of 12 sectors, without a fuse. -/
structure Turn (w wr : World) (D Z T : Nat) (x : Dk.St) (s : ByteArray) (g side B : Nat) : Prop where
  zn : Zn w wr D x [(T, tobj Z s g side false), (Z, zobj D 0 12)]
  new : w.heap.size ≤ T
  ne : ∀ z ∈ [(Z, zobj D 0 12)], z.1 ≠ T
  on : x.away = false
  nofuse : x.fuse = none
  n : x.n = 12
  done : x.done ≤ B
  gen : g ≤ B
  sd : side < 2
  pair : Pair x (0 + side * 6) (0 + (1 - side) * 6) 6 g s
theorem Turn.step {w wr wr' : World} {D Z T : Nat} {x : Dk.St} {s : ByteArray} {g side B : Nat} (h : Turn w wr D Z T x s g side B) (hb : Below wr.heap.size wr wr') : Turn w wr' D Z T x s g side B :=
  ⟨h.zn.step hb, h.new, h.ne, h.on, h.nofuse, h.n, h.done, h.gen, h.sd, h.pair⟩
theorem Turn.mono {w wr : World} {D Z T : Nat} {x : Dk.St} {s : ByteArray} {g side B C : Nat} (h : Turn w wr D Z T x s g side B) (hB : B ≤ C) : Turn w wr D Z T x s g side C :=
  ⟨h.zn, h.new, h.ne, h.on, h.nofuse, h.n, Nat.le_trans h.done hB, Nat.le_trans h.gen hB, h.sd, h.pair⟩
theorem Turn.tfix {w wr : World} {D Z T : Nat} {x : Dk.St} {s : ByteArray} {g side B : Nat} (h : Turn w wr D Z T x s g side B) : wr.heap[T]? = some (tobj Z s g side false) := h.zn.fix (T, tobj Z s g side false) (by simp)
theorem Turn.save {w wr : World} {D Z T : Nat} {x : Dk.St} {s : ByteArray} {g side B : Nat} (h : Turn w wr D Z T x s g side B) (hT : Tabs w) (hB : B ≤ 100000) (u : ByteArray) (hu : u.size ≤ 60) :
    Calls Tryd.prog 10 #[.pointer (some ⟨T, 0, none⟩), .string u] wr fun e w' => e = .returned (.int .i64 0) ∧ ∃ y, Turn w w' D Z T y u (g + 1) (1 - side) (B + 12) ∧ Whole y.now (0 + side * 6) s g := by
  have hsz : szN u.size ≤ 4 := by unfold szN; omega
  have hg := h.gen
  have hd := h.done
  have hsd := h.sd
  refine (h.zn.saveOn (T := T) (Z := Z) (f := 0) (n := 12) (List.mem_cons_self ..) h.ne h.new hT h.on h.nofuse (by rw [h.pair.loose]; decide) (by omega) (by rw [h.n]; decide) (by decide) hsd u (by omega) (Nat.le_trans hsz (by decide)) (by omega)).mono ?_
  rintro e w' ⟨rfl, h1⟩
  refine ⟨rfl, _, ⟨h1, h.new, h.ne, ?_, ?_, ?_, ?_, by omega, by omega, ?_⟩, h.pair.stands u (by omega)⟩
  · exact (placed_away _ _ _ _).trans ((cleared_away _ _ _).trans h.on)
  · exact placed_fuse _ _ _ _ (cleared_fuse h.nofuse _ _)
  · exact (placed_n _ _ _ _).trans ((cleared_n _ _ _).trans h.n)
  · rw [placed_done]
    have := cleared_done x (Zn.other 0 12 side) (12 / 2)
    omega
  · have hp := h.pair.saves u (by omega) (by omega) (by omega)
    rw [show 1 - (1 - side) = side by omega]
    exact hp
end Tw
end Go.Proofs.YtblgabdlpobbjaaDoor
