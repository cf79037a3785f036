/-
  A zone's own block, and a disk beside blocks that no call of the disk turns. No program's function here. No conditions.
  Package zone: what New, Len, Read, Write, Part answer. Conditions: the zone stands in its block, its disk in blocks of its own.
  Package zone: what change, Fill, All and Part answer. Conditions: the zone stands in its block, its disk in blocks of its own.
  Package zone: Part; and all calls of a zone over a disk without a fuse, whose power is there. Conditions: the zone stands in its block, its disk in blocks of its own; few writes.
-/
import Derived.Test.YtblgabdlpobbjaaGreatDoorMg6
import Derived.Test.YtblgabdlpobbjaaGreatDoorMg4
import Derived.Deep.RegionHeld3
import Derived.Great.BuildSlice
import Derived.Lib.AppendStr
set_option maxRecDepth 100000
namespace Go.Proofs.YtblgabdlpobbjaaGreatDoor
open Go.ChangeShapes Go.WideShapes Go.ChangeAt Go.RowKit Dk

/-- A zone's own block. -/
def zobj (D f n : Nat) : Obj := .cells #[.pointer (some ⟨D, 0, none⟩), .int .i64 (f : Int), .int .i64 (n : Int)] 48 (0, 0)
section
variable {w : World} {Z D f n : Nat} (hz : w.heap[Z]? = some (zobj D f n))
include hz
theorem zone_c0 : w.cell? ⟨Z, 0, none⟩ = some (.pointer (some ⟨D, 0, none⟩)) := by rw [cell_of_row w Z 0 _ _ _ hz]; rfl
theorem zone_c1 : w.cell? ⟨Z, 1, none⟩ = some (.int .i64 (f : Int)) := by rw [cell_of_row w Z 1 _ _ _ hz]; rfl
theorem zone_c2 : w.cell? ⟨Z, 2, none⟩ = some (.int .i64 (n : Int)) := by rw [cell_of_row w Z 2 _ _ _ hz]; rfl
end
theorem OwnBools.restrict {K : Nat → Prop} {w : World} {kv : Value} {kl : List Bool} (h : OwnBools K w kv kl) : OwnBools (fun i => K i ∧ i < w.heap.size) w kv kl := by
  rcases h with h | ⟨kb, c, cur, h1, h2, h3, h4, h5⟩
  · exact .inl h
  · exact .inr ⟨kb, c, cur, h1, h2, h3, h4, h5, (Array.getElem?_eq_some_iff.1 h3).1⟩
theorem FuseAt.restrict {K : Nat → Prop} {w : World} {fv : Value} : ∀ {fu : Option (Nat × List Bool)}, FuseAt K w fv fu → FuseAt (fun i => K i ∧ i < w.heap.size) w fv fu
  | none, h => h
  | some (_, _), ⟨f, kv, h1, h2, h3, h4, h5⟩ => ⟨f, kv, h1, h2, h3.restrict, h4, h5, (Array.getElem?_eq_some_iff.1 h2).1⟩
/-- A disk's blocks are there. -/
theorem DiskAt.restrict {K : Nat → Prop} {w : World} {D : Nat} {x : St} (h : DiskAt K w D x) : DiskAt (fun i => K i ∧ i < w.heap.size) w D x := by
  obtain ⟨s, cs, t, ct, lv, fv, h⟩ := h
  exact ⟨s, cs, t, ct, lv, fv, h.hd, h.sr, h.tr, h.ne, h.cs, h.ct, h.lo, h.fu.restrict, h.pl, h.nb, ⟨h.kD, h.lt⟩, ⟨h.ks, h.sr.lt⟩, ⟨h.kt, h.tr.lt⟩, fun g hg => ⟨h.kl g hg, (h.lo.lt g hg).2⟩⟩
theorem DiskAt.drewN {K : Nat → Prop} {w : World} {D : Nat} {x : St} (h : DiskAt K w D x) (k : Nat) : DiskAt K (w.drewN k) D x := h.below (below_drewN (Below.refl _ _) k)
/-- A disk of blocks that weren't there at the beginning, beside others that stay as they are; what was there at the beginning is as it was. -/
structure Zn (w0 w : World) (D : Nat) (x : St) (fs : List (Nat × Obj)) : Prop where
  disk : DiskAt (fun i => w0.heap.size ≤ i ∧ ∀ z ∈ fs, i ≠ z.1) w D x
  fix : ∀ z ∈ fs, w.heap[z.1]? = some z.2
  below : Below w0.heap.size w0 w
namespace Zn
variable {w0 w w' : World} {D : Nat} {x y : St} {fs : List (Nat × Obj)}
theorem of_at (h : At w0 w D x) : Zn w0 w D x [] := ⟨h.disk.mono fun _ hi => ⟨hi, fun z hz => (by cases hz)⟩, fun z hz => (by cases hz), h.below⟩
theorem step (h : Zn w0 w D x fs) (hb : Below w.heap.size w w') : Zn w0 w' D x fs :=
  ⟨h.disk.below hb, fun z hz => (hb.block z.1 (Array.getElem?_eq_some_iff.1 (h.fix z hz)).1).trans (h.fix z hz), h.below.trans (hb.mono h.below.size)⟩
theorem drewN (h : Zn w0 w D x fs) (k : Nat) : Zn w0 (w.drewN k) D x fs := h.step (below_drewN (Below.refl _ _) k)
theorem says (h : Zn w0 w D x fs) {v : Value} {e : Ending} (hs : DiskSays (fun i => w0.heap.size ≤ i ∧ ∀ z ∈ fs, i ≠ z.1) w D v y e w') : e = .returned v ∧ Zn w0 w' D y fs :=
  ⟨hs.1, hs.2.1, fun z hz => (hs.2.2.block z.1 (Array.getElem?_eq_some_iff.1 (h.fix z hz)).1 (fun hk => hk.2 z hz rfl)).trans (h.fix z hz),
    h.below.trans (hs.2.2.below h.below.size (fun _ hi hk => Nat.not_le.2 hi hk.1))⟩
theorem new (h : Zn w0 w D x fs) : ∀ i, w.heap.size ≤ i → w0.heap.size ≤ i ∧ ∀ z ∈ fs, i ≠ z.1 := fun i hi =>
  ⟨Nat.le_trans h.below.size hi, fun z hz e => by have := (Array.getElem?_eq_some_iff.1 (h.fix z hz)).1; omega⟩
theorem add (h : Zn w0 w D x fs) (hb : Below w.heap.size w w') {Z : Nat} {o : Obj} (hZ : w.heap.size ≤ Z) (ho : w'.heap[Z]? = some o) : Zn w0 w' D x ((Z, o) :: fs) :=
  ⟨(h.disk.restrict.mono fun i hi => ⟨hi.1.1, fun z hz => by
      rcases List.mem_cons.1 hz with rfl | hz
      · exact fun e => by have := hi.2; simp only at e; omega
      · exact hi.1.2 z hz⟩).below hb,
    fun z hz => by
      rcases List.mem_cons.1 hz with rfl | hz
      · exact ho
      · exact (hb.block z.1 (Array.getElem?_eq_some_iff.1 (h.fix z hz)).1).trans (h.fix z hz),
    h.below.trans (hb.mono h.below.size)⟩
end Zn

namespace Dk
/-- Written, unless it is so already. -/
def St.chg (x : St) (p : Nat) (g : Nat → UInt8) : St := if secS (sect x.now p) = secS g then x else x.burnt.put p (bs (secS g))
/-- The first k sectors from f on are written so. -/
def St.filled (x : St) (f : Nat) (g : Nat → UInt8) : Nat → St
  | 0 => x
  | k + 1 => (x.filled f g k).chg (f + k) g
theorem chg_n (x : St) (p : Nat) (g : Nat → UInt8) : (x.chg p g).n = x.n := by unfold St.chg; split <;> rfl
theorem chg_away (x : St) (p : Nat) (g : Nat → UInt8) : (x.chg p g).away = x.away := by unfold St.chg; split <;> rfl
theorem chg_fuse (x : St) (p : Nat) (g : Nat → UInt8) (h : x.fuse = none) : (x.chg p g).fuse = none := by
  unfold St.chg
  split
  · exact h
  · show x.fuse.map _ = none
    rw [h]
    rfl
theorem chg_safe (x : St) (p : Nat) (g : Nat → UInt8) : (x.chg p g).safe = x.safe := by unfold St.chg; split <;> rfl
theorem chg_loose (x : St) (p : Nat) (g : Nat → UInt8) : (x.chg p g).loose.length ≤ x.loose.length + 1 := by
  unfold St.chg
  split
  · omega
  · show (x.loose ++ [_]).length ≤ _
    rw [List.length_append]
    simp
theorem chg_done (x : St) (p : Nat) (g : Nat → UInt8) : x.done ≤ (x.chg p g).done ∧ (x.chg p g).done ≤ x.done + 1 := by
  unfold St.chg
  split
  · omega
  · exact ⟨Nat.le_succ _, Nat.le_refl _⟩
theorem chg_same (x : St) (p : Nat) (g : Nat → UInt8) (j : Nat) (hj : j < 32) : sect (x.chg p g).now p j = g j := by
  unfold St.chg
  split
  · rename_i h
    exact secS_inj h j hj
  · show sect (putS x.now p (bs (secS g))) p j = g j
    rw [sect_put_same _ _ _ _ hj, bs_secS g j hj]
theorem chg_other (x : St) (p q : Nat) (g : Nat → UInt8) (j : Nat) (hj : j < 32) (hne : p ≠ q) : sect (x.chg p g).now q j = sect x.now q j := by
  unfold St.chg
  split
  · rfl
  · exact sect_put_other _ _ _ _ _ hj hne
section
variable (x : St) (f : Nat) (g : Nat → UInt8)
theorem filled_n : ∀ k, (x.filled f g k).n = x.n
  | 0 => rfl
  | k + 1 => (chg_n _ _ _).trans (filled_n k)
theorem filled_away : ∀ k, (x.filled f g k).away = x.away
  | 0 => rfl
  | k + 1 => (chg_away _ _ _).trans (filled_away k)
theorem filled_fuse (h : x.fuse = none) : ∀ k, (x.filled f g k).fuse = none
  | 0 => h
  | k + 1 => chg_fuse _ _ _ (filled_fuse h k)
theorem filled_safe : ∀ k, (x.filled f g k).safe = x.safe
  | 0 => rfl
  | k + 1 => (chg_safe _ _ _).trans (filled_safe k)
theorem filled_loose : ∀ k, (x.filled f g k).loose.length ≤ x.loose.length + k
  | 0 => Nat.le_refl _
  | k + 1 => by have h1 := chg_loose (x.filled f g k) (f + k) g; have h2 := filled_loose k; show (St.chg _ _ _).loose.length ≤ _; omega
theorem filled_done : ∀ k, x.done ≤ (x.filled f g k).done ∧ (x.filled f g k).done ≤ x.done + k
  | 0 => ⟨Nat.le_refl _, Nat.le_refl _⟩
  | k + 1 => by have h1 := chg_done (x.filled f g k) (f + k) g; have h2 := filled_done k; show x.done ≤ (St.chg _ _ _).done ∧ (St.chg _ _ _).done ≤ _; omega
theorem filled_in : ∀ k p, p < k → ∀ j, j < 32 → sect (x.filled f g k).now (f + p) j = g j
  | 0, p, h, _, _ => absurd h (Nat.not_lt_zero p)
  | k + 1, p, h, j, hj => by
    show sect (St.chg _ _ _).now _ _ = _
    by_cases he : p = k
    · subst he
      exact chg_same _ _ _ _ hj
    · rw [chg_other _ _ _ _ _ hj (by omega)]
      exact filled_in k p (by omega) j hj
theorem filled_out : ∀ k q, (q < f ∨ f + k ≤ q) → ∀ j, j < 32 → sect (x.filled f g k).now q j = sect x.now q j
  | 0, _, _, _, _ => rfl
  | k + 1, q, h, j, hj => by
    show sect (St.chg _ _ _).now _ _ = _
    rw [chg_other _ _ _ _ _ hj (by omega)]
    exact filled_out k q (by omega) j hj
/-- What is full already isn't written. -/
theorem filled_full (n : Nat) (h : ∀ p, p < n → ∀ j, j < 32 → sect x.now (f + p) j = g j) : ∀ k, k ≤ n → x.filled f g k = x
  | 0, _ => rfl
  | k + 1, hk => by
    show St.chg _ _ _ = x
    rw [filled_full n h k (by omega)]
    unfold St.chg
    rw [if_pos (secS_congr (h k (by omega)))]
end
/-- All bytes of n sectors from f on. -/
theorem img_part (f m n : Nat) (g : Nat → UInt8) : imgS m (fun j => g ((f + n) * 32 + j)) = (imgS (n + m) (fun j => g (f * 32 + j))).extract (n * 32) ((n + m) * 32) := by
  have hl : (imgS (n + m) (fun j => g (f * 32 + j))).data.toList = (List.range ((n + m) * 32)).map fun j => g (f * 32 + j) := rfl
  apply ByteArray.ext
  apply Array.toList_inj.1
  rw [ByteArray.data_extract, Array.toList_extract, hl, List.extract_eq_take_drop]
  apply List.ext_getElem?
  intro j
  show ((List.range (m * 32)).map _)[j]? = _
  by_cases hj : j < m * 32
  · rw [List.getElem?_take_of_lt (by omega), List.getElem?_drop, List.getElem?_map, List.getElem?_map, List.getElem?_range hj, List.getElem?_range (by omega)]
    simp only [Option.map_some]
    congr 2
    omega
  · rw [List.getElem?_eq_none (by simpa using hj), List.getElem?_eq_none (by rw [List.length_take, List.length_drop, List.length_map, List.length_range]; omega)]
end Dk
end Go.Proofs.YtblgabdlpobbjaaGreatDoor
namespace Go.Proofs.YtblgabdlpobbjaaGreatDoor
open Go.ChangeShapes Go.WideShapes Go.ChangeAt Go.RowKit Dk

/-- Whether there are n places, one at least, from f on, among m. -/
def withinB (f n m : Int) : Bool := decide (0 ≤ f) && (decide (1 ≤ n) && decide (f ≤ m - n))
theorem zone_within (w : World) (f n m : Int) (hm : 0 ≤ m) (hm2 : m ≤ 4096) (hn : n ≤ 9223372036854775807) :
    Calls Tryz.prog 21 #[.int .i64 f, .int .i64 n, .int .i64 m] w fun e w' => e = .returned (.bool (withinB f n m)) ∧ w = w' := by
  by_cases h0 : 0 ≤ f
  · have h0' : decide (0 ≤ f) = true := decide_eq_true h0
    by_cases h1 : 1 ≤ n
    · have h1' : decide (1 ≤ n) = true := decide_eq_true h1
      have e1 : IntKind.i64.wrap (m - n) = m - n := IntWalk.i64_in _ (by omega)
      unfold withinB
      rw [h0', h1', Bool.true_and, Bool.true_and]
      go_enter Tryz.func21, Tryz.ntmps21
      go_wp2
      refine bodyPost_ret (results_tmp rfl _ _ _) rfl ?_
      exact ⟨rfl, rfl⟩
    · have h1' : decide (1 ≤ n) = false := decide_eq_false h1
      unfold withinB
      rw [h0', h1', Bool.true_and, Bool.false_and]
      go_enter Tryz.func21, Tryz.ntmps21
      go_wp2
      refine bodyPost_ret (results_tmp rfl _ _ _) rfl ?_
      exact ⟨rfl, rfl⟩
  · have h0' : decide (0 ≤ f) = false := decide_eq_false h0
    unfold withinB
    rw [h0', Bool.false_and]
    go_enter Tryz.func21, Tryz.ntmps21
    go_wp2
    refine bodyPost_ret (results_tmp rfl _ _ _) rfl ?_
    exact ⟨rfl, rfl⟩
theorem withinB_true {f n m : Int} (h0 : 0 ≤ f) (h1 : 1 ≤ n) (h2 : f + n ≤ m) : withinB f n m = true := by
  unfold withinB
  rw [decide_eq_true h0, decide_eq_true h1, decide_eq_true (by omega)]
  rfl
section
variable (K : Nat → Prop) (w : World) (D : Nat) (x : St)
theorem zone_new (h : DiskAt K w D x) (f n : Nat) (hn : 1 ≤ n) (hfn : f + n ≤ x.n) :
    Calls Tryz.prog 6 #[.pointer (some ⟨D, 0, none⟩), .int .i64 (f : Int), .int .i64 (n : Int)] w fun e w' => ∃ Z, e = .returned (.tuple #[.pointer (some ⟨Z, 0, none⟩), .int .i64 0]) ∧ w.heap.size ≤ Z ∧ w'.heap[Z]? = some (zobj D f n) ∧ Below w.heap.size w w' := by
  have HL := Lib.hid (disk_len K w D x h)
  have hnb : x.n ≤ 4096 := by obtain ⟨_, _, _, _, _, _, h⟩ := h; exact h.nb
  have hw := zone_within w f n x.n (by omega) (by omega) (by omega)
  rw [withinB_true (by omega) (by omega) (by omega)] at hw
  have HW := Lib.hid hw
  clear h hw
  generalize x.n = m at HL HW hfn
  go_enter Tryz.func6, Tryz.ntmps6
  go_wp2_with (fail)
  refine HL.out.mono ?_
  rintro e w1 ⟨rfl, rfl⟩
  go_wp2_with (fail)
  refine HW.out.mono ?_
  rintro e w1 ⟨rfl, rfl⟩
  go_wp2
  refine bodyPost_ret (results_tmp2 rfl _ _ _) rfl ?_
  exact ⟨_, rfl, Nat.le_refl _, heap_alloc_new w _, (Below.refl _ _).alloc (Nat.le_refl _) _⟩
theorem zone_new_not (h : DiskAt K w D x) (f n : Int) (hn : n ≤ 9223372036854775807) (hb : withinB f n x.n = false) :
    Calls Tryz.prog 6 #[.pointer (some ⟨D, 0, none⟩), .int .i64 f, .int .i64 n] w fun e w' => e = .returned (.tuple #[.pointer none, .int .i64 1]) ∧ w = w' := by
  have HL := Lib.hid (disk_len K w D x h)
  have hnb : x.n ≤ 4096 := by obtain ⟨_, _, _, _, _, _, h⟩ := h; exact h.nb
  have hw := zone_within w f n x.n (by omega) (by omega) hn
  rw [hb] at hw
  have HW := Lib.hid hw
  clear h hw hb
  generalize x.n = m at HL HW
  go_enter Tryz.func6, Tryz.ntmps6
  go_wp2_with (fail)
  refine HL.out.mono ?_
  rintro e w1 ⟨rfl, rfl⟩
  go_wp2_with (fail)
  refine HW.out.mono ?_
  rintro e w1 ⟨rfl, rfl⟩
  go_wp2
  refine bodyPost_ret (results_tmp2 rfl _ _ _) rfl ?_
  exact ⟨rfl, rfl⟩
end
section
variable (w : World) (Z D f n : Nat) (hz : w.heap[Z]? = some (zobj D f n))
include hz
theorem zone_len : Calls Tryz.prog 36 #[.pointer (some ⟨Z, 0, none⟩)] w fun e w' => e = .returned (.int .i64 (n : Int)) ∧ w = w' := by
  have c2 := zone_c2 hz
  clear hz
  go_enter Tryz.func36, Tryz.ntmps36
  go_wp2
  go_ret
  exact ⟨rfl, rfl⟩
theorem zone_has (p : Int) : Calls Tryz.prog 52 #[.pointer (some ⟨Z, 0, none⟩), .int .i64 p] w fun e w' => e = .returned (.bool (decide (0 ≤ p) && decide (p < (n : Int)))) ∧ w = w' := by
  have c2 := zone_c2 hz
  clear hz
  by_cases h0 : 0 ≤ p
  · have h0' : decide (0 ≤ p) = true := decide_eq_true h0
    rw [h0', Bool.true_and]
    go_enter Tryz.func52, Tryz.ntmps52
    go_wp2
    refine bodyPost_ret (results_tmp rfl _ _ _) rfl ?_
    exact ⟨rfl, rfl⟩
  · have h0' : decide (0 ≤ p) = false := decide_eq_false h0
    rw [h0', Bool.false_and]
    go_enter Tryz.func52, Tryz.ntmps52
    go_wp2
    refine bodyPost_ret (results_tmp rfl _ _ _) rfl ?_
    exact ⟨rfl, rfl⟩
theorem zone_has_in (p : Nat) (hp : p < n) : Calls Tryz.prog 52 #[.pointer (some ⟨Z, 0, none⟩), .int .i64 (p : Int)] w fun e w' => e = .returned (.bool true) ∧ w = w' := by
  have h := zone_has w Z D f n hz p
  rwa [decide_eq_true (by omega), decide_eq_true (by omega)] at h
theorem zone_has_out (p : Int) (hp : p < 0 ∨ (n : Int) ≤ p) : Calls Tryz.prog 52 #[.pointer (some ⟨Z, 0, none⟩), .int .i64 p] w fun e w' => e = .returned (.bool false) ∧ w = w' := by
  have h := zone_has w Z D f n hz p
  have e : (decide (0 ≤ p) && decide (p < (n : Int))) = false := by
    rcases hp with hp | hp
    · rw [decide_eq_false (by omega), Bool.false_and]
    · rw [decide_eq_false (p := p < (n : Int)) (by omega), Bool.and_false]
  rwa [e] at h
theorem zone_read_out (p : Int) (hp : p < 0 ∨ (n : Int) ≤ p) : Calls Tryz.prog 37 #[.pointer (some ⟨Z, 0, none⟩), .int .i64 p] w fun e w' => e = .returned (.tuple #[.string ⟨#[]⟩, .int .i64 3]) ∧ w = w' := by
  have HH := Lib.hid (zone_has_out w Z D f n hz p hp)
  clear hz
  go_enter Tryz.func37, Tryz.ntmps37
  go_wp2_with (fail)
  refine HH.out.mono ?_
  rintro e w1 ⟨rfl, rfl⟩
  go_wp2
  refine bodyPost_ret (results_tmp2 rfl _ _ _) rfl ?_
  exact ⟨rfl, rfl⟩
set_option maxRecDepth 100000 in
set_option maxHeartbeats 1600000 in
/-- Read, by what the disk says of that sector. -/
theorem zone_read_by (p : Nat) (hp : p < n) (hfn : f + n ≤ 4096) (s : ByteArray) (m : Int)
    (hr : ∀ k, Calls Tryz.prog 53 #[.pointer (some ⟨D, 0, none⟩), .int .i64 ((f + p : Nat) : Int)] (w.drewN k) fun e w' => e = .returned (.tuple #[.string s, .int .i64 m]) ∧ w.drewN k = w') :
    Calls Tryz.prog 37 #[.pointer (some ⟨Z, 0, none⟩), .int .i64 (p : Int)] w fun e w' => e = .returned (.tuple #[.string s, .int .i64 m]) ∧ ∃ k, w' = w.drewN k := by
  have HH := Lib.hid (zone_has_in w Z D f n hz p hp)
  have c0 := zone_c0 hz
  have c1 := zone_c1 hz
  have e1 : IntKind.i64.wrap ((f : Int) + (p : Int)) = ((f + p : Nat) : Int) := (IntWalk.i64_in _ (by omega)).trans (by omega)
  have HR := Lib.hid hr
  clear hz hr
  generalize ((f + p : Nat) : Int) = fp at e1 HR
  go_enter Tryz.func37, Tryz.ntmps37
  go_wp2_with (fail)
  refine HH.out.mono ?_
  rintro e w1 ⟨rfl, rfl⟩
  go_wp2_with (fail)
  go_quiet ((go_at_call 53; exact quiet_here (HR.out _)))
  go_wp2_with (fail)
  refine bodyPost_ret (results_tmp2 rfl _ _ _) rfl ?_
  exact ⟨rfl, _, rfl⟩
end
section
variable (w : World) (Z D f n : Nat) (hz : w.heap[Z]? = some (zobj D f n))
include hz
set_option maxRecDepth 100000 in
set_option maxHeartbeats 1600000 in
/-- Write, by what the disk says of that sector. -/
theorem zone_write_by (p : Nat) (hp : p < n) (hfn : f + n ≤ 4096) (q : ByteArray) (hq : q.size = 32) (R : Int → World → Prop)
    (hr : Calls Tryz.prog 91 #[.pointer (some ⟨D, 0, none⟩), .int .i64 ((f + p : Nat) : Int), .string q] w.drew fun e w' => ∃ m, e = .returned (.int .i64 m) ∧ w'.heap[Z]? = some (zobj D f n) ∧ R m w') :
    Calls Tryz.prog 71 #[.pointer (some ⟨Z, 0, none⟩), .int .i64 (p : Int), .string q] w fun e w' => ∃ m, e = .returned (.int .i64 m) ∧ R m w' := by
  have HH := Lib.hid (zone_has_in w Z D f n hz p hp)
  have c0 := zone_c0 hz
  have c1 := zone_c1 hz
  have e1 : IntKind.i64.wrap ((f : Int) + (p : Int)) = ((f + p : Nat) : Int) := (IntWalk.i64_in _ (by omega)).trans (by omega)
  have HR := Lib.hid hr
  clear hz hr
  generalize ((f + p : Nat) : Int) = fp at e1 HR
  have hq2 : (q.size : Int) = 32 := by omega
  have hq3 : ((q.size : Int) == 32) = true := by rw [hq2]; rfl
  clear hq
  go_enter Tryz.func71, Tryz.ntmps71
  go_wp2_with (fail)
  refine HH.out.mono ?_
  rintro e w1 ⟨rfl, rfl⟩
  go_wp2_with (fail)
  have c0d : w.drew.cell? ⟨Z, 0, none⟩ = some (.pointer (some ⟨D, 0, none⟩)) := c0
  have c1d : w.drew.cell? ⟨Z, 1, none⟩ = some (.int .i64 (f : Int)) := c1
  go_region_held3 (fun W : World => W.cell? ⟨Z, 0, none⟩ = some (.pointer (some ⟨D, 0, none⟩)) ∧ W.cell? ⟨Z, 1, none⟩ = some (.int .i64 (f : Int))) (first | exact ⟨c0d, c1d⟩ | assumption) (first
    | (go_at_call 91; (with_reducible refine HR.out.mono ?_); rintro e w' ⟨m, rfl, hzz, hm⟩; have hs := And.intro (zone_c0 hzz) (zone_c1 hzz)))
  go_wp2_with (fail)
  refine bodyPost_ret (results_tmp rfl _ _ _) rfl ?_
  exact ⟨m, rfl, hm⟩
end
end Go.Proofs.YtblgabdlpobbjaaGreatDoor
namespace Go.Proofs.YtblgabdlpobbjaaGreatDoor
open Go.ChangeShapes Go.WideShapes Go.ChangeAt Go.RowKit Dk

theorem strCells_secS (g : Nat → UInt8) : Lib.strCells (secS g) = secL g := by
  apply List.ext_getElem?
  intro j
  by_cases hj : j < 32
  · rw [secL_get _ _ hj]
    unfold Lib.strCells secS
    simp [hj]
  · rw [List.getElem?_eq_none (by rw [Lib.strCells_length, secS_size]; omega), List.getElem?_eq_none (by rw [secL_length]; omega)]
theorem byteOne (b : Int) : Tryz.prog.builtSlice 5 1 [(0, .int .u8 b)] = some #[.int .u8 b] := by kernel_rfl
theorem run_one (w : World) (b : UInt8) (W : World) (h : W.heap[w.heap.size]? = some (.cells #[.int .u8 (b.toNat : Int)] 5 (0, 0))) (cap : Nat) :
    (convert 40 9 (.slice (some ⟨w.heap.size, 0, none⟩) 1 cap)).run Tryz.prog W = .ok (.string ⟨#[b]⟩) W := by
  refine run_textK W _ 1 cap [b] rfl fun j u hj => ?_
  rw [Addr.add_lit, Nat.zero_add, cell_of_row _ _ _ _ _ _ h, ← hj, List.getElem?_toArray]
  rfl
theorem repeat_byte (b : UInt8) (W : World) : Calls Tryz.prog 46 #[.string ⟨#[b]⟩, .int .i64 32] W fun e w' => e = .returned (.string (secS fun _ => b)) ∧ Below W.heap.size W w' :=
  Tryz.strings_Repeat ⟨#[b]⟩ 32 W (by decide) (show 1 * 32 ≤ _ by decide)
theorem texts_ne {s q : ByteArray} (h : s ≠ q) : (s.toList == q.toList) = false := by
  rw [beq_eq_false_iff_ne, ByteArray.toList_eq, ByteArray.toList_eq]
  exact fun e => h (ByteArray.ext (Array.ext' e))
section
variable (w : World) (Z D f n : Nat) (hz : w.heap[Z]? = some (zobj D f n))
include hz
set_option maxRecDepth 100000 in
set_option maxHeartbeats 1600000 in
/-- A sector is written, unless it is so already. -/
theorem zone_change_by (p : Nat) (hp : p < n) (hfn : f + n ≤ 4096) (s q : ByteArray) (hq : q.size = 32) (R : Int → World → Prop)
    (hr : ∀ k, Calls Tryz.prog 53 #[.pointer (some ⟨D, 0, none⟩), .int .i64 ((f + p : Nat) : Int)] (w.drewN k) fun e w' => e = .returned (.tuple #[.string s, .int .i64 0]) ∧ w.drewN k = w')
    (hs : s = q → ∀ k, R 0 (w.drewN k))
    (hw : s ≠ q → ∀ k, Calls Tryz.prog 91 #[.pointer (some ⟨D, 0, none⟩), .int .i64 ((f + p : Nat) : Int), .string q] (w.drewN k).drew fun e w' => ∃ m, e = .returned (.int .i64 m) ∧ w'.heap[Z]? = some (zobj D f n) ∧ R m w') :
    Calls Tryz.prog 47 #[.pointer (some ⟨Z, 0, none⟩), .int .i64 (p : Int), .string q] w fun e w' => ∃ m, e = .returned (.int .i64 m) ∧ R m w' := by
  have HR := Lib.hid (zone_read_by w Z D f n hz p hp hfn s 0 hr)
  have HW := Lib.hid (fun (h : s ≠ q) k => zone_write_by (w.drewN k) Z D f n hz p hp hfn q hq R (hw h k))
  have HS := Lib.hid hs
  clear hz hr hw hs hq
  by_cases he : s = q
  · have he' : (s.toList == q.toList) = true := by rw [he]; exact beq_self_eq_true _
    go_enter Tryz.func47, Tryz.ntmps47
    go_wp2_with (fail)
    refine HR.out.mono ?_
    rintro e w1 ⟨rfl, k, rfl⟩
    go_wp2_with (fail)
    refine bodyPost_ret (results_tmp rfl _ _ _) rfl ?_
    exact ⟨0, rfl, HS.out he k⟩
  · have he' : (s.toList == q.toList) = false := texts_ne he
    go_enter Tryz.func47, Tryz.ntmps47
    go_wp2_with (fail)
    refine HR.out.mono ?_
    rintro e w1 ⟨rfl, k, rfl⟩
    go_wp2_with (fail)
    refine (HW.out he k).mono ?_
    rintro e w1 ⟨m, rfl, hm⟩
    go_wp2_with (fail)
    refine bodyPost_ret (results_tmp rfl _ _ _) rfl ?_
    exact ⟨m, rfl, hm⟩
set_option maxRecDepth 100000 in
set_option maxHeartbeats 1600000 in
/-- All sectors, one by one, rising; the first error ends it. -/
theorem zone_fill_by (b : UInt8) (I : Nat → World → Prop) (E : Int → World → Prop)
    (h0 : ∀ W, Below w.heap.size w W → I 0 W)
    (hI : ∀ k W, I k W → W.heap[Z]? = some (zobj D f n))
    (hs : ∀ k W, k < n → I k W → Calls Tryz.prog 47 #[.pointer (some ⟨Z, 0, none⟩), .int .i64 (k : Int), .string (secS fun _ => b)] W fun e w' => ∃ m, e = .returned (.int .i64 m) ∧ (m = 0 ∧ I (k + 1) w' ∨ m ≠ 0 ∧ E m w'))
    (hn : n ≤ 4096) :
    Calls Tryz.prog 27 #[.pointer (some ⟨Z, 0, none⟩), .int .u8 (b.toNat : Int)] w fun e w' => ∃ m, e = .returned (.int .i64 m) ∧ (m = 0 ∧ I n w' ∨ m ≠ 0 ∧ E m w') := by
  have HRP := Lib.hid (repeat_byte b)
  have HCV := Lib.hid (run_one w b (w.alloc (.cells #[.int .u8 (b.toNat : Int)] 5)) (heap_alloc_new w _) 1)
  have c2 := zone_c2 hz
  have H0 := Lib.hid h0
  have HI := Lib.hid hI
  have HS := Lib.hid hs
  clear hz h0 hI hs
  generalize (b.toNat : Int) = bi at HCV ⊢
  generalize secS (fun _ => b) = q at HRP HS
  have hcv := HCV.out
  go_enter Tryz.func27, Tryz.ntmps27
  go_wp2_with (refine Great.wpList_buildSliceTo rfl 40 5 1 #[(0, .tmp 10)] rfl _ rfl (some 11) rfl Tryz.underlying40 #[.int .u8 bi] (byteOne bi) ?_)
  refine (HRP.out _).mono ?_
  rintro e w1 ⟨rfl, b1⟩
  have hb1 : Below w.heap.size w w1 := ((Below.refl _ _).alloc (Nat.le_refl _) _).trans (b1.mono (by simp))
  have HI0 := Lib.hid (H0.out w1 hb1)
  have c3 := zone_c2 (HI.out 0 w1 HI0.out)
  clear b1 hb1 c2 hcv HCV HRP H0
  go_wp2_with (fail)
  go_loopw [18] (fun i wr => ∃ k : Nat, i = .int .i64 (k : Int) ∧ k ≤ n ∧ I k wr) (fun i _ => match i with | .int _ k => n - k.toNat | _ => 0)
  case atStart => exact ⟨0, rfl, Nat.zero_le _, HI0.out⟩
  case round =>
    clear HI0 c3
    obtain ⟨k, rfl, hkn, hi⟩ := hrel
    have HK := Lib.hid hi
    clear hi
    by_cases hlt : k < n
    · have x0 : (k : Int) < (n : Int) := by omega
      have x1 : decide ((k : Int) < (n : Int)) = true := decide_eq_true x0
      have x2 : 0 ≤ (k : Int) := by omega
      go_wp2_with (fail)
      refine (HS.out k wr hlt HK.out).mono ?_
      rintro e w2 ⟨m, rfl, ⟨rfl, h2⟩ | ⟨hm, h2⟩⟩
      · have H2 := Lib.hid h2
        clear h2 HS HI
        go_wp2_with (fail)
        exact ⟨⟨k + 1, rfl, by omega, H2.out⟩, by show n - ((k : Int) + 1).toNat < n - (k : Int).toNat; omega⟩
      · have H2 := Lib.hid h2
        have hm1 : (m == 0) = false := beq_eq_false_iff_ne.2 hm
        have HM := Lib.hid hm
        clear h2 HS HI hm
        go_wp2_with (fail)
        refine bodyPost_ret (results_tmp rfl _ _ _) rfl ?_
        exact ⟨m, rfl, .inr ⟨HM.out, H2.out⟩⟩
    · have hke : k = n := by omega
      subst hke
      have x0 : ¬ (k : Int) < (k : Int) := by omega
      have x1 : decide ((k : Int) < (k : Int)) = false := decide_eq_false x0
      clear hlt x0
      go_wp2_with (fail)
      refine bodyPost_ret (results_tmp rfl _ _ _) rfl ?_
      exact ⟨0, rfl, .inl ⟨rfl, HK.out⟩⟩
end
section
variable (w : World) (Z D f n : Nat)
end
end Go.Proofs.YtblgabdlpobbjaaGreatDoor
namespace Go.Proofs.YtblgabdlpobbjaaGreatDoor
open Go.ChangeShapes Go.WideShapes Go.ChangeAt Go.RowKit Dk

section
variable (w : World) (Z D f n : Nat) (hz : w.heap[Z]? = some (zobj D f n))
include hz
set_option maxRecDepth 100000 in
set_option maxHeartbeats 1600000 in
theorem zone_part (K : Nat → Prop) (x : St) (h : DiskAt K w D x) (hfn : f + n ≤ x.n) (p m : Nat) (hm : 1 ≤ m) (hpm : p + m ≤ n) :
    Calls Tryz.prog 44 #[.pointer (some ⟨Z, 0, none⟩), .int .i64 (p : Int), .int .i64 (m : Int)] w fun e w' => ∃ Z', e = .returned (.tuple #[.pointer (some ⟨Z', 0, none⟩), .int .i64 0]) ∧ w.heap.size ≤ Z' ∧ w'.heap[Z']? = some (zobj D (f + p) m) ∧ Below w.heap.size w w' := by
  have hnb : x.n ≤ 4096 := by obtain ⟨_, _, _, _, _, _, h⟩ := h; exact h.nb
  have hw := zone_within w p m n (by omega) (by omega) (by omega)
  rw [withinB_true (by omega) (by omega) (by omega)] at hw
  have HW := Lib.hid hw
  have HN := Lib.hid (zone_new K w.drew D x (h.drewN 1) (f + p) m hm (by omega))
  have HZ := Lib.hid hz
  have c0 := zone_c0 hz
  have c1 := zone_c1 hz
  have c2 := zone_c2 hz
  have hZ : Z < w.heap.size := (Array.getElem?_eq_some_iff.1 hz).1
  have e1 : IntKind.i64.wrap ((f : Int) + (p : Int)) = ((f + p : Nat) : Int) := (IntWalk.i64_in _ (by omega)).trans (by omega)
  clear hz h hw hfn
  generalize f + p = fp at e1 HN ⊢
  generalize (fp : Int) = fpi at e1 HN
  go_enter Tryz.func44, Tryz.ntmps44
  go_wp2_with (fail)
  refine HW.out.mono ?_
  rintro e w1 ⟨rfl, rfl⟩
  go_wp2_with (fail)
  have c0d : w.drew.cell? ⟨Z, 0, none⟩ = some (.pointer (some ⟨D, 0, none⟩)) := c0
  have c1d : w.drew.cell? ⟨Z, 1, none⟩ = some (.int .i64 (f : Int)) := c1
  go_region_held3 (fun W : World => W.cell? ⟨Z, 0, none⟩ = some (.pointer (some ⟨D, 0, none⟩)) ∧ W.cell? ⟨Z, 1, none⟩ = some (.int .i64 (f : Int))) (first | exact ⟨c0d, c1d⟩ | assumption) (first
    | (go_at_call 6; (with_reducible refine HN.out.mono ?_); rintro e w' ⟨Z', rfl, g1, g2, g3⟩; have hzz := (g3.block Z hZ).trans HZ.out; have hs := And.intro (zone_c0 hzz) (zone_c1 hzz)))
  have G2 := Lib.hid g2
  have G3 := Lib.hid g3
  clear g2 g3
  go_wp2_with (fail)
  refine bodyPost_ret (results_tmp2 rfl _ _ _) rfl ?_
  exact ⟨Z', rfl, g1, G2.out, below_undrew G3.out⟩
theorem zone_part_not (hn : n ≤ 4096) (p m : Int) (hm : m ≤ 9223372036854775807) (hb : withinB p m n = false) :
    Calls Tryz.prog 44 #[.pointer (some ⟨Z, 0, none⟩), .int .i64 p, .int .i64 m] w fun e w' => e = .returned (.tuple #[.pointer none, .int .i64 1]) ∧ w = w' := by
  have hw := zone_within w p m n (by omega) (by omega) hm
  rw [hb] at hw
  have HW := Lib.hid hw
  have c2 := zone_c2 hz
  clear hz hw hb
  go_enter Tryz.func44, Tryz.ntmps44
  go_wp2_with (fail)
  refine HW.out.mono ?_
  rintro e w1 ⟨rfl, rfl⟩
  go_wp2
  refine bodyPost_ret (results_tmp2 rfl _ _ _) rfl ?_
  exact ⟨rfl, rfl⟩
end
namespace Zn
variable {w0 w w' : World} {D : Nat} {x : St} {fs : List (Nat × Obj)}
theorem news (h : Zn w0 w D x fs) (f n : Nat) (hn : 1 ≤ n) (hfn : f + n ≤ x.n) :
    Calls Tryz.prog 6 #[.pointer (some ⟨D, 0, none⟩), .int .i64 (f : Int), .int .i64 (n : Int)] w fun e w' => ∃ Z, e = .returned (.tuple #[.pointer (some ⟨Z, 0, none⟩), .int .i64 0]) ∧ Zn w0 w' D x ((Z, zobj D f n) :: fs) := by
  refine (zone_new _ w D x h.disk f n hn hfn).mono ?_
  rintro e w' ⟨Z, rfl, h1, h2, h3⟩
  exact ⟨Z, rfl, h.add h3 h1 h2⟩
theorem part (h : Zn w0 w D x fs) {Z f n : Nat} (hz : (Z, zobj D f n) ∈ fs) (hfn : f + n ≤ x.n) (p m : Nat) (hm : 1 ≤ m) (hpm : p + m ≤ n) :
    Calls Tryz.prog 44 #[.pointer (some ⟨Z, 0, none⟩), .int .i64 (p : Int), .int .i64 (m : Int)] w fun e w' => ∃ Z', e = .returned (.tuple #[.pointer (some ⟨Z', 0, none⟩), .int .i64 0]) ∧ Zn w0 w' D x ((Z', zobj D (f + p) m) :: fs) := by
  refine (zone_part w Z D f n (h.fix _ hz) _ x h.disk hfn p m hm hpm).mono ?_
  rintro e w' ⟨Z', rfl, h1, h2, h3⟩
  exact ⟨Z', rfl, h.add h3 h1 h2⟩
theorem read (h : Zn w0 w D x fs) {Z f n : Nat} (hz : (Z, zobj D f n) ∈ fs) (ha : x.away = false) (hfn : f + n ≤ x.n) (p : Nat) (hp : p < n) :
    Calls Tryz.prog 37 #[.pointer (some ⟨Z, 0, none⟩), .int .i64 (p : Int)] w fun e w' => e = .returned (.tuple #[.string (secS (sect x.now (f + p))), .int .i64 0]) ∧ Zn w0 w' D x fs := by
  have hnb : x.n ≤ 4096 := by obtain ⟨_, _, _, _, _, _, h⟩ := h.disk; exact h.nb
  refine (zone_read_by w Z D f n (h.fix _ hz) p hp (by omega) _ 0 (fun i => disk_read _ (w.drewN i) D x (h.disk.drewN i) ha (f + p) (by omega))).mono ?_
  rintro e w' ⟨rfl, i, rfl⟩
  exact ⟨rfl, h.drewN i⟩
theorem dwrite (h : Zn w0 w D x fs) (ha : x.away = false) (hf : x.fuse = none) (hl : x.loose.length ≤ 1073741824) (hd : x.done < 4611686018427387904) (p : Nat) (hp : p < x.n) (q : ByteArray) (hq : q.size = 32) :
    Calls Tryz.prog 91 #[.pointer (some ⟨D, 0, none⟩), .int .i64 (p : Int), .string q] w fun e w' => e = .returned (.int .i64 0) ∧ Zn w0 w' D (x.burnt.put p (bs q)) fs :=
  (disk_write_ok _ w D x h.disk ha hl p hp q hq h.new (disk_burn_none _ w D x h.disk hf hd)).mono fun _ _ hs => h.says hs
theorem write (h : Zn w0 w D x fs) {Z f n : Nat} (hz : (Z, zobj D f n) ∈ fs) (ha : x.away = false) (hf : x.fuse = none) (hl : x.loose.length ≤ 1073741824) (hd : x.done < 4611686018427387904) (hfn : f + n ≤ x.n) (p : Nat) (hp : p < n) (q : ByteArray) (hq : q.size = 32) :
    Calls Tryz.prog 71 #[.pointer (some ⟨Z, 0, none⟩), .int .i64 (p : Int), .string q] w fun e w' => e = .returned (.int .i64 0) ∧ Zn w0 w' D (x.burnt.put (f + p) (bs q)) fs := by
  have hnb : x.n ≤ 4096 := by obtain ⟨_, _, _, _, _, _, h⟩ := h.disk; exact h.nb
  refine (zone_write_by w Z D f n (h.fix _ hz) p hp (by omega) q hq (fun m w' => m = 0 ∧ Zn w0 w' D (x.burnt.put (f + p) (bs q)) fs) ?_).mono ?_
  · refine ((h.drewN 1).dwrite ha hf hl hd (f + p) (by omega) q hq).mono ?_
    rintro e w' ⟨rfl, h2⟩
    exact ⟨0, rfl, h2.fix _ hz, rfl, h2⟩
  · rintro e w' ⟨m, rfl, rfl, h2⟩
    exact ⟨rfl, h2⟩
theorem change (h : Zn w0 w D x fs) {Z f n : Nat} (hz : (Z, zobj D f n) ∈ fs) (ha : x.away = false) (hf : x.fuse = none) (hl : x.loose.length ≤ 1073741824) (hd : x.done < 4611686018427387904) (hfn : f + n ≤ x.n) (p : Nat) (hp : p < n) (g : Nat → UInt8) :
    Calls Tryz.prog 47 #[.pointer (some ⟨Z, 0, none⟩), .int .i64 (p : Int), .string (secS g)] w fun e w' => e = .returned (.int .i64 0) ∧ Zn w0 w' D (x.chg (f + p) g) fs := by
  have hnb : x.n ≤ 4096 := by obtain ⟨_, _, _, _, _, _, h⟩ := h.disk; exact h.nb
  refine (zone_change_by w Z D f n (h.fix _ hz) p hp (by omega) (secS (sect x.now (f + p))) (secS g) (secS_size g) (fun m w' => m = 0 ∧ Zn w0 w' D (x.chg (f + p) g) fs)
    (fun i => disk_read _ (w.drewN i) D x (h.disk.drewN i) ha (f + p) (by omega)) (fun he k => ⟨rfl, ?_⟩) (fun he k => ?_)).mono ?_
  · have e : x.chg (f + p) g = x := by unfold St.chg; rw [if_pos he]
    rw [e]
    exact h.drewN k
  · have e : x.chg (f + p) g = x.burnt.put (f + p) (bs (secS g)) := by unfold St.chg; rw [if_neg he]
    rw [e]
    refine (((h.drewN k).drewN 1).dwrite ha hf hl hd (f + p) (by omega) (secS g) (secS_size g)).mono ?_
    rintro e w' ⟨rfl, h2⟩
    exact ⟨0, rfl, h2.fix _ hz, rfl, h2⟩
  · rintro e w' ⟨m, rfl, rfl, h2⟩
    exact ⟨rfl, h2⟩
theorem fill (h : Zn w0 w D x fs) {Z f n : Nat} (hz : (Z, zobj D f n) ∈ fs) (ha : x.away = false) (hf : x.fuse = none) (hl : x.loose.length + n ≤ 1073741824) (hd : x.done + n < 4611686018427387904) (hfn : f + n ≤ x.n) (b : UInt8) :
    Calls Tryz.prog 27 #[.pointer (some ⟨Z, 0, none⟩), .int .u8 (b.toNat : Int)] w fun e w' => e = .returned (.int .i64 0) ∧ Zn w0 w' D (x.filled f (fun _ => b) n) fs := by
  have hnb : x.n ≤ 4096 := by obtain ⟨_, _, _, _, _, _, h⟩ := h.disk; exact h.nb
  refine (zone_fill_by w Z D f n (h.fix _ hz) b (fun k W => Zn w0 W D (x.filled f (fun _ => b) k) fs) (fun _ _ => False) (fun W hW => h.step hW) (fun k W hW => hW.fix _ hz) (fun k W hk hW => ?_) (by omega)).mono ?_
  · have h1 := filled_loose x f (fun _ => b) k
    have h2 := filled_done x f (fun _ => b) k
    refine (hW.change hz ((filled_away _ _ _ _).trans ha) (filled_fuse _ _ _ hf _) (by omega) (by omega) (by rw [filled_n]; exact hfn) k hk (fun _ => b)).mono ?_
    rintro e w' ⟨rfl, h3⟩
    exact ⟨0, rfl, .inl ⟨rfl, h3⟩⟩
  · rintro e w' ⟨m, rfl, ⟨rfl, h2⟩ | ⟨_, h2⟩⟩
    · exact ⟨rfl, h2⟩
    · exact h2.elim
theorem sync (h : Zn w0 w D x fs) (ha : x.away = false) (hf : x.fuse = none) (hl : x.loose.length ≤ 1073741824) (hd : x.done < 4611686018427387904) :
    Calls Tryz.prog 49 #[.pointer (some ⟨D, 0, none⟩)] w fun e w' => e = .returned (.int .i64 0) ∧ Zn w0 w' D x.burnt.synced fs :=
  (disk_sync_ok _ w D x h.disk ha hl (disk_burn_none _ w D x h.disk hf hd)).mono fun _ _ hs => h.says hs
end Zn
end Go.Proofs.YtblgabdlpobbjaaGreatDoor
