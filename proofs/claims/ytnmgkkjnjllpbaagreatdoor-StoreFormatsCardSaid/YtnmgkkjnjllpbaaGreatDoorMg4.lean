/-
  A zone's own block, and a disk beside blocks that no call of the disk turns. No program's function here. No conditions.
  Package zone: what New, Len, Read, Write, Part answer. Conditions: the zone stands in its block, its disk in blocks of its own.
-/
import Derived.Test.YtnmgkkjnjllpbaaGreatDoorMg3
import Derived.Deep.RegionHeld3
set_option maxRecDepth 100000
namespace Go.Proofs.YtnmgkkjnjllpbaaGreatDoor
open Go.ChangeShapes Go.WideShapes Go.ChangeAt Go.RowKit Dk

/-- A zone's own block. -/
def zobj (D f n : Nat) : Obj := .cells #[.pointer (some ⟨D, 0, none⟩), .int .i64 (f : Int), .int .i64 (n : Int)] 61 (0, 0)
section
variable {w : World} {Z D f n : Nat} (hz : w.heap[Z]? = some (zobj D f n))
include hz
theorem zone_c0 : w.cell? ⟨Z, 0, none⟩ = some (.pointer (some ⟨D, 0, none⟩)) := by rw [cell_of_row w Z 0 _ _ _ hz]; rfl
theorem zone_c1 : w.cell? ⟨Z, 1, none⟩ = some (.int .i64 (f : Int)) := by rw [cell_of_row w Z 1 _ _ _ hz]; rfl
theorem zone_c2 : w.cell? ⟨Z, 2, none⟩ = some (.int .i64 (n : Int)) := by rw [cell_of_row w Z 2 _ _ _ hz]; rfl
end
theorem OwnBools.restrict {K : Nat → Prop} {w : World} {kv : Value} {kl : List Bool} (h : OwnBools K w kv kl) : OwnBools (fun i => K i ∧ i < w.heap.size) w kv kl := by
  rcases h with h | ⟨kb, c, cur, h1, h2, h3, h4, h5⟩
  · exact .inl h
  · exact .inr ⟨kb, c, cur, h1, h2, h3, h4, h5, (Array.getElem?_eq_some_iff.1 h3).1⟩
theorem FuseAt.restrict {K : Nat → Prop} {w : World} {fv : Value} : ∀ {fu : Option (Nat × List Bool)}, FuseAt K w fv fu → FuseAt (fun i => K i ∧ i < w.heap.size) w fv fu
  | none, h => h
  | some (_, _), ⟨f, kv, h1, h2, h3, h4, h5⟩ => ⟨f, kv, h1, h2, h3.restrict, h4, h5, (Array.getElem?_eq_some_iff.1 h2).1⟩
/-- A disk's blocks are there. -/
theorem DiskAt.restrict {K : Nat → Prop} {w : World} {D : Nat} {x : St} (h : DiskAt K w D x) : DiskAt (fun i => K i ∧ i < w.heap.size) w D x := by
  obtain ⟨s, cs, t, ct, lv, fv, h⟩ := h
  exact ⟨s, cs, t, ct, lv, fv, h.hd, h.sr, h.tr, h.ne, h.cs, h.ct, h.lo, h.fu.restrict, h.pl, h.nb, ⟨h.kD, h.lt⟩, ⟨h.ks, h.sr.lt⟩, ⟨h.kt, h.tr.lt⟩, fun g hg => ⟨h.kl g hg, (h.lo.lt g hg).2⟩⟩
theorem DiskAt.drewN {K : Nat → Prop} {w : World} {D : Nat} {x : St} (h : DiskAt K w D x) (k : Nat) : DiskAt K (w.drewN k) D x := h.below (below_drewN (Below.refl _ _) k)
/-- A disk of blocks that weren't there at the beginning, beside others that stay as they are; what was there at the beginning is as it was. -/
structure Zn (w0 w : World) (D : Nat) (x : St) (fs : List (Nat × Obj)) : Prop where
  disk : DiskAt (fun i => w0.heap.size ≤ i ∧ ∀ z ∈ fs, i ≠ z.1) w D x
  fix : ∀ z ∈ fs, w.heap[z.1]? = some z.2
  below : Below w0.heap.size w0 w
namespace Zn
variable {w0 w w' : World} {D : Nat} {x y : St} {fs : List (Nat × Obj)}
theorem of_at (h : At w0 w D x) : Zn w0 w D x [] := ⟨h.disk.mono fun _ hi => ⟨hi, fun z hz => (by cases hz)⟩, fun z hz => (by cases hz), h.below⟩
theorem step (h : Zn w0 w D x fs) (hb : Below w.heap.size w w') : Zn w0 w' D x fs :=
  ⟨h.disk.below hb, fun z hz => (hb.block z.1 (Array.getElem?_eq_some_iff.1 (h.fix z hz)).1).trans (h.fix z hz), h.below.trans (hb.mono h.below.size)⟩
theorem drewN (h : Zn w0 w D x fs) (k : Nat) : Zn w0 (w.drewN k) D x fs := h.step (below_drewN (Below.refl _ _) k)
theorem says (h : Zn w0 w D x fs) {v : Value} {e : Ending} (hs : DiskSays (fun i => w0.heap.size ≤ i ∧ ∀ z ∈ fs, i ≠ z.1) w D v y e w') : e = .returned v ∧ Zn w0 w' D y fs :=
  ⟨hs.1, hs.2.1, fun z hz => (hs.2.2.block z.1 (Array.getElem?_eq_some_iff.1 (h.fix z hz)).1 (fun hk => hk.2 z hz rfl)).trans (h.fix z hz),
    h.below.trans (hs.2.2.below h.below.size (fun _ hi hk => Nat.not_le.2 hi hk.1))⟩
theorem new (h : Zn w0 w D x fs) : ∀ i, w.heap.size ≤ i → w0.heap.size ≤ i ∧ ∀ z ∈ fs, i ≠ z.1 := fun i hi =>
  ⟨Nat.le_trans h.below.size hi, fun z hz e => by have := (Array.getElem?_eq_some_iff.1 (h.fix z hz)).1; omega⟩
theorem add (h : Zn w0 w D x fs) (hb : Below w.heap.size w w') {Z : Nat} {o : Obj} (hZ : w.heap.size ≤ Z) (ho : w'.heap[Z]? = some o) : Zn w0 w' D x ((Z, o) :: fs) :=
  ⟨(h.disk.restrict.mono fun i hi => ⟨hi.1.1, fun z hz => by
      rcases List.mem_cons.1 hz with rfl | hz
      · exact fun e => by have := hi.2; simp only at e; omega
      · exact hi.1.2 z hz⟩).below hb,
    fun z hz => by
      rcases List.mem_cons.1 hz with rfl | hz
      · exact ho
      · exact (hb.block z.1 (Array.getElem?_eq_some_iff.1 (h.fix z hz)).1).trans (h.fix z hz),
    h.below.trans (hb.mono h.below.size)⟩
end Zn

namespace Dk
/-- Written, unless it is so already. -/
def St.chg (x : St) (p : Nat) (g : Nat → UInt8) : St := if secS (sect x.now p) = secS g then x else x.burnt.put p (bs (secS g))
/-- The first k sectors from f on are written so. -/
def St.filled (x : St) (f : Nat) (g : Nat → UInt8) : Nat → St
  | 0 => x
  | k + 1 => (x.filled f g k).chg (f + k) g
theorem chg_n (x : St) (p : Nat) (g : Nat → UInt8) : (x.chg p g).n = x.n := by unfold St.chg; split <;> rfl
theorem chg_away (x : St) (p : Nat) (g : Nat → UInt8) : (x.chg p g).away = x.away := by unfold St.chg; split <;> rfl
theorem chg_fuse (x : St) (p : Nat) (g : Nat → UInt8) (h : x.fuse = none) : (x.chg p g).fuse = none := by
  unfold St.chg
  split
  · exact h
  · show x.fuse.map _ = none
    rw [h]
    rfl
theorem chg_safe (x : St) (p : Nat) (g : Nat → UInt8) : (x.chg p g).safe = x.safe := by unfold St.chg; split <;> rfl
theorem chg_loose (x : St) (p : Nat) (g : Nat → UInt8) : (x.chg p g).loose.length ≤ x.loose.length + 1 := by
  unfold St.chg
  split
  · omega
  · show (x.loose ++ [_]).length ≤ _
    rw [List.length_append]
    simp
theorem chg_done (x : St) (p : Nat) (g : Nat → UInt8) : x.done ≤ (x.chg p g).done ∧ (x.chg p g).done ≤ x.done + 1 := by
  unfold St.chg
  split
  · omega
  · exact ⟨Nat.le_succ _, Nat.le_refl _⟩
theorem chg_same (x : St) (p : Nat) (g : Nat → UInt8) (j : Nat) (hj : j < 32) : sect (x.chg p g).now p j = g j := by
  unfold St.chg
  split
  · rename_i h
    exact secS_inj h j hj
  · show sect (putS x.now p (bs (secS g))) p j = g j
    rw [sect_put_same _ _ _ _ hj, bs_secS g j hj]
theorem chg_other (x : St) (p q : Nat) (g : Nat → UInt8) (j : Nat) (hj : j < 32) (hne : p ≠ q) : sect (x.chg p g).now q j = sect x.now q j := by
  unfold St.chg
  split
  · rfl
  · exact sect_put_other _ _ _ _ _ hj hne
section
variable (x : St) (f : Nat) (g : Nat → UInt8)
theorem filled_n : ∀ k, (x.filled f g k).n = x.n
  | 0 => rfl
  | k + 1 => (chg_n _ _ _).trans (filled_n k)
theorem filled_away : ∀ k, (x.filled f g k).away = x.away
  | 0 => rfl
  | k + 1 => (chg_away _ _ _).trans (filled_away k)
theorem filled_fuse (h : x.fuse = none) : ∀ k, (x.filled f g k).fuse = none
  | 0 => h
  | k + 1 => chg_fuse _ _ _ (filled_fuse h k)
theorem filled_safe : ∀ k, (x.filled f g k).safe = x.safe
  | 0 => rfl
  | k + 1 => (chg_safe _ _ _).trans (filled_safe k)
theorem filled_loose : ∀ k, (x.filled f g k).loose.length ≤ x.loose.length + k
  | 0 => Nat.le_refl _
  | k + 1 => by have h1 := chg_loose (x.filled f g k) (f + k) g; have h2 := filled_loose k; show (St.chg _ _ _).loose.length ≤ _; omega
theorem filled_done : ∀ k, x.done ≤ (x.filled f g k).done ∧ (x.filled f g k).done ≤ x.done + k
  | 0 => ⟨Nat.le_refl _, Nat.le_refl _⟩
  | k + 1 => by have h1 := chg_done (x.filled f g k) (f + k) g; have h2 := filled_done k; show x.done ≤ (St.chg _ _ _).done ∧ (St.chg _ _ _).done ≤ _; omega
theorem filled_in : ∀ k p, p < k → ∀ j, j < 32 → sect (x.filled f g k).now (f + p) j = g j
  | 0, p, h, _, _ => absurd h (Nat.not_lt_zero p)
  | k + 1, p, h, j, hj => by
    show sect (St.chg _ _ _).now _ _ = _
    by_cases he : p = k
    · subst he
      exact chg_same _ _ _ _ hj
    · rw [chg_other _ _ _ _ _ hj (by omega)]
      exact filled_in k p (by omega) j hj
theorem filled_out : ∀ k q, (q < f ∨ f + k ≤ q) → ∀ j, j < 32 → sect (x.filled f g k).now q j = sect x.now q j
  | 0, _, _, _, _ => rfl
  | k + 1, q, h, j, hj => by
    show sect (St.chg _ _ _).now _ _ = _
    rw [chg_other _ _ _ _ _ hj (by omega)]
    exact filled_out k q (by omega) j hj
/-- What is full already isn't written. -/
theorem filled_full (n : Nat) (h : ∀ p, p < n → ∀ j, j < 32 → sect x.now (f + p) j = g j) : ∀ k, k ≤ n → x.filled f g k = x
  | 0, _ => rfl
  | k + 1, hk => by
    show St.chg _ _ _ = x
    rw [filled_full n h k (by omega)]
    unfold St.chg
    rw [if_pos (secS_congr (h k (by omega)))]
end
/-- All bytes of n sectors from f on. -/
theorem img_part (f m n : Nat) (g : Nat → UInt8) : imgS m (fun j => g ((f + n) * 32 + j)) = (imgS (n + m) (fun j => g (f * 32 + j))).extract (n * 32) ((n + m) * 32) := by
  have hl : (imgS (n + m) (fun j => g (f * 32 + j))).data.toList = (List.range ((n + m) * 32)).map fun j => g (f * 32 + j) := rfl
  apply ByteArray.ext
  apply Array.toList_inj.1
  rw [ByteArray.data_extract, Array.toList_extract, hl, List.extract_eq_take_drop]
  apply List.ext_getElem?
  intro j
  show ((List.range (m * 32)).map _)[j]? = _
  by_cases hj : j < m * 32
  · rw [List.getElem?_take_of_lt (by omega), List.getElem?_drop, List.getElem?_map, List.getElem?_map, List.getElem?_range hj, List.getElem?_range (by omega)]
    simp only [Option.map_some]
    congr 2
    omega
  · rw [List.getElem?_eq_none (by simpa using hj), List.getElem?_eq_none (by rw [List.length_take, List.length_drop, List.length_map, List.length_range]; omega)]
end Dk
end Go.Proofs.YtnmgkkjnjllpbaaGreatDoor
namespace Go.Proofs.YtnmgkkjnjllpbaaGreatDoor
open Go.ChangeShapes Go.WideShapes Go.ChangeAt Go.RowKit Dk

/-- Whether there are n places, one at least, from f on, among m. -/
def withinB (f n m : Int) : Bool := decide (0 ≤ f) && (decide (1 ≤ n) && decide (f ≤ m - n))
theorem zone_within (w : World) (f n m : Int) (hm : 0 ≤ m) (hm2 : m ≤ 4096) (hn : n ≤ 9223372036854775807) :
    Calls Tryz.prog 60 #[.int .i64 f, .int .i64 n, .int .i64 m] w fun e w' => e = .returned (.bool (withinB f n m)) ∧ w = w' := by
  by_cases h0 : 0 ≤ f
  · have h0' : decide (0 ≤ f) = true := decide_eq_true h0
    by_cases h1 : 1 ≤ n
    · have h1' : decide (1 ≤ n) = true := decide_eq_true h1
      have e1 : IntKind.i64.wrap (m - n) = m - n := IntWalk.i64_in _ (by omega)
      unfold withinB
      rw [h0', h1', Bool.true_and, Bool.true_and]
      go_enter Tryz.func60, Tryz.ntmps60
      go_wp2
      refine bodyPost_ret (results_tmp rfl _ _ _) rfl ?_
      exact ⟨rfl, rfl⟩
    · have h1' : decide (1 ≤ n) = false := decide_eq_false h1
      unfold withinB
      rw [h0', h1', Bool.true_and, Bool.false_and]
      go_enter Tryz.func60, Tryz.ntmps60
      go_wp2
      refine bodyPost_ret (results_tmp rfl _ _ _) rfl ?_
      exact ⟨rfl, rfl⟩
  · have h0' : decide (0 ≤ f) = false := decide_eq_false h0
    unfold withinB
    rw [h0', Bool.false_and]
    go_enter Tryz.func60, Tryz.ntmps60
    go_wp2
    refine bodyPost_ret (results_tmp rfl _ _ _) rfl ?_
    exact ⟨rfl, rfl⟩
theorem withinB_true {f n m : Int} (h0 : 0 ≤ f) (h1 : 1 ≤ n) (h2 : f + n ≤ m) : withinB f n m = true := by
  unfold withinB
  rw [decide_eq_true h0, decide_eq_true h1, decide_eq_true (by omega)]
  rfl
section
variable (K : Nat → Prop) (w : World) (D : Nat) (x : St)
theorem zone_new (h : DiskAt K w D x) (f n : Nat) (hn : 1 ≤ n) (hfn : f + n ≤ x.n) :
    Calls Tryz.prog 35 #[.pointer (some ⟨D, 0, none⟩), .int .i64 (f : Int), .int .i64 (n : Int)] w fun e w' => ∃ Z, e = .returned (.tuple #[.pointer (some ⟨Z, 0, none⟩), .int .i64 0]) ∧ w.heap.size ≤ Z ∧ w'.heap[Z]? = some (zobj D f n) ∧ Below w.heap.size w w' := by
  have HL := Lib.hid (disk_len K w D x h)
  have hnb : x.n ≤ 4096 := by obtain ⟨_, _, _, _, _, _, h⟩ := h; exact h.nb
  have hw := zone_within w f n x.n (by omega) (by omega) (by omega)
  rw [withinB_true (by omega) (by omega) (by omega)] at hw
  have HW := Lib.hid hw
  clear h hw
  generalize x.n = m at HL HW hfn
  go_enter Tryz.func35, Tryz.ntmps35
  go_wp2_with (fail)
  refine HL.out.mono ?_
  rintro e w1 ⟨rfl, rfl⟩
  go_wp2_with (fail)
  refine HW.out.mono ?_
  rintro e w1 ⟨rfl, rfl⟩
  go_wp2
  refine bodyPost_ret (results_tmp2 rfl _ _ _) rfl ?_
  exact ⟨_, rfl, Nat.le_refl _, heap_alloc_new w _, (Below.refl _ _).alloc (Nat.le_refl _) _⟩
theorem zone_new_not (h : DiskAt K w D x) (f n : Int) (hn : n ≤ 9223372036854775807) (hb : withinB f n x.n = false) :
    Calls Tryz.prog 35 #[.pointer (some ⟨D, 0, none⟩), .int .i64 f, .int .i64 n] w fun e w' => e = .returned (.tuple #[.pointer none, .int .i64 1]) ∧ w = w' := by
  have HL := Lib.hid (disk_len K w D x h)
  have hnb : x.n ≤ 4096 := by obtain ⟨_, _, _, _, _, _, h⟩ := h; exact h.nb
  have hw := zone_within w f n x.n (by omega) (by omega) hn
  rw [hb] at hw
  have HW := Lib.hid hw
  clear h hw hb
  generalize x.n = m at HL HW
  go_enter Tryz.func35, Tryz.ntmps35
  go_wp2_with (fail)
  refine HL.out.mono ?_
  rintro e w1 ⟨rfl, rfl⟩
  go_wp2_with (fail)
  refine HW.out.mono ?_
  rintro e w1 ⟨rfl, rfl⟩
  go_wp2
  refine bodyPost_ret (results_tmp2 rfl _ _ _) rfl ?_
  exact ⟨rfl, rfl⟩
end
section
variable (w : World) (Z D f n : Nat) (hz : w.heap[Z]? = some (zobj D f n))
include hz
theorem zone_len : Calls Tryz.prog 68 #[.pointer (some ⟨Z, 0, none⟩)] w fun e w' => e = .returned (.int .i64 (n : Int)) ∧ w = w' := by
  have c2 := zone_c2 hz
  clear hz
  go_enter Tryz.func68, Tryz.ntmps68
  go_wp2
  go_ret
  exact ⟨rfl, rfl⟩
theorem zone_has (p : Int) : Calls Tryz.prog 90 #[.pointer (some ⟨Z, 0, none⟩), .int .i64 p] w fun e w' => e = .returned (.bool (decide (0 ≤ p) && decide (p < (n : Int)))) ∧ w = w' := by
  have c2 := zone_c2 hz
  clear hz
  by_cases h0 : 0 ≤ p
  · have h0' : decide (0 ≤ p) = true := decide_eq_true h0
    rw [h0', Bool.true_and]
    go_enter Tryz.func90, Tryz.ntmps90
    go_wp2
    refine bodyPost_ret (results_tmp rfl _ _ _) rfl ?_
    exact ⟨rfl, rfl⟩
  · have h0' : decide (0 ≤ p) = false := decide_eq_false h0
    rw [h0', Bool.false_and]
    go_enter Tryz.func90, Tryz.ntmps90
    go_wp2
    refine bodyPost_ret (results_tmp rfl _ _ _) rfl ?_
    exact ⟨rfl, rfl⟩
theorem zone_has_in (p : Nat) (hp : p < n) : Calls Tryz.prog 90 #[.pointer (some ⟨Z, 0, none⟩), .int .i64 (p : Int)] w fun e w' => e = .returned (.bool true) ∧ w = w' := by
  have h := zone_has w Z D f n hz p
  rwa [decide_eq_true (by omega), decide_eq_true (by omega)] at h
theorem zone_has_out (p : Int) (hp : p < 0 ∨ (n : Int) ≤ p) : Calls Tryz.prog 90 #[.pointer (some ⟨Z, 0, none⟩), .int .i64 p] w fun e w' => e = .returned (.bool false) ∧ w = w' := by
  have h := zone_has w Z D f n hz p
  have e : (decide (0 ≤ p) && decide (p < (n : Int))) = false := by
    rcases hp with hp | hp
    · rw [decide_eq_false (by omega), Bool.false_and]
    · rw [decide_eq_false (p := p < (n : Int)) (by omega), Bool.and_false]
  rwa [e] at h
theorem zone_read_out (p : Int) (hp : p < 0 ∨ (n : Int) ≤ p) : Calls Tryz.prog 77 #[.pointer (some ⟨Z, 0, none⟩), .int .i64 p] w fun e w' => e = .returned (.tuple #[.string ⟨#[]⟩, .int .i64 3]) ∧ w = w' := by
  have HH := Lib.hid (zone_has_out w Z D f n hz p hp)
  clear hz
  go_enter Tryz.func77, Tryz.ntmps77
  go_wp2_with (fail)
  refine HH.out.mono ?_
  rintro e w1 ⟨rfl, rfl⟩
  go_wp2
  refine bodyPost_ret (results_tmp2 rfl _ _ _) rfl ?_
  exact ⟨rfl, rfl⟩
set_option maxRecDepth 100000 in
set_option maxHeartbeats 1600000 in
/-- Read, by what the disk says of that sector. -/
theorem zone_read_by (p : Nat) (hp : p < n) (hfn : f + n ≤ 4096) (s : ByteArray) (m : Int)
    (hr : ∀ k, Calls Tryz.prog 102 #[.pointer (some ⟨D, 0, none⟩), .int .i64 ((f + p : Nat) : Int)] (w.drewN k) fun e w' => e = .returned (.tuple #[.string s, .int .i64 m]) ∧ w.drewN k = w') :
    Calls Tryz.prog 77 #[.pointer (some ⟨Z, 0, none⟩), .int .i64 (p : Int)] w fun e w' => e = .returned (.tuple #[.string s, .int .i64 m]) ∧ ∃ k, w' = w.drewN k := by
  have HH := Lib.hid (zone_has_in w Z D f n hz p hp)
  have c0 := zone_c0 hz
  have c1 := zone_c1 hz
  have e1 : IntKind.i64.wrap ((f : Int) + (p : Int)) = ((f + p : Nat) : Int) := (IntWalk.i64_in _ (by omega)).trans (by omega)
  have HR := Lib.hid hr
  clear hz hr
  generalize ((f + p : Nat) : Int) = fp at e1 HR
  go_enter Tryz.func77, Tryz.ntmps77
  go_wp2_with (fail)
  refine HH.out.mono ?_
  rintro e w1 ⟨rfl, rfl⟩
  go_wp2_with (fail)
  go_quiet ((go_at_call 102; exact quiet_here (HR.out _)))
  go_wp2_with (fail)
  refine bodyPost_ret (results_tmp2 rfl _ _ _) rfl ?_
  exact ⟨rfl, _, rfl⟩
end
section
variable (w : World) (Z D f n : Nat) (hz : w.heap[Z]? = some (zobj D f n))
include hz
set_option maxRecDepth 100000 in
set_option maxHeartbeats 1600000 in
/-- Write, by what the disk says of that sector. -/
theorem zone_write_by (p : Nat) (hp : p < n) (hfn : f + n ≤ 4096) (q : ByteArray) (hq : q.size = 32) (R : Int → World → Prop)
    (hr : Calls Tryz.prog 91 #[.pointer (some ⟨D, 0, none⟩), .int .i64 ((f + p : Nat) : Int), .string q] w.drew fun e w' => ∃ m, e = .returned (.int .i64 m) ∧ w'.heap[Z]? = some (zobj D f n) ∧ R m w') :
    Calls Tryz.prog 69 #[.pointer (some ⟨Z, 0, none⟩), .int .i64 (p : Int), .string q] w fun e w' => ∃ m, e = .returned (.int .i64 m) ∧ R m w' := by
  have HH := Lib.hid (zone_has_in w Z D f n hz p hp)
  have c0 := zone_c0 hz
  have c1 := zone_c1 hz
  have e1 : IntKind.i64.wrap ((f : Int) + (p : Int)) = ((f + p : Nat) : Int) := (IntWalk.i64_in _ (by omega)).trans (by omega)
  have HR := Lib.hid hr
  clear hz hr
  generalize ((f + p : Nat) : Int) = fp at e1 HR
  have hq2 : (q.size : Int) = 32 := by omega
  have hq3 : ((q.size : Int) == 32) = true := by rw [hq2]; rfl
  clear hq
  go_enter Tryz.func69, Tryz.ntmps69
  go_wp2_with (fail)
  refine HH.out.mono ?_
  rintro e w1 ⟨rfl, rfl⟩
  go_wp2_with (fail)
  have c0d : w.drew.cell? ⟨Z, 0, none⟩ = some (.pointer (some ⟨D, 0, none⟩)) := c0
  have c1d : w.drew.cell? ⟨Z, 1, none⟩ = some (.int .i64 (f : Int)) := c1
  go_region_held3 (fun W : World => W.cell? ⟨Z, 0, none⟩ = some (.pointer (some ⟨D, 0, none⟩)) ∧ W.cell? ⟨Z, 1, none⟩ = some (.int .i64 (f : Int))) (first | exact ⟨c0d, c1d⟩ | assumption) (first
    | (go_at_call 91; (with_reducible refine HR.out.mono ?_); rintro e w' ⟨m, rfl, hzz, hm⟩; have hs := And.intro (zone_c0 hzz) (zone_c1 hzz)))
  go_wp2_with (fail)
  refine bodyPost_ret (results_tmp rfl _ _ _) rfl ?_
  exact ⟨m, rfl, hm⟩
end
end Go.Proofs.YtnmgkkjnjllpbaaGreatDoor
