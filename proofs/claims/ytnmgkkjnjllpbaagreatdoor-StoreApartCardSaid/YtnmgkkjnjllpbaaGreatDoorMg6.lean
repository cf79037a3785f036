/-
  Package zone: what change, Fill, All and Part answer. Conditions: the zone stands in its block, its disk in blocks of its own.
  Package zone: Part; and all calls of a zone over a disk without a fuse, whose power is there. Conditions: the zone stands in its block, its disk in blocks of its own; few writes.
  A disk beside blocks that stay: some are forgotten; one is written anew. No program's function here. No conditions.
-/
import Derived.Test.YtnmgkkjnjllpbaaGreatDoorMg4
import Derived.Test.YtnmgkkjnjllpbaaGreatDoorMg5
import Derived.Great.BuildSlice
import Derived.Lib.AppendStr
set_option maxRecDepth 100000
namespace Go.Proofs.YtnmgkkjnjllpbaaGreatDoor
open Go.ChangeShapes Go.WideShapes Go.ChangeAt Go.RowKit Dk

theorem strCells_secS (g : Nat → UInt8) : Lib.strCells (secS g) = secL g := by
  apply List.ext_getElem?
  intro j
  by_cases hj : j < 32
  · rw [secL_get _ _ hj]
    unfold Lib.strCells secS
    simp [hj]
  · rw [List.getElem?_eq_none (by rw [Lib.strCells_length, secS_size]; omega), List.getElem?_eq_none (by rw [secL_length]; omega)]
theorem byteOne (b : Int) : Tryz.prog.builtSlice 5 1 [(0, .int .u8 b)] = some #[.int .u8 b] := by kernel_rfl
theorem run_one (w : World) (b : UInt8) (W : World) (h : W.heap[w.heap.size]? = some (.cells #[.int .u8 (b.toNat : Int)] 5 (0, 0))) (cap : Nat) :
    (convert 40 9 (.slice (some ⟨w.heap.size, 0, none⟩) 1 cap)).run Tryz.prog W = .ok (.string ⟨#[b]⟩) W := by
  refine run_textK W _ 1 cap [b] rfl fun j u hj => ?_
  rw [Addr.add_lit, Nat.zero_add, cell_of_row _ _ _ _ _ _ h, ← hj, List.getElem?_toArray]
  rfl
theorem repeat_byte (b : UInt8) (W : World) : Calls Tryz.prog 62 #[.string ⟨#[b]⟩, .int .i64 32] W fun e w' => e = .returned (.string (secS fun _ => b)) ∧ Below W.heap.size W w' :=
  Tryz.strings_Repeat ⟨#[b]⟩ 32 W (by decide) (show 1 * 32 ≤ _ by decide)
theorem texts_ne {s q : ByteArray} (h : s ≠ q) : (s.toList == q.toList) = false := by
  rw [beq_eq_false_iff_ne, ByteArray.toList_eq, ByteArray.toList_eq]
  exact fun e => h (ByteArray.ext (Array.ext' e))
section
variable (w : World) (Z D f n : Nat) (hz : w.heap[Z]? = some (zobj D f n))
include hz
set_option maxRecDepth 100000 in
set_option maxHeartbeats 1600000 in
/-- A sector is written, unless it is so already. -/
theorem zone_change_by (p : Nat) (hp : p < n) (hfn : f + n ≤ 4096) (s q : ByteArray) (hq : q.size = 32) (R : Int → World → Prop)
    (hr : ∀ k, Calls Tryz.prog 102 #[.pointer (some ⟨D, 0, none⟩), .int .i64 ((f + p : Nat) : Int)] (w.drewN k) fun e w' => e = .returned (.tuple #[.string s, .int .i64 0]) ∧ w.drewN k = w')
    (hs : s = q → ∀ k, R 0 (w.drewN k))
    (hw : s ≠ q → ∀ k, Calls Tryz.prog 91 #[.pointer (some ⟨D, 0, none⟩), .int .i64 ((f + p : Nat) : Int), .string q] (w.drewN k).drew fun e w' => ∃ m, e = .returned (.int .i64 m) ∧ w'.heap[Z]? = some (zobj D f n) ∧ R m w') :
    Calls Tryz.prog 63 #[.pointer (some ⟨Z, 0, none⟩), .int .i64 (p : Int), .string q] w fun e w' => ∃ m, e = .returned (.int .i64 m) ∧ R m w' := by
  have HR := Lib.hid (zone_read_by w Z D f n hz p hp hfn s 0 hr)
  have HW := Lib.hid (fun (h : s ≠ q) k => zone_write_by (w.drewN k) Z D f n hz p hp hfn q hq R (hw h k))
  have HS := Lib.hid hs
  clear hz hr hw hs hq
  by_cases he : s = q
  · have he' : (s.toList == q.toList) = true := by rw [he]; exact beq_self_eq_true _
    go_enter Tryz.func63, Tryz.ntmps63
    go_wp2_with (fail)
    refine HR.out.mono ?_
    rintro e w1 ⟨rfl, k, rfl⟩
    go_wp2_with (fail)
    refine bodyPost_ret (results_tmp rfl _ _ _) rfl ?_
    exact ⟨0, rfl, HS.out he k⟩
  · have he' : (s.toList == q.toList) = false := texts_ne he
    go_enter Tryz.func63, Tryz.ntmps63
    go_wp2_with (fail)
    refine HR.out.mono ?_
    rintro e w1 ⟨rfl, k, rfl⟩
    go_wp2_with (fail)
    refine (HW.out he k).mono ?_
    rintro e w1 ⟨m, rfl, hm⟩
    go_wp2_with (fail)
    refine bodyPost_ret (results_tmp rfl _ _ _) rfl ?_
    exact ⟨m, rfl, hm⟩
set_option maxRecDepth 100000 in
set_option maxHeartbeats 1600000 in
/-- All sectors, one by one, rising; the first error ends it. -/
theorem zone_fill_by (b : UInt8) (I : Nat → World → Prop) (E : Int → World → Prop)
    (h0 : ∀ W, Below w.heap.size w W → I 0 W)
    (hI : ∀ k W, I k W → W.heap[Z]? = some (zobj D f n))
    (hs : ∀ k W, k < n → I k W → Calls Tryz.prog 63 #[.pointer (some ⟨Z, 0, none⟩), .int .i64 (k : Int), .string (secS fun _ => b)] W fun e w' => ∃ m, e = .returned (.int .i64 m) ∧ (m = 0 ∧ I (k + 1) w' ∨ m ≠ 0 ∧ E m w'))
    (hn : n ≤ 4096) :
    Calls Tryz.prog 37 #[.pointer (some ⟨Z, 0, none⟩), .int .u8 (b.toNat : Int)] w fun e w' => ∃ m, e = .returned (.int .i64 m) ∧ (m = 0 ∧ I n w' ∨ m ≠ 0 ∧ E m w') := by
  have HRP := Lib.hid (repeat_byte b)
  have HCV := Lib.hid (run_one w b (w.alloc (.cells #[.int .u8 (b.toNat : Int)] 5)) (heap_alloc_new w _) 1)
  have c2 := zone_c2 hz
  have H0 := Lib.hid h0
  have HI := Lib.hid hI
  have HS := Lib.hid hs
  clear hz h0 hI hs
  generalize (b.toNat : Int) = bi at HCV ⊢
  generalize secS (fun _ => b) = q at HRP HS
  have hcv := HCV.out
  go_enter Tryz.func37, Tryz.ntmps37
  go_wp2_with (refine Great.wpList_buildSliceTo rfl 40 5 1 #[(0, .tmp 10)] rfl _ rfl (some 11) rfl Tryz.underlying40 #[.int .u8 bi] (byteOne bi) ?_)
  refine (HRP.out _).mono ?_
  rintro e w1 ⟨rfl, b1⟩
  have hb1 : Below w.heap.size w w1 := ((Below.refl _ _).alloc (Nat.le_refl _) _).trans (b1.mono (by simp))
  have HI0 := Lib.hid (H0.out w1 hb1)
  have c3 := zone_c2 (HI.out 0 w1 HI0.out)
  clear b1 hb1 c2 hcv HCV HRP H0
  go_wp2_with (fail)
  go_loopw [18] (fun i wr => ∃ k : Nat, i = .int .i64 (k : Int) ∧ k ≤ n ∧ I k wr) (fun i _ => match i with | .int _ k => n - k.toNat | _ => 0)
  case atStart => exact ⟨0, rfl, Nat.zero_le _, HI0.out⟩
  case round =>
    clear HI0 c3
    obtain ⟨k, rfl, hkn, hi⟩ := hrel
    have HK := Lib.hid hi
    clear hi
    by_cases hlt : k < n
    · have x0 : (k : Int) < (n : Int) := by omega
      have x1 : decide ((k : Int) < (n : Int)) = true := decide_eq_true x0
      have x2 : 0 ≤ (k : Int) := by omega
      go_wp2_with (fail)
      refine (HS.out k wr hlt HK.out).mono ?_
      rintro e w2 ⟨m, rfl, ⟨rfl, h2⟩ | ⟨hm, h2⟩⟩
      · have H2 := Lib.hid h2
        clear h2 HS HI
        go_wp2_with (fail)
        exact ⟨⟨k + 1, rfl, by omega, H2.out⟩, by show n - ((k : Int) + 1).toNat < n - (k : Int).toNat; omega⟩
      · have H2 := Lib.hid h2
        have hm1 : (m == 0) = false := beq_eq_false_iff_ne.2 hm
        have HM := Lib.hid hm
        clear h2 HS HI hm
        go_wp2_with (fail)
        refine bodyPost_ret (results_tmp rfl _ _ _) rfl ?_
        exact ⟨m, rfl, .inr ⟨HM.out, H2.out⟩⟩
    · have hke : k = n := by omega
      subst hke
      have x0 : ¬ (k : Int) < (k : Int) := by omega
      have x1 : decide ((k : Int) < (k : Int)) = false := decide_eq_false x0
      clear hlt x0
      go_wp2_with (fail)
      refine bodyPost_ret (results_tmp rfl _ _ _) rfl ?_
      exact ⟨0, rfl, .inl ⟨rfl, HK.out⟩⟩
end
section
variable (w : World) (Z D f n : Nat)
end
end Go.Proofs.YtnmgkkjnjllpbaaGreatDoor
namespace Go.Proofs.YtnmgkkjnjllpbaaGreatDoor
open Go.ChangeShapes Go.WideShapes Go.ChangeAt Go.RowKit Dk

section
variable (w : World) (Z D f n : Nat) (hz : w.heap[Z]? = some (zobj D f n))
include hz
set_option maxRecDepth 100000 in
set_option maxHeartbeats 1600000 in
theorem zone_part (K : Nat → Prop) (x : St) (h : DiskAt K w D x) (hfn : f + n ≤ x.n) (p m : Nat) (hm : 1 ≤ m) (hpm : p + m ≤ n) :
    Calls Tryz.prog 66 #[.pointer (some ⟨Z, 0, none⟩), .int .i64 (p : Int), .int .i64 (m : Int)] w fun e w' => ∃ Z', e = .returned (.tuple #[.pointer (some ⟨Z', 0, none⟩), .int .i64 0]) ∧ w.heap.size ≤ Z' ∧ w'.heap[Z']? = some (zobj D (f + p) m) ∧ Below w.heap.size w w' := by
  have hnb : x.n ≤ 4096 := by obtain ⟨_, _, _, _, _, _, h⟩ := h; exact h.nb
  have hw := zone_within w p m n (by omega) (by omega) (by omega)
  rw [withinB_true (by omega) (by omega) (by omega)] at hw
  have HW := Lib.hid hw
  have HN := Lib.hid (zone_new K w.drew D x (h.drewN 1) (f + p) m hm (by omega))
  have HZ := Lib.hid hz
  have c0 := zone_c0 hz
  have c1 := zone_c1 hz
  have c2 := zone_c2 hz
  have hZ : Z < w.heap.size := (Array.getElem?_eq_some_iff.1 hz).1
  have e1 : IntKind.i64.wrap ((f : Int) + (p : Int)) = ((f + p : Nat) : Int) := (IntWalk.i64_in _ (by omega)).trans (by omega)
  clear hz h hw hfn
  generalize f + p = fp at e1 HN ⊢
  generalize (fp : Int) = fpi at e1 HN
  go_enter Tryz.func66, Tryz.ntmps66
  go_wp2_with (fail)
  refine HW.out.mono ?_
  rintro e w1 ⟨rfl, rfl⟩
  go_wp2_with (fail)
  have c0d : w.drew.cell? ⟨Z, 0, none⟩ = some (.pointer (some ⟨D, 0, none⟩)) := c0
  have c1d : w.drew.cell? ⟨Z, 1, none⟩ = some (.int .i64 (f : Int)) := c1
  go_region_held3 (fun W : World => W.cell? ⟨Z, 0, none⟩ = some (.pointer (some ⟨D, 0, none⟩)) ∧ W.cell? ⟨Z, 1, none⟩ = some (.int .i64 (f : Int))) (first | exact ⟨c0d, c1d⟩ | assumption) (first
    | (go_at_call 35; (with_reducible refine HN.out.mono ?_); rintro e w' ⟨Z', rfl, g1, g2, g3⟩; have hzz := (g3.block Z hZ).trans HZ.out; have hs := And.intro (zone_c0 hzz) (zone_c1 hzz)))
  have G2 := Lib.hid g2
  have G3 := Lib.hid g3
  clear g2 g3
  go_wp2_with (fail)
  refine bodyPost_ret (results_tmp2 rfl _ _ _) rfl ?_
  exact ⟨Z', rfl, g1, G2.out, below_undrew G3.out⟩
theorem zone_part_not (hn : n ≤ 4096) (p m : Int) (hm : m ≤ 9223372036854775807) (hb : withinB p m n = false) :
    Calls Tryz.prog 66 #[.pointer (some ⟨Z, 0, none⟩), .int .i64 p, .int .i64 m] w fun e w' => e = .returned (.tuple #[.pointer none, .int .i64 1]) ∧ w = w' := by
  have hw := zone_within w p m n (by omega) (by omega) hm
  rw [hb] at hw
  have HW := Lib.hid hw
  have c2 := zone_c2 hz
  clear hz hw hb
  go_enter Tryz.func66, Tryz.ntmps66
  go_wp2_with (fail)
  refine HW.out.mono ?_
  rintro e w1 ⟨rfl, rfl⟩
  go_wp2
  refine bodyPost_ret (results_tmp2 rfl _ _ _) rfl ?_
  exact ⟨rfl, rfl⟩
end
namespace Zn
variable {w0 w w' : World} {D : Nat} {x : St} {fs : List (Nat × Obj)}
theorem news (h : Zn w0 w D x fs) (f n : Nat) (hn : 1 ≤ n) (hfn : f + n ≤ x.n) :
    Calls Tryz.prog 35 #[.pointer (some ⟨D, 0, none⟩), .int .i64 (f : Int), .int .i64 (n : Int)] w fun e w' => ∃ Z, e = .returned (.tuple #[.pointer (some ⟨Z, 0, none⟩), .int .i64 0]) ∧ Zn w0 w' D x ((Z, zobj D f n) :: fs) := by
  refine (zone_new _ w D x h.disk f n hn hfn).mono ?_
  rintro e w' ⟨Z, rfl, h1, h2, h3⟩
  exact ⟨Z, rfl, h.add h3 h1 h2⟩
theorem part (h : Zn w0 w D x fs) {Z f n : Nat} (hz : (Z, zobj D f n) ∈ fs) (hfn : f + n ≤ x.n) (p m : Nat) (hm : 1 ≤ m) (hpm : p + m ≤ n) :
    Calls Tryz.prog 66 #[.pointer (some ⟨Z, 0, none⟩), .int .i64 (p : Int), .int .i64 (m : Int)] w fun e w' => ∃ Z', e = .returned (.tuple #[.pointer (some ⟨Z', 0, none⟩), .int .i64 0]) ∧ Zn w0 w' D x ((Z', zobj D (f + p) m) :: fs) := by
  refine (zone_part w Z D f n (h.fix _ hz) _ x h.disk hfn p m hm hpm).mono ?_
  rintro e w' ⟨Z', rfl, h1, h2, h3⟩
  exact ⟨Z', rfl, h.add h3 h1 h2⟩
theorem read (h : Zn w0 w D x fs) {Z f n : Nat} (hz : (Z, zobj D f n) ∈ fs) (ha : x.away = false) (hfn : f + n ≤ x.n) (p : Nat) (hp : p < n) :
    Calls Tryz.prog 77 #[.pointer (some ⟨Z, 0, none⟩), .int .i64 (p : Int)] w fun e w' => e = .returned (.tuple #[.string (secS (sect x.now (f + p))), .int .i64 0]) ∧ Zn w0 w' D x fs := by
  have hnb : x.n ≤ 4096 := by obtain ⟨_, _, _, _, _, _, h⟩ := h.disk; exact h.nb
  refine (zone_read_by w Z D f n (h.fix _ hz) p hp (by omega) _ 0 (fun i => disk_read _ (w.drewN i) D x (h.disk.drewN i) ha (f + p) (by omega))).mono ?_
  rintro e w' ⟨rfl, i, rfl⟩
  exact ⟨rfl, h.drewN i⟩
theorem dwrite (h : Zn w0 w D x fs) (ha : x.away = false) (hf : x.fuse = none) (hl : x.loose.length ≤ 1073741824) (hd : x.done < 4611686018427387904) (p : Nat) (hp : p < x.n) (q : ByteArray) (hq : q.size = 32) :
    Calls Tryz.prog 91 #[.pointer (some ⟨D, 0, none⟩), .int .i64 (p : Int), .string q] w fun e w' => e = .returned (.int .i64 0) ∧ Zn w0 w' D (x.burnt.put p (bs q)) fs :=
  (disk_write_ok _ w D x h.disk ha hl p hp q hq h.new (disk_burn_none _ w D x h.disk hf hd)).mono fun _ _ hs => h.says hs
theorem write (h : Zn w0 w D x fs) {Z f n : Nat} (hz : (Z, zobj D f n) ∈ fs) (ha : x.away = false) (hf : x.fuse = none) (hl : x.loose.length ≤ 1073741824) (hd : x.done < 4611686018427387904) (hfn : f + n ≤ x.n) (p : Nat) (hp : p < n) (q : ByteArray) (hq : q.size = 32) :
    Calls Tryz.prog 69 #[.pointer (some ⟨Z, 0, none⟩), .int .i64 (p : Int), .string q] w fun e w' => e = .returned (.int .i64 0) ∧ Zn w0 w' D (x.burnt.put (f + p) (bs q)) fs := by
  have hnb : x.n ≤ 4096 := by obtain ⟨_, _, _, _, _, _, h⟩ := h.disk; exact h.nb
  refine (zone_write_by w Z D f n (h.fix _ hz) p hp (by omega) q hq (fun m w' => m = 0 ∧ Zn w0 w' D (x.burnt.put (f + p) (bs q)) fs) ?_).mono ?_
  · refine ((h.drewN 1).dwrite ha hf hl hd (f + p) (by omega) q hq).mono ?_
    rintro e w' ⟨rfl, h2⟩
    exact ⟨0, rfl, h2.fix _ hz, rfl, h2⟩
  · rintro e w' ⟨m, rfl, rfl, h2⟩
    exact ⟨rfl, h2⟩
theorem change (h : Zn w0 w D x fs) {Z f n : Nat} (hz : (Z, zobj D f n) ∈ fs) (ha : x.away = false) (hf : x.fuse = none) (hl : x.loose.length ≤ 1073741824) (hd : x.done < 4611686018427387904) (hfn : f + n ≤ x.n) (p : Nat) (hp : p < n) (g : Nat → UInt8) :
    Calls Tryz.prog 63 #[.pointer (some ⟨Z, 0, none⟩), .int .i64 (p : Int), .string (secS g)] w fun e w' => e = .returned (.int .i64 0) ∧ Zn w0 w' D (x.chg (f + p) g) fs := by
  have hnb : x.n ≤ 4096 := by obtain ⟨_, _, _, _, _, _, h⟩ := h.disk; exact h.nb
  refine (zone_change_by w Z D f n (h.fix _ hz) p hp (by omega) (secS (sect x.now (f + p))) (secS g) (secS_size g) (fun m w' => m = 0 ∧ Zn w0 w' D (x.chg (f + p) g) fs)
    (fun i => disk_read _ (w.drewN i) D x (h.disk.drewN i) ha (f + p) (by omega)) (fun he k => ⟨rfl, ?_⟩) (fun he k => ?_)).mono ?_
  · have e : x.chg (f + p) g = x := by unfold St.chg; rw [if_pos he]
    rw [e]
    exact h.drewN k
  · have e : x.chg (f + p) g = x.burnt.put (f + p) (bs (secS g)) := by unfold St.chg; rw [if_neg he]
    rw [e]
    refine (((h.drewN k).drewN 1).dwrite ha hf hl hd (f + p) (by omega) (secS g) (secS_size g)).mono ?_
    rintro e w' ⟨rfl, h2⟩
    exact ⟨0, rfl, h2.fix _ hz, rfl, h2⟩
  · rintro e w' ⟨m, rfl, rfl, h2⟩
    exact ⟨rfl, h2⟩
theorem fill (h : Zn w0 w D x fs) {Z f n : Nat} (hz : (Z, zobj D f n) ∈ fs) (ha : x.away = false) (hf : x.fuse = none) (hl : x.loose.length + n ≤ 1073741824) (hd : x.done + n < 4611686018427387904) (hfn : f + n ≤ x.n) (b : UInt8) :
    Calls Tryz.prog 37 #[.pointer (some ⟨Z, 0, none⟩), .int .u8 (b.toNat : Int)] w fun e w' => e = .returned (.int .i64 0) ∧ Zn w0 w' D (x.filled f (fun _ => b) n) fs := by
  have hnb : x.n ≤ 4096 := by obtain ⟨_, _, _, _, _, _, h⟩ := h.disk; exact h.nb
  refine (zone_fill_by w Z D f n (h.fix _ hz) b (fun k W => Zn w0 W D (x.filled f (fun _ => b) k) fs) (fun _ _ => False) (fun W hW => h.step hW) (fun k W hW => hW.fix _ hz) (fun k W hk hW => ?_) (by omega)).mono ?_
  · have h1 := filled_loose x f (fun _ => b) k
    have h2 := filled_done x f (fun _ => b) k
    refine (hW.change hz ((filled_away _ _ _ _).trans ha) (filled_fuse _ _ _ hf _) (by omega) (by omega) (by rw [filled_n]; exact hfn) k hk (fun _ => b)).mono ?_
    rintro e w' ⟨rfl, h3⟩
    exact ⟨0, rfl, .inl ⟨rfl, h3⟩⟩
  · rintro e w' ⟨m, rfl, ⟨rfl, h2⟩ | ⟨_, h2⟩⟩
    · exact ⟨rfl, h2⟩
    · exact h2.elim
theorem sync (h : Zn w0 w D x fs) (ha : x.away = false) (hf : x.fuse = none) (hl : x.loose.length ≤ 1073741824) (hd : x.done < 4611686018427387904) :
    Calls Tryz.prog 24 #[.pointer (some ⟨D, 0, none⟩)] w fun e w' => e = .returned (.int .i64 0) ∧ Zn w0 w' D x.burnt.synced fs :=
  (disk_sync_ok _ w D x h.disk ha hl (disk_burn_none _ w D x h.disk hf hd)).mono fun _ _ hs => h.says hs
end Zn
end Go.Proofs.YtnmgkkjnjllpbaaGreatDoor
namespace Go.Proofs.YtnmgkkjnjllpbaaGreatDoor
open Go.ChangeShapes Go.WideShapes Go.ChangeAt Go.RowKit Dk

namespace Zn
variable {w0 w w' : World} {D : Nat} {x : Dk.St} {fs : List (Nat × Obj)}
/-- Of the blocks that stay some are forgotten. -/
theorem less {gs : List (Nat × Obj)} (h : Zn w0 w D x fs) (hs : ∀ z ∈ gs, z ∈ fs) : Zn w0 w D x gs :=
  ⟨h.disk.mono fun _ hi => ⟨hi.1, fun z hz => hi.2 z (hs z hz)⟩, fun z hz => h.fix z (hs z hz), h.below⟩
/-- A block beside the disk is written anew. -/
theorem turn {T : Nat} {o o' : Obj} (h : Zn w0 w D x ((T, o) :: fs)) (hT : w0.heap.size ≤ T) (hne : ∀ z ∈ fs, z.1 ≠ T) (h1 : w'.heap[T]? = some o') (h2 : ∀ i, i ≠ T → w'.heap[i]? = w.heap[i]?) (he : w'.os = w.os ∧ w'.tape = w.tape ∧ w'.output = w.output) (hs : w.heap.size ≤ w'.heap.size) : Zn w0 w' D x ((T, o') :: fs) := by
  refine ⟨(h.disk.keep (w' := w') fun i hi _ => h2 i (hi.2 (T, o) (List.mem_cons_self ..))).mono fun i hi => ⟨hi.1, fun z hz => ?_⟩, fun z hz => ?_, ⟨he.1.trans h.below.os, he.2.1.trans h.below.tape, he.2.2.trans h.below.output, Nat.le_trans h.below.size hs, fun i hi => (h2 i (by omega)).trans (h.below.block i hi)⟩⟩
  · rcases List.mem_cons.1 hz with rfl | hz
    · exact hi.2 (T, o) (List.mem_cons_self ..)
    · exact hi.2 z (List.mem_cons_of_mem _ hz)
  · rcases List.mem_cons.1 hz with rfl | hz
    · exact h1
    · exact (h2 z.1 (hne z hz)).trans (h.fix z (List.mem_cons_of_mem _ hz))
end Zn
end Go.Proofs.YtnmgkkjnjllpbaaGreatDoor
