/-
  Package zone: Part; and all calls of a zone over a disk without a fuse, whose power is there. Conditions: the zone stands in its block, its disk in blocks of its own; few writes.
-/
import Derived.Test.YtmnponjngdnolaaZone2
namespace Go.Proofs.Ytmnponjngdnolaa
open Go.ChangeShapes Go.WideShapes Go.ChangeAt Go.RowKit Dk

section
variable (w : World) (Z D f n : Nat) (hz : w.heap[Z]? = some (zobj D f n))
include hz
set_option maxRecDepth 100000 in
set_option maxHeartbeats 1600000 in
theorem zone_part (K : Nat → Prop) (x : St) (h : DiskAt K w D x) (hfn : f + n ≤ x.n) (p m : Nat) (hm : 1 ≤ m) (hpm : p + m ≤ n) :
    Calls Try.prog 13 #[.pointer (some ⟨Z, 0, none⟩), .int .i64 (p : Int), .int .i64 (m : Int)] w fun e w' => ∃ Z', e = .returned (.tuple #[.pointer (some ⟨Z', 0, none⟩), .int .i64 0]) ∧ w.heap.size ≤ Z' ∧ w'.heap[Z']? = some (zobj D (f + p) m) ∧ Below w.heap.size w w' := by
  have hnb : x.n ≤ 4096 := by obtain ⟨_, _, _, _, _, _, h⟩ := h; exact h.nb
  have hw := zone_within w p m n (by omega) (by omega) (by omega)
  rw [withinB_true (by omega) (by omega) (by omega)] at hw
  have HW := Lib.hid hw
  have HN := Lib.hid (zone_new K w.drew D x (h.drewN 1) (f + p) m hm (by omega))
  have HZ := Lib.hid hz
  have c0 := zone_c0 hz
  have c1 := zone_c1 hz
  have c2 := zone_c2 hz
  have hZ : Z < w.heap.size := (Array.getElem?_eq_some_iff.1 hz).1
  have e1 : IntKind.i64.wrap ((f : Int) + (p : Int)) = ((f + p : Nat) : Int) := (IntWalk.i64_in _ (by omega)).trans (by omega)
  clear hz h hw hfn
  generalize f + p = fp at e1 HN ⊢
  generalize (fp : Int) = fpi at e1 HN
  go_enter Try.func13, Try.ntmps13
  go_wp2_with (fail)
  refine HW.out.mono ?_
  rintro e w1 ⟨rfl, rfl⟩
  go_wp2_with (fail)
  have c0d : w.drew.cell? ⟨Z, 0, none⟩ = some (.pointer (some ⟨D, 0, none⟩)) := c0
  have c1d : w.drew.cell? ⟨Z, 1, none⟩ = some (.int .i64 (f : Int)) := c1
  go_region_held3 (fun W : World => W.cell? ⟨Z, 0, none⟩ = some (.pointer (some ⟨D, 0, none⟩)) ∧ W.cell? ⟨Z, 1, none⟩ = some (.int .i64 (f : Int))) (first | exact ⟨c0d, c1d⟩ | assumption) (first
    | (go_at_call 7; (with_reducible refine HN.out.mono ?_); rintro e w' ⟨Z', rfl, g1, g2, g3⟩; have hzz := (g3.block Z hZ).trans HZ.out; have hs := And.intro (zone_c0 hzz) (zone_c1 hzz)))
  have G2 := Lib.hid g2
  have G3 := Lib.hid g3
  clear g2 g3
  go_wp2_with (fail)
  refine bodyPost_ret (results_tmp2 rfl _ _ _) rfl ?_
  exact ⟨Z', rfl, g1, G2.out, below_undrew G3.out⟩
theorem zone_part_not (hn : n ≤ 4096) (p m : Int) (hm : m ≤ 9223372036854775807) (hb : withinB p m n = false) :
    Calls Try.prog 13 #[.pointer (some ⟨Z, 0, none⟩), .int .i64 p, .int .i64 m] w fun e w' => e = .returned (.tuple #[.pointer none, .int .i64 1]) ∧ w = w' := by
  have hw := zone_within w p m n (by omega) (by omega) hm
  rw [hb] at hw
  have HW := Lib.hid hw
  have c2 := zone_c2 hz
  clear hz hw hb
  go_enter Try.func13, Try.ntmps13
  go_wp2_with (fail)
  refine HW.out.mono ?_
  rintro e w1 ⟨rfl, rfl⟩
  go_wp2
  refine bodyPost_ret (results_tmp2 rfl _ _ _) rfl ?_
  exact ⟨rfl, rfl⟩
end
namespace Zn
variable {w0 w w' : World} {D : Nat} {x : St} {fs : List (Nat × Obj)}
theorem news (h : Zn w0 w D x fs) (f n : Nat) (hn : 1 ≤ n) (hfn : f + n ≤ x.n) :
    Calls Try.prog 7 #[.pointer (some ⟨D, 0, none⟩), .int .i64 (f : Int), .int .i64 (n : Int)] w fun e w' => ∃ Z, e = .returned (.tuple #[.pointer (some ⟨Z, 0, none⟩), .int .i64 0]) ∧ Zn w0 w' D x ((Z, zobj D f n) :: fs) := by
  refine (zone_new _ w D x h.disk f n hn hfn).mono ?_
  rintro e w' ⟨Z, rfl, h1, h2, h3⟩
  exact ⟨Z, rfl, h.add h3 h1 h2⟩
theorem part (h : Zn w0 w D x fs) {Z f n : Nat} (hz : (Z, zobj D f n) ∈ fs) (hfn : f + n ≤ x.n) (p m : Nat) (hm : 1 ≤ m) (hpm : p + m ≤ n) :
    Calls Try.prog 13 #[.pointer (some ⟨Z, 0, none⟩), .int .i64 (p : Int), .int .i64 (m : Int)] w fun e w' => ∃ Z', e = .returned (.tuple #[.pointer (some ⟨Z', 0, none⟩), .int .i64 0]) ∧ Zn w0 w' D x ((Z', zobj D (f + p) m) :: fs) := by
  refine (zone_part w Z D f n (h.fix _ hz) _ x h.disk hfn p m hm hpm).mono ?_
  rintro e w' ⟨Z', rfl, h1, h2, h3⟩
  exact ⟨Z', rfl, h.add h3 h1 h2⟩
theorem read (h : Zn w0 w D x fs) {Z f n : Nat} (hz : (Z, zobj D f n) ∈ fs) (ha : x.away = false) (hfn : f + n ≤ x.n) (p : Nat) (hp : p < n) :
    Calls Try.prog 19 #[.pointer (some ⟨Z, 0, none⟩), .int .i64 (p : Int)] w fun e w' => e = .returned (.tuple #[.string (secS (sect x.now (f + p))), .int .i64 0]) ∧ Zn w0 w' D x fs := by
  have hnb : x.n ≤ 4096 := by obtain ⟨_, _, _, _, _, _, h⟩ := h.disk; exact h.nb
  refine (zone_read_by w Z D f n (h.fix _ hz) p hp (by omega) _ 0 (fun i => disk_read _ (w.drewN i) D x (h.disk.drewN i) ha (f + p) (by omega))).mono ?_
  rintro e w' ⟨rfl, i, rfl⟩
  exact ⟨rfl, h.drewN i⟩
theorem dwrite (h : Zn w0 w D x fs) (ha : x.away = false) (hf : x.fuse = none) (hl : x.loose.length ≤ 1073741824) (hd : x.done < 4611686018427387904) (p : Nat) (hp : p < x.n) (q : ByteArray) (hq : q.size = 32) :
    Calls Try.prog 26 #[.pointer (some ⟨D, 0, none⟩), .int .i64 (p : Int), .string q] w fun e w' => e = .returned (.int .i64 0) ∧ Zn w0 w' D (x.burnt.put p (bs q)) fs :=
  (disk_write_ok _ w D x h.disk ha hl p hp q hq h.new (disk_burn_none _ w D x h.disk hf hd)).mono fun _ _ hs => h.says hs
theorem write (h : Zn w0 w D x fs) {Z f n : Nat} (hz : (Z, zobj D f n) ∈ fs) (ha : x.away = false) (hf : x.fuse = none) (hl : x.loose.length ≤ 1073741824) (hd : x.done < 4611686018427387904) (hfn : f + n ≤ x.n) (p : Nat) (hp : p < n) (q : ByteArray) (hq : q.size = 32) :
    Calls Try.prog 8 #[.pointer (some ⟨Z, 0, none⟩), .int .i64 (p : Int), .string q] w fun e w' => e = .returned (.int .i64 0) ∧ Zn w0 w' D (x.burnt.put (f + p) (bs q)) fs := by
  have hnb : x.n ≤ 4096 := by obtain ⟨_, _, _, _, _, _, h⟩ := h.disk; exact h.nb
  refine (zone_write_by w Z D f n (h.fix _ hz) p hp (by omega) q hq (fun m w' => m = 0 ∧ Zn w0 w' D (x.burnt.put (f + p) (bs q)) fs) ?_).mono ?_
  · refine ((h.drewN 1).dwrite ha hf hl hd (f + p) (by omega) q hq).mono ?_
    rintro e w' ⟨rfl, h2⟩
    exact ⟨0, rfl, h2.fix _ hz, rfl, h2⟩
  · rintro e w' ⟨m, rfl, rfl, h2⟩
    exact ⟨rfl, h2⟩
theorem change (h : Zn w0 w D x fs) {Z f n : Nat} (hz : (Z, zobj D f n) ∈ fs) (ha : x.away = false) (hf : x.fuse = none) (hl : x.loose.length ≤ 1073741824) (hd : x.done < 4611686018427387904) (hfn : f + n ≤ x.n) (p : Nat) (hp : p < n) (g : Nat → UInt8) :
    Calls Try.prog 28 #[.pointer (some ⟨Z, 0, none⟩), .int .i64 (p : Int), .string (secS g)] w fun e w' => e = .returned (.int .i64 0) ∧ Zn w0 w' D (x.chg (f + p) g) fs := by
  have hnb : x.n ≤ 4096 := by obtain ⟨_, _, _, _, _, _, h⟩ := h.disk; exact h.nb
  refine (zone_change_by w Z D f n (h.fix _ hz) p hp (by omega) (secS (sect x.now (f + p))) (secS g) (secS_size g) (fun m w' => m = 0 ∧ Zn w0 w' D (x.chg (f + p) g) fs)
    (fun i => disk_read _ (w.drewN i) D x (h.disk.drewN i) ha (f + p) (by omega)) (fun he k => ⟨rfl, ?_⟩) (fun he k => ?_)).mono ?_
  · have e : x.chg (f + p) g = x := by unfold St.chg; rw [if_pos he]
    rw [e]
    exact h.drewN k
  · have e : x.chg (f + p) g = x.burnt.put (f + p) (bs (secS g)) := by unfold St.chg; rw [if_neg he]
    rw [e]
    refine (((h.drewN k).drewN 1).dwrite ha hf hl hd (f + p) (by omega) (secS g) (secS_size g)).mono ?_
    rintro e w' ⟨rfl, h2⟩
    exact ⟨0, rfl, h2.fix _ hz, rfl, h2⟩
  · rintro e w' ⟨m, rfl, rfl, h2⟩
    exact ⟨rfl, h2⟩
theorem fill (h : Zn w0 w D x fs) {Z f n : Nat} (hz : (Z, zobj D f n) ∈ fs) (ha : x.away = false) (hf : x.fuse = none) (hl : x.loose.length + n ≤ 1073741824) (hd : x.done + n < 4611686018427387904) (hfn : f + n ≤ x.n) (b : UInt8) :
    Calls Try.prog 11 #[.pointer (some ⟨Z, 0, none⟩), .int .u8 (b.toNat : Int)] w fun e w' => e = .returned (.int .i64 0) ∧ Zn w0 w' D (x.filled f (fun _ => b) n) fs := by
  have hnb : x.n ≤ 4096 := by obtain ⟨_, _, _, _, _, _, h⟩ := h.disk; exact h.nb
  refine (zone_fill_by w Z D f n (h.fix _ hz) b (fun k W => Zn w0 W D (x.filled f (fun _ => b) k) fs) (fun _ _ => False) (fun W hW => h.step hW) (fun k W hW => hW.fix _ hz) (fun k W hk hW => ?_) (by omega)).mono ?_
  · have h1 := filled_loose x f (fun _ => b) k
    have h2 := filled_done x f (fun _ => b) k
    refine (hW.change hz ((filled_away _ _ _ _).trans ha) (filled_fuse _ _ _ hf _) (by omega) (by omega) (by rw [filled_n]; exact hfn) k hk (fun _ => b)).mono ?_
    rintro e w' ⟨rfl, h3⟩
    exact ⟨0, rfl, .inl ⟨rfl, h3⟩⟩
  · rintro e w' ⟨m, rfl, ⟨rfl, h2⟩ | ⟨_, h2⟩⟩
    · exact ⟨rfl, h2⟩
    · exact h2.elim
theorem all (h : Zn w0 w D x fs) {Z f n : Nat} (hz : (Z, zobj D f n) ∈ fs) (ha : x.away = false) (hfn : f + n ≤ x.n) :
    Calls Try.prog 10 #[.pointer (some ⟨Z, 0, none⟩)] w fun e w' => e = .returned (.tuple #[.string (imgS n fun j => x.now (f * 32 + j)), .int .i64 0]) ∧ Zn w0 w' D x fs := by
  refine (zone_all w Z D f n (h.fix _ hz) _ x h.disk ha hfn).mono ?_
  rintro e w' ⟨rfl, h2⟩
  exact ⟨rfl, h.step h2⟩
theorem sync (h : Zn w0 w D x fs) (ha : x.away = false) (hf : x.fuse = none) (hl : x.loose.length ≤ 1073741824) (hd : x.done < 4611686018427387904) :
    Calls Try.prog 21 #[.pointer (some ⟨D, 0, none⟩)] w fun e w' => e = .returned (.int .i64 0) ∧ Zn w0 w' D x.burnt.synced fs :=
  (disk_sync_ok _ w D x h.disk ha hl (disk_burn_none _ w D x h.disk hf hd)).mono fun _ _ hs => h.says hs
end Zn
end Go.Proofs.Ytmnponjngdnolaa
