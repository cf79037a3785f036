/-
  Package zone: what change, Fill, All and Part answer. Conditions: the zone stands in its block, its disk in blocks of its own.
  Package zone: Part; and all calls of a zone over a disk without a fuse, whose power is there. Conditions: the zone stands in its block, its disk in blocks of its own; few writes.
  A disk beside blocks that stay: some are forgotten; one is written anew. No program's function here. No conditions.
-/
import Derived.Test.YtfpkgcofkgpgnaaDoorMg5
import Derived.Test.YtfpkgcofkgpgnaaDoorMg6
import Derived.Great.BuildSlice
import Derived.Lib.AppendStr
set_option maxRecDepth 100000
namespace Go.Proofs.YtfpkgcofkgpgnaaDoor
open Go.ChangeShapes Go.WideShapes Go.ChangeAt Go.RowKit Dk

theorem strCells_secS (g : Nat → UInt8) : Lib.strCells (secS g) = secL g := by
  apply List.ext_getElem?
  intro j
  by_cases hj : j < 32
  · rw [secL_get _ _ hj]
    unfold Lib.strCells secS
    simp [hj]
  · rw [List.getElem?_eq_none (by rw [Lib.strCells_length, secS_size]; omega), List.getElem?_eq_none (by rw [secL_length]; omega)]
theorem byteOne (b : Int) : Tryd.prog.builtSlice 5 1 [(0, .int .u8 b)] = some #[.int .u8 b] := by kernel_rfl
theorem run_one (w : World) (b : UInt8) (W : World) (h : W.heap[w.heap.size]? = some (.cells #[.int .u8 (b.toNat : Int)] 5 (0, 0))) (cap : Nat) :
    (convert 77 9 (.slice (some ⟨w.heap.size, 0, none⟩) 1 cap)).run Tryd.prog W = .ok (.string ⟨#[b]⟩) W := by
  refine run_textK W _ 1 cap [b] rfl fun j u hj => ?_
  rw [Addr.add_lit, Nat.zero_add, cell_of_row _ _ _ _ _ _ h, ← hj, List.getElem?_toArray]
  rfl
theorem repeat_byte (b : UInt8) (W : World) : Calls Tryd.prog 40 #[.string ⟨#[b]⟩, .int .i64 32] W fun e w' => e = .returned (.string (secS fun _ => b)) ∧ Below W.heap.size W w' :=
  Tryd.strings_Repeat ⟨#[b]⟩ 32 W (by decide) (show 1 * 32 ≤ _ by decide)
theorem texts_ne {s q : ByteArray} (h : s ≠ q) : (s.toList == q.toList) = false := by
  rw [beq_eq_false_iff_ne, ByteArray.toList_eq, ByteArray.toList_eq]
  exact fun e => h (ByteArray.ext (Array.ext' e))
section
variable (w : World) (Z D f n : Nat) (hz : w.heap[Z]? = some (zobj D f n))
include hz
end
section
variable (w : World) (Z D f n : Nat)
end
end Go.Proofs.YtfpkgcofkgpgnaaDoor
namespace Go.Proofs.YtfpkgcofkgpgnaaDoor
open Go.ChangeShapes Go.WideShapes Go.ChangeAt Go.RowKit Dk

section
variable (w : World) (Z D f n : Nat) (hz : w.heap[Z]? = some (zobj D f n))
include hz
end
namespace Zn
variable {w0 w w' : World} {D : Nat} {x : St} {fs : List (Nat × Obj)}
theorem news (h : Zn w0 w D x fs) (f n : Nat) (hn : 1 ≤ n) (hfn : f + n ≤ x.n) :
    Calls Tryd.prog 21 #[.pointer (some ⟨D, 0, none⟩), .int .i64 (f : Int), .int .i64 (n : Int)] w fun e w' => ∃ Z, e = .returned (.tuple #[.pointer (some ⟨Z, 0, none⟩), .int .i64 0]) ∧ Zn w0 w' D x ((Z, zobj D f n) :: fs) := by
  refine (zone_new _ w D x h.disk f n hn hfn).mono ?_
  rintro e w' ⟨Z, rfl, h1, h2, h3⟩
  exact ⟨Z, rfl, h.add h3 h1 h2⟩
theorem read (h : Zn w0 w D x fs) {Z f n : Nat} (hz : (Z, zobj D f n) ∈ fs) (ha : x.away = false) (hfn : f + n ≤ x.n) (p : Nat) (hp : p < n) :
    Calls Tryd.prog 46 #[.pointer (some ⟨Z, 0, none⟩), .int .i64 (p : Int)] w fun e w' => e = .returned (.tuple #[.string (secS (sect x.now (f + p))), .int .i64 0]) ∧ Zn w0 w' D x fs := by
  have hnb : x.n ≤ 4096 := by obtain ⟨_, _, _, _, _, _, h⟩ := h.disk; exact h.nb
  refine (zone_read_by w Z D f n (h.fix _ hz) p hp (by omega) _ 0 (fun i => disk_read _ (w.drewN i) D x (h.disk.drewN i) ha (f + p) (by omega))).mono ?_
  rintro e w' ⟨rfl, i, rfl⟩
  exact ⟨rfl, h.drewN i⟩
theorem dwrite (h : Zn w0 w D x fs) (ha : x.away = false) (hf : x.fuse = none) (hl : x.loose.length ≤ 1073741824) (hd : x.done < 4611686018427387904) (p : Nat) (hp : p < x.n) (q : ByteArray) (hq : q.size = 32) :
    Calls Tryd.prog 64 #[.pointer (some ⟨D, 0, none⟩), .int .i64 (p : Int), .string q] w fun e w' => e = .returned (.int .i64 0) ∧ Zn w0 w' D (x.burnt.put p (bs q)) fs :=
  (disk_write_ok _ w D x h.disk ha hl p hp q hq h.new (disk_burn_none _ w D x h.disk hf hd)).mono fun _ _ hs => h.says hs
theorem write (h : Zn w0 w D x fs) {Z f n : Nat} (hz : (Z, zobj D f n) ∈ fs) (ha : x.away = false) (hf : x.fuse = none) (hl : x.loose.length ≤ 1073741824) (hd : x.done < 4611686018427387904) (hfn : f + n ≤ x.n) (p : Nat) (hp : p < n) (q : ByteArray) (hq : q.size = 32) :
    Calls Tryd.prog 45 #[.pointer (some ⟨Z, 0, none⟩), .int .i64 (p : Int), .string q] w fun e w' => e = .returned (.int .i64 0) ∧ Zn w0 w' D (x.burnt.put (f + p) (bs q)) fs := by
  have hnb : x.n ≤ 4096 := by obtain ⟨_, _, _, _, _, _, h⟩ := h.disk; exact h.nb
  refine (zone_write_by w Z D f n (h.fix _ hz) p hp (by omega) q hq (fun m w' => m = 0 ∧ Zn w0 w' D (x.burnt.put (f + p) (bs q)) fs) ?_).mono ?_
  · refine ((h.drewN 1).dwrite ha hf hl hd (f + p) (by omega) q hq).mono ?_
    rintro e w' ⟨rfl, h2⟩
    exact ⟨0, rfl, h2.fix _ hz, rfl, h2⟩
  · rintro e w' ⟨m, rfl, rfl, h2⟩
    exact ⟨rfl, h2⟩
theorem sync (h : Zn w0 w D x fs) (ha : x.away = false) (hf : x.fuse = none) (hl : x.loose.length ≤ 1073741824) (hd : x.done < 4611686018427387904) :
    Calls Tryd.prog 9 #[.pointer (some ⟨D, 0, none⟩)] w fun e w' => e = .returned (.int .i64 0) ∧ Zn w0 w' D x.burnt.synced fs :=
  (disk_sync_ok _ w D x h.disk ha hl (disk_burn_none _ w D x h.disk hf hd)).mono fun _ _ hs => h.says hs
end Zn
end Go.Proofs.YtfpkgcofkgpgnaaDoor
namespace Go.Proofs.YtfpkgcofkgpgnaaDoor
open Go.ChangeShapes Go.WideShapes Go.ChangeAt Go.RowKit Dk

namespace Zn
variable {w0 w w' : World} {D : Nat} {x : Dk.St} {fs : List (Nat × Obj)}
/-- Of the blocks that stay some are forgotten. -/
theorem less {gs : List (Nat × Obj)} (h : Zn w0 w D x fs) (hs : ∀ z ∈ gs, z ∈ fs) : Zn w0 w D x gs :=
  ⟨h.disk.mono fun _ hi => ⟨hi.1, fun z hz => hi.2 z (hs z hz)⟩, fun z hz => h.fix z (hs z hz), h.below⟩
/-- A block beside the disk is written anew. -/
theorem turn {T : Nat} {o o' : Obj} (h : Zn w0 w D x ((T, o) :: fs)) (hT : w0.heap.size ≤ T) (hne : ∀ z ∈ fs, z.1 ≠ T) (h1 : w'.heap[T]? = some o') (h2 : ∀ i, i ≠ T → w'.heap[i]? = w.heap[i]?) (he : w'.os = w.os ∧ w'.tape = w.tape ∧ w'.output = w.output) (hs : w.heap.size ≤ w'.heap.size) : Zn w0 w' D x ((T, o') :: fs) := by
  refine ⟨(h.disk.keep (w' := w') fun i hi _ => h2 i (hi.2 (T, o) (List.mem_cons_self ..))).mono fun i hi => ⟨hi.1, fun z hz => ?_⟩, fun z hz => ?_, ⟨he.1.trans h.below.os, he.2.1.trans h.below.tape, he.2.2.trans h.below.output, Nat.le_trans h.below.size hs, fun i hi => (h2 i (by omega)).trans (h.below.block i hi)⟩⟩
  · rcases List.mem_cons.1 hz with rfl | hz
    · exact hi.2 (T, o) (List.mem_cons_self ..)
    · exact hi.2 z (List.mem_cons_of_mem _ hz)
  · rcases List.mem_cons.1 hz with rfl | hz
    · exact h1
    · exact (h2 z.1 (hne z hz)).trans (h.fix z (List.mem_cons_of_mem _ hz))
end Zn
end Go.Proofs.YtfpkgcofkgpgnaaDoor
