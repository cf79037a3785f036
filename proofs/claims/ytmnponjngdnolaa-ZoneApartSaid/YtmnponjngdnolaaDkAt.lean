/-
  A disk of blocks that weren't there at the beginning: what each call answers, and what stands there then. Conditions: as each call's own.
-/
import Derived.Test.YtmnponjngdnolaaDkWrite
namespace Go.Proofs.Ytmnponjngdnolaa
open Go.ChangeShapes Go.WideShapes Go.ChangeAt Go.RowKit Dk

/-- A disk of blocks that weren't there at the beginning; what was there is as it was. -/
structure At (w0 w : World) (D : Nat) (x : St) : Prop where
  disk : DiskAt (fun i => w0.heap.size ≤ i) w D x
  below : Below w0.heap.size w0 w
namespace At
variable {w0 w w' : World} {D : Nat} {x y : St}
theorem step (h : At w0 w D x) (hb : Below w.heap.size w w') : At w0 w' D x := ⟨h.disk.below hb, h.below.trans (hb.mono h.below.size)⟩
theorem says (h : At w0 w D x) {v : Value} {e : Ending} (hs : DiskSays (fun i => w0.heap.size ≤ i) w D v y e w') : e = .returned v ∧ At w0 w' D y :=
  ⟨hs.1, hs.2.1, h.below.trans (hs.2.2.below h.below.size (fun _ hi => Nat.not_le.2 hi))⟩
theorem new (h : At w0 w D x) : ∀ i, w.heap.size ≤ i → w0.heap.size ≤ i := fun _ hi => Nat.le_trans h.below.size hi
/-- A write, without a fuse. -/
theorem write (h : At w0 w D x) (ha : x.away = false) (hf : x.fuse = none) (hl : x.loose.length ≤ 1073741824) (hd : x.done < 4611686018427387904) (p : Nat) (hp : p < x.n) (q : ByteArray) (hq : q.size = 32) :
    Calls Try.prog 26 #[.pointer (some ⟨D, 0, none⟩), .int .i64 (p : Int), .string q] w fun e w' => e = .returned (.int .i64 0) ∧ At w0 w' D (x.burnt.put p (bs q)) :=
  (disk_write_ok _ w D x h.disk ha hl p hp q hq h.new (disk_burn_none _ w D x h.disk hf hd)).mono fun _ _ hs => h.says hs
/-- A sync, without a fuse. -/
theorem sync (h : At w0 w D x) (ha : x.away = false) (hf : x.fuse = none) (hl : x.loose.length ≤ 1073741824) (hd : x.done < 4611686018427387904) :
    Calls Try.prog 21 #[.pointer (some ⟨D, 0, none⟩)] w fun e w' => e = .returned (.int .i64 0) ∧ At w0 w' D x.burnt.synced :=
  (disk_sync_ok _ w D x h.disk ha hl (disk_burn_none _ w D x h.disk hf hd)).mono fun _ _ hs => h.says hs
end At
theorem at_new (w0 w : World) (hb : Below w0.heap.size w0 w) (m : Int) (n : Nat) (hn : (n : Int) = min (max m 0) 4096) :
    Calls Try.prog 6 #[.int .i64 m] w fun e w' => ∃ D, e = .returned (.pointer (some ⟨D, 0, none⟩)) ∧ At w0 w' D (freshSt n fun _ => 0) := by
  refine (disk_new (fun i => w0.heap.size ≤ i) w m n hn (fun i hi => Nat.le_trans hb.size hi)).mono ?_
  rintro e w' ⟨D, rfl, h1, h2, h3⟩
  exact ⟨D, rfl, h2, hb.trans (h3.mono hb.size)⟩
theorem below_undrew {w W : World} (h : Below w.drew.heap.size w.drew W) : Below w.heap.size w W := ⟨h.os, h.tape, h.output, h.size, h.block⟩
end Go.Proofs.Ytmnponjngdnolaa
