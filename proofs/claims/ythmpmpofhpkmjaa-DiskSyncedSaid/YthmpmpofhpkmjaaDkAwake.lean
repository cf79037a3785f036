/-
  The law's own helper: the document's examples. No condition.
-/
import Derived.Test.YthmpmpofhpkmjaaDkWrite
import Derived.Test.YthmpmpofhpkmjaaDkImage
import Derived.Test.YthmpmpofhpkmjaaDkLaw
namespace Go.Proofs.Ythmpmpofhpkmjaa
open Go.ChangeShapes Go.WideShapes Go.ChangeAt Go.RowKit Dk

/-- A disk of blocks that weren't there at the beginning; what was there is as it was. -/
structure At (w0 w : World) (D : Nat) (x : St) : Prop where
  disk : DiskAt (fun i => w0.heap.size ≤ i) w D x
  below : Below w0.heap.size w0 w
namespace At
variable {w0 w w' : World} {D : Nat} {x y : St}
theorem step (h : At w0 w D x) (hb : Below w.heap.size w w') : At w0 w' D x := ⟨h.disk.below hb, h.below.trans (hb.mono h.below.size)⟩
theorem says (h : At w0 w D x) {v : Value} {e : Ending} (hs : DiskSays (fun i => w0.heap.size ≤ i) w D v y e w') : e = .returned v ∧ At w0 w' D y :=
  ⟨hs.1, hs.2.1, h.below.trans (hs.2.2.below h.below.size (fun _ hi => Nat.not_le.2 hi))⟩
theorem new (h : At w0 w D x) : ∀ i, w.heap.size ≤ i → w0.heap.size ≤ i := fun _ hi => Nat.le_trans h.below.size hi
/-- A write, without a fuse. -/
theorem write (h : At w0 w D x) (ha : x.away = false) (hf : x.fuse = none) (hl : x.loose.length ≤ 1073741824) (hd : x.done < 4611686018427387904) (p : Nat) (hp : p < x.n) (q : ByteArray) (hq : q.size = 32) :
    Calls Try.prog 7 #[.pointer (some ⟨D, 0, none⟩), .int .i64 (p : Int), .string q] w fun e w' => e = .returned (.int .i64 0) ∧ At w0 w' D (x.burnt.put p (bs q)) :=
  (disk_write_ok _ w D x h.disk ha hl p hp q hq h.new (disk_burn_none _ w D x h.disk hf hd)).mono fun _ _ hs => h.says hs
/-- A sync, without a fuse. -/
theorem sync (h : At w0 w D x) (ha : x.away = false) (hf : x.fuse = none) (hl : x.loose.length ≤ 1073741824) (hd : x.done < 4611686018427387904) :
    Calls Try.prog 6 #[.pointer (some ⟨D, 0, none⟩)] w fun e w' => e = .returned (.int .i64 0) ∧ At w0 w' D x.burnt.synced :=
  (disk_sync_ok _ w D x h.disk ha hl (disk_burn_none _ w D x h.disk hf hd)).mono fun _ _ hs => h.says hs
end At
theorem at_new (w0 w : World) (hb : Below w0.heap.size w0 w) (m : Int) (n : Nat) (hn : (n : Int) = min (max m 0) 4096) :
    Calls Try.prog 5 #[.int .i64 m] w fun e w' => ∃ D, e = .returned (.pointer (some ⟨D, 0, none⟩)) ∧ At w0 w' D (freshSt n fun _ => 0) := by
  refine (disk_new (fun i => w0.heap.size ≤ i) w m n hn (fun i hi => Nat.le_trans hb.size hi)).mono ?_
  rintro e w' ⟨D, rfl, h1, h2, h3⟩
  exact ⟨D, rfl, h2, hb.trans (h3.mono hb.size)⟩
theorem below_undrew {w W : World} (h : Below w.drew.heap.size w.drew W) : Below w.heap.size w W := ⟨h.os, h.tape, h.output, h.size, h.block⟩
/-- Cut, by bools that lie in a new row of bools. -/
theorem At.cutNew {w0 w : World} {D : Nat} {x : St} (h : At w0 w D x) (ha : x.away = false) (hl : x.loose.length ≤ 1073741824) (kl : List Bool) (hkl : kl.length ≤ 1099511627776) :
    Calls Try.prog 9 #[.pointer (some ⟨D, 0, none⟩), .slice (some ⟨w.heap.size, 0, none⟩) kl.length kl.length] (w.alloc (.cells (kl.map Value.bool).toArray 4)) fun e w' => e = .returned (.tuple #[]) ∧ At w0 w' D (x.fall kl) := by
  have h2 := h.step ((Below.refl w.heap.size w).alloc (Nat.le_refl _) (.cells (kl.map Value.bool).toArray 4))
  have hat : ∀ W : World, W.heap[w.heap.size]? = some (.cells (kl.map Value.bool).toArray 4 (0, 0)) → BoolsAt W (.slice (some ⟨w.heap.size, 0, none⟩) kl.length kl.length) kl := fun W hW => .inr ⟨_, 0, _, rfl, Nat.le_refl _, fun j z hj => by
    rw [Nat.zero_add, cell_of_row _ _ _ _ _ _ hW, List.getElem?_toArray, List.getElem?_map, hj]
    rfl⟩
  refine (disk_cut _ _ D x h2.disk ha hl _ kl hkl (hat _ (heap_alloc_new w _)) (fun w' he => hat w' ?_)).mono fun _ _ hs => h2.says hs
  have hn := heap_alloc_new w (.cells (kl.map Value.bool).toArray 4)
  rw [he w.heap.size (by simp) (.inr ⟨_, _, _, hn, by decide⟩)]
  exact hn
namespace Dk
def awA : ByteArray := secS fun _ => 97
def awB : ByteArray := secS fun _ => 98
def aw0 : ByteArray := secS fun _ => 0
def aw1 : St := (freshSt 3 fun _ => 0).burnt.put 0 (bs awA)
def aw2 : St := aw1.burnt.put 1 (bs awB)
def aw3 : St := aw2.fall [false, true]
def aw4 : St := aw3.come
theorem aw_read : secS (sect aw4.now 1) = awB := by decide +kernel
theorem aw_image : imgS aw4.n aw4.safe = aw0 ++ awB ++ aw0 := by decide +kernel
theorem aw_size0 : aw0.size = 32 := secS_size _
theorem aw_sizeB : awB.size = 32 := secS_size _
end Dk
set_option maxRecDepth 100000 in
set_option maxHeartbeats 3200000 in
theorem awake_any (w : World) :
    Calls Try.prog 4 #[] w fun e w' => e = .returned (.bool true) ∧ Below w.heap.size w w' := by
  have o97 := law_of 97
  have o98 := law_of 98
  have o0 := law_of 0
  change ∀ W, Calls Try.prog 8 #[.int .u8 97] W fun e w' => e = .returned (.string awA) ∧ Below W.heap.size W w' at o97
  change ∀ W, Calls Try.prog 8 #[.int .u8 98] W fun e w' => e = .returned (.string awB) ∧ Below W.heap.size W w' at o98
  change ∀ W, Calls Try.prog 8 #[.int .u8 0] W fun e w' => e = .returned (.string aw0) ∧ Below W.heap.size W w' at o0
  have O97 := Lib.hid o97
  have O98 := Lib.hid o98
  have O0 := Lib.hid o0
  clear o97 o98 o0
  go_enter Try.func4, Try.ntmps4
  go_wp2_with (fail)
  refine (at_new w w (Below.refl _ _) 3 3 (by omega)).mono ?_
  rintro e w1 ⟨D, rfl, h1⟩
  have H1 := Lib.hid h1
  clear h1
  go_wp2_with (fail)
  refine (O97.out w1).mono ?_
  rintro e w2 ⟨rfl, b2⟩
  have H2 := Lib.hid (H1.out.step b2)
  clear H1 b2
  go_wp2_with (fail)
  refine (H2.out.write rfl rfl (by decide) (by decide) 0 (by decide) awA (secS_size _)).mono ?_
  rintro e w3 ⟨rfl, h3⟩
  have H3 := Lib.hid (show At w w3 D aw1 from h3)
  clear H2 h3
  go_wp2_with (fail)
  refine (O98.out w3).mono ?_
  rintro e w4 ⟨rfl, b4⟩
  have H4 := Lib.hid (H3.out.step b4)
  clear H3 b4
  go_wp2_with (fail)
  refine (H4.out.write rfl rfl (by decide) (by decide) 1 (by decide) awB (secS_size _)).mono ?_
  rintro e w5 ⟨rfl, h5⟩
  have H5 := Lib.hid (show At w w5 D aw2 from h5)
  clear H4 h5
  go_wp2_with (fail)
  refine (disk_loose _ w5 D aw2 H5.out.disk).mono ?_
  rintro e w6 ⟨rfl, rfl⟩
  rw [show (aw2.loose.length : Int) = 2 from rfl]
  go_wp2_with (fail)
  refine (H5.out.cutNew rfl (by decide) [false, true] (by decide)).mono ?_
  rintro e w6 ⟨rfl, h6⟩
  have H6 := Lib.hid (show At w w6 D aw3 from h6)
  clear H5 h6
  go_wp2_with (fail)
  refine (disk_isOn _ w6 D aw3 H6.out.disk).mono ?_
  rintro e w7 ⟨rfl, rfl⟩
  rw [show (!aw3.away) = false from rfl]
  go_wp2_with (fail)
  refine (disk_come _ w6 D aw3 H6.out.disk).mono ?_
  rintro e w7 hs7
  obtain ⟨rfl, h7⟩ := H6.out.says hs7
  have H7 := Lib.hid (show At w w7 D aw4 from h7)
  clear H6 hs7 h7
  go_wp2_with (fail)
  refine (disk_read _ w7 D aw4 H7.out.disk rfl 1 (by decide)).mono ?_
  rintro e w8 ⟨rfl, rfl⟩
  rw [aw_read]
  have z0 := aw_size0
  have zB := aw_sizeB
  have HIM := Lib.hid aw_image
  generalize awB = sB at O98 zB HIM ⊢
  generalize aw0 = s0 at O0 z0 HIM ⊢
  go_wp2_with (fail)
  refine (O98.out w7).mono ?_
  rintro e w8 ⟨rfl, b8⟩
  have H8 := Lib.hid (H7.out.step b8)
  clear H7 b8
  go_wp2_with (fail)
  refine (disk_image _ w8 D aw4 H8.out.disk).mono ?_
  rintro e w9 ⟨rfl, b9⟩
  have H9 := Lib.hid (H8.out.step b9)
  clear H8 b9
  rw [HIM.out]
  go_wp2_with (fail)
  refine (O0.out w9).mono ?_
  rintro e w10 ⟨rfl, b10⟩
  have H10 := Lib.hid (H9.out.step b10)
  clear H9 b10
  go_wp2_with (fail)
  refine (O98.out w10).mono ?_
  rintro e w11 ⟨rfl, b11⟩
  have H11 := Lib.hid (H10.out.step b11)
  clear H10 b11
  have zs1 : s0.size + sB.size ≤ 9223372036854775807 := by omega
  go_wp2_with (fail)
  refine (O0.out w11).mono ?_
  rintro e w12 ⟨rfl, b12⟩
  have H12 := Lib.hid (H11.out.step b12)
  clear H11 b12
  have zs2 : (s0 ++ sB).size + s0.size ≤ 9223372036854775807 := by rw [ByteArray.size_append]; omega
  go_wp2_with (fail)
  refine (disk_len _ w12 D aw4 H12.out.disk).mono ?_
  rintro e w13 ⟨rfl, rfl⟩
  rw [show (aw4.n : Int) = 3 from rfl]
  go_wp2_with (fail)
  refine (disk_done _ w12 D aw4 H12.out.disk).mono ?_
  rintro e w13 ⟨rfl, rfl⟩
  rw [show (aw4.done : Int) = 2 from rfl]
  go_wp2_with (fail)
  refine bodyPost_ret (results_tmp rfl _ _ _) rfl ?_
  exact ⟨rfl, H12.out.below⟩
end Go.Proofs.Ythmpmpofhpkmjaa
