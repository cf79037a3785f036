/-
  The program's sums (package sha): the sum of parts. Conditions: both tables lie as the program's text lays them; the parts stand where it looks; fewer than 2^56 bytes.
-/
import Derived.Test.YthmpmpofhpkmjaaDoorShaEnd
namespace Go.Proofs.YthmpmpofhpkmjaaDoor
open Go.ChangeShapes Go.WideShapes Go.ChangeAt Go.RowKit Sh

/-- A sum as the program hands it on. -/
def digV (l : List UInt8) : Array Value := vals 32 fun j => .int .u8 ((sumByte (sumSt l) j).toNat : Int)
/-- An empty sum on its way, all of it nothing. -/
def zeroF : Nat → Value := fun j => if j < 8 then .int .u32 0 else if j < 72 then .int .u8 0 else .int .u64 0
/-- The first words lie in the first variable. -/
def FOn (w : World) : Prop := ∃ t fr, w.heap[0]? = some (.cells (vals 8 fun i => .int .u32 (tn (iv.at i))) t fr)
theorem FOn.lt {w : World} (h : FOn w) : 0 < w.heap.size := by obtain ⟨t, fr, h⟩ := h; exact (Array.getElem?_eq_some_iff.1 h).1
theorem FOn.below {w w' : World} (h : FOn w) (k : Below w.heap.size w w') : FOn w' := by
  have hl := h.lt
  obtain ⟨t, fr, h'⟩ := h
  exact ⟨t, fr, (k.block _ hl).trans h'⟩

set_option maxRecDepth 100000 in
set_option maxHeartbeats 1600000 in
theorem of_any (ss : List ByteArray) (w : World) (A : Option Addr) (n cap : Nat) (hn : n = ss.length) (hnb : n ≤ 1152921504606846976)
    (hA : 0 < n → ∃ pb po, A = some ⟨pb, po, none⟩ ∧ ∀ k, k < n → w.cell? ⟨pb, po + k, none⟩ = some (.string (ss.getD k ByteArray.empty)))
    (hF : FOn w) (hK : KOn w) (hM : (flat ss).length < 72057594037927936) :
    Calls Tryd.prog 9 #[.slice A n cap] w fun e w' => e = .returned (.agg (digV (flat ss))) ∧ Below w.heap.size w w' := by
  have hlt := hF.lt
  obtain ⟨tf, fr, hF0⟩ := hF
  have HF := Lib.hid hF0
  have HKN := Lib.hid hK
  have HN := Lib.hid hn
  have HA := Lib.hid hA
  clear hF0 hK hn hA
  go_enter Tryd.func9, Tryd.ntmps9
  have HB := Lib.hid (show Tryd.prog.built 52 [(0, .agg (vals 8 fun i => .int .u32 (tn (iv.at i))))] = some (vals 73 (runF iv (fun _ => 0) 0)) by kernel_rfl)
  have H1 := Lib.hid (show ∀ o1 old, ((w.alloc o1).alloc (.cells old 52)).heap[w.heap.size + 1]? = some (.cells old 52 (0, 0)) from fun o1 old => heap_alloc2_new w _ _)
  have HI := Lib.hid (show ∀ f, (Tryd.prog.info? 52).map (·.size) = some (vals 73 f).size from fun f => info_vals f (by kernel_rfl))
  have hone : ∀ i, (runF iv (fun _ => 0) 0 i).oneCell' = true := fun i => by
    unfold runF; split
    · rfl
    · split <;> rfl
  have HO := Lib.hid (show (vals 73 (runF iv (fun _ => 0) 0)).all (·.oneCell') = true from vals_one hone)
  clear hone
  have hzv : ∀ w, (zeroValue 52).run Tryd.prog w = .ok (.agg (vals 73 zeroF)) w := fun _ => by kernel_rfl
  have HI8 := Lib.hid (show (Tryd.prog.info? 48).map (·.size) = some (vals 8 fun i => Value.int .u32 (tn (iv.at i))).size from info_vals _ (by kernel_rfl))
  go_wp2_with (first
    | (refine wpList_load_row rfl 48 (.global 0) rfl 0 rfl tf _ fr _ ((heap_alloc_old _ _ hlt).trans HF.out) Tryd.underlying48 rfl HI8.out ?_)
    | (refine wpList_build_to rfl 52 #[(0, .tmp 4)] rfl [(0, .agg (vals 8 fun i => .int .u32 (tn (iv.at i))))] rfl _ HB.out ?_)
    | (with_reducible refine wpList_store_row rfl 52 _ _ rfl _ _ rfl rfl 52 _ (H1.out _ _) (HI.out _) ?_ HO.out ?_))
  · rw [vals_size, vals_size]
  have hB2 : ∀ o, Below w.heap.size w (((w.alloc o).alloc (.cells (vals 73 zeroF) 52)).setRow (w.heap.size + 1) (vals 73 (runF iv (fun _ => 0) 0))) := fun o =>
    below_setRow' (((Below.refl _ _).alloc (Nat.le_refl _) _).alloc (by simp) _) (by omega) _
  have hrun0 : ∀ o, Run (((w.alloc o).alloc (.cells (vals 73 zeroF) 52)).setRow (w.heap.size + 1) (vals 73 (runF iv (fun _ => 0) 0))) (w.heap.size + 1) (byteAt (padded (flat ss))) 0 := fun o =>
    ⟨fun _ => 0, row_setRow (row_of_block (heap_alloc2_new w _ _)), fun j hj => by omega⟩
  have hfeed : Feeds (byteAt (padded (flat ss))) 0 (flat ss) := fun i hi => by rw [Nat.zero_add, byteAt_padded_old _ _ hi]
  refine (add_any (w.heap.size + 1) (byteAt (padded (flat ss))) 0 ss _ A n cap HN.out hnb ?_ (hrun0 _) (HKN.out.below HKN.out.lt (hB2 _)) (by have := HKN.out.lt; omega) (by omega) hfeed).mono ?_
  · intro h0
    obtain ⟨pb, po, e, hc⟩ := HA.out h0
    have hl := block_lt_of_cell (hc 0 h0)
    exact ⟨pb, po, e, by have : pb < w.heap.size := hl; omega, fun k hk => ((hB2 _).cell (p := ⟨pb, po + k, none⟩) hl).trans (hc k hk)⟩
  rintro e w3 ⟨rfl, hrun3, ho3⟩
  rw [Nat.zero_add] at hrun3
  have hres3 : w3.rowIs w.heap.size 25 32 (fun _ => .int .u8 0) := ho3.row (row_setRow_other ((row_alloc _ rfl (by kernel_rfl)).alloc _) (by omega)) (by omega)
  have hB3 : Below w.heap.size w w3 := (hB2 _).trans (ho3.below (by omega) (by simp; omega))
  have HR3 := Lib.hid hres3
  have HB3 := Lib.hid hB3
  have HRun := Lib.hid hrun3
  have hs3 := hrun3.choose_spec.1.lt
  clear hres3 hB3 hrun3 ho3 hrun0 hB2 hfeed HI8 HB H1 HO HI
  go_wp2_with (fail)
  refine (end_any (w.heap.size + 1) (flat ss) w3 HRun.out (HKN.out.below HKN.out.lt HB3.out) (by have := HKN.out.lt; omega) hM).mono ?_
  rintro e w4 ⟨rfl, ho4⟩
  have hres4 : w4.rowIs w.heap.size 25 32 (fun _ => .int .u8 0) := ho4.row HR3.out (by omega)
  have hB4 := below_setRow' (HB3.out.trans (ho4.below (B := w.heap.size) (by omega) (by omega))) (Nat.le_refl _) (digV (flat ss))
  have HI := Lib.hid (show ∀ f, (Tryd.prog.info? 25).map (·.size) = some (vals 32 f).size from fun f => info_vals f (by kernel_rfl))
  have HO := Lib.hid (show (vals 32 fun j => Value.int .u8 ((sumByte (sumSt (flat ss)) j).toNat : Int)).all (·.oneCell') = true from vals_one fun _ => rfl)
  have HZ := Lib.hid (show (vals 32 fun _ => Value.int .u8 0).size = (vals 32 fun j => Value.int .u8 ((sumByte (sumSt (flat ss)) j).toNat : Int)).size by rw [vals_size, vals_size])
  have H2 := Lib.hid (row_block hres4)
  have H3 := Lib.hid (row_block (row_setRow (g := fun j => Value.int .u8 ((sumByte (sumSt (flat ss)) j).toNat : Int)) hres4))
  clear hres4 ho4
  go_wp2_with (with_reducible refine wpList_store_row rfl 25 _ _ rfl _ _ rfl rfl 25 _ H2.out (HI.out _) HZ.out HO.out ?_)
  refine bodyPost_ret (results_cell_row rfl _ _ _ 25 _ _ _ rfl H3.out Tryd.underlying25 rfl (HI.out _)) rfl ?_
  exact ⟨rfl, hB4⟩
end Go.Proofs.YthmpmpofhpkmjaaDoor
