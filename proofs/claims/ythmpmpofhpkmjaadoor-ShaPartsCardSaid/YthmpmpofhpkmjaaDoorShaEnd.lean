/-
  The program's sums (package sha): the end of a sum on its way. Conditions: the sum on its way and the constants stand where it looks; fewer than 2^58 bytes.
-/
import Derived.Test.YthmpmpofhpkmjaaDoorShaBytes
import Derived.Test.YthmpmpofhpkmjaaDoorShelf
import Derived.Laws.BytesString
import Derived.Deep.RegionWith
namespace Go.Proofs.YthmpmpofhpkmjaaDoor
open Go.ChangeShapes Go.WideShapes Go.ChangeAt Go.RowKit Sh

theorem addr_add0 (g j : Nat) : (⟨g, 0, none⟩ : Addr).add j = ⟨g, j, none⟩ := by unfold Addr.add; split <;> simp_all
theorem foldl_push (ns : List UInt8) : ∀ r : ByteArray, ns.foldl (fun r b => r.push b) r = ⟨(r.data.toList ++ ns).toArray⟩ := by
  induction ns with
  | nil => intro r; simp
  | cons a ns ih =>
    intro r
    rw [List.foldl_cons, ih]
    simp [ByteArray.push]
theorem foldl_push_int (ns : List UInt8) (r : ByteArray) : (ns.map fun b => (b.toNat : Int)).foldl (fun r n => r.push (UInt8.ofNat n.toNat)) r = ns.foldl (fun r b => r.push b) r := by
  rw [List.foldl_map]
  congr 1
  funext r b
  rw [Int.toNat_natCast, UInt8.ofNat_toNat]
/-- A slice of bytes as a string. -/
theorem run_bytes_string (w : World) (a : Addr) (n cap : Nat) (f : Nat → UInt8) (h : ∀ j, j < n → w.cell? (a.add j) = some (.int .u8 ((f j).toNat : Int))) :
    (convert 55 9 (.slice (some a) n cap)).run Tryd.prog w = .ok (.string ⟨((List.range n).map f).toArray⟩) w := by
  rw [run_convert_bytes_string w _ _ 5 _ n cap Tryd.underlying55 Tryd.underlying5 Tryd.underlying9]
  have hl := run_loadCells_list (P := Tryd.prog) w a ((List.range n).map fun j => Value.int .u8 ((f j).toNat : Int)) (fun j v hv => by
    rw [List.getElem?_map] at hv
    by_cases hj : j < n
    · rw [List.getElem?_range hj] at hv
      simp only [Option.map_some, Option.some.injEq] at hv
      rw [← hv]; exact h j hj
    · rw [List.getElem?_eq_none (by simp; omega)] at hv; cases hv)
  have e : ((List.range n).map fun j => Value.int .u8 ((f j).toNat : Int)) = (((List.range n).map f).map fun b => (b.toNat : Int)).map (Value.int .u8) := by simp [List.map_map, Function.comp_def]
  rw [e] at hl
  have hlen : ((((List.range n).map f).map fun b => (b.toNat : Int)).map (Value.int .u8)).length = n := by simp
  rw [hlen] at hl
  rw [run_bytesToString w a n cap (((List.range n).map f).map fun b => (b.toNat : Int)) hl, foldl_push_int, foldl_push]
  simp

/-- The bytes of a count. -/
theorem be8_words (n : Nat) (hn : n < 18446744073709551616) : (List.range 8).map (wbyte fun i => if i = 0 then BitVec.ofNat 32 (n / 4294967296) else BitVec.ofNat 32 n) = be8 n := by
  unfold be8
  apply List.map_congr_left
  intro j hj
  have hj8 : j < 8 := List.mem_range.1 hj
  unfold wbyte
  apply UInt8.toNat_inj.1
  rw [UInt8.toNat_ofNat', UInt8.toNat_ofNat']
  match j, hj8 with
  | 0, _ => simp; omega
  | 1, _ => simp; omega
  | 2, _ => simp; omega
  | 3, _ => simp
  | 4, _ => simp; omega
  | 5, _ => simp; omega
  | 6, _ => simp; omega
  | 7, _ => simp

theorem byteAt_padded_old (l : List UInt8) (i : Nat) (h : i < l.length) : byteAt (padded l) i = l.getD i 0 := by
  unfold byteAt padded
  rw [List.getD_eq_getElem?_getD, List.getD_eq_getElem?_getD, List.append_assoc, List.append_assoc, List.getElem?_append_left h]
/-- What comes behind the text: the byte 80, nothings, the count. -/
theorem feeds_tail (l : List UInt8) : Feeds (byteAt (padded l)) l.length ([128] ++ List.replicate (zeros l.length) 0 ++ be8 (8 * l.length)) := by
  intro i hi
  have e : padded l = l ++ ([128] ++ List.replicate (zeros l.length) 0 ++ be8 (8 * l.length)) := by unfold padded; simp
  unfold byteAt
  rw [e]
  generalize [128] ++ List.replicate (zeros l.length) 0 ++ be8 (8 * l.length) = t
  rw [List.getD_eq_getElem?_getD, List.getD_eq_getElem?_getD, List.getElem?_append_right (by omega), Nat.add_sub_cancel_left]

theorem Run.below {w w' : World} {b : Nat} {L : Nat → UInt8} {m : Nat} (h : Run w b L m) {B : Nat} (hB : b < B) (k : Below B w w') : Run w' b L m := by
  obtain ⟨bt, hr, hbt⟩ := h
  exact ⟨bt, hr.of_block (k.block b hB), hbt⟩
theorem KOn.below {w w' : World} (h : KOn w) {B : Nat} (hB : 1 < B) (k : Below B w w') : KOn w' := fun i hi => (k.cell (p := ⟨1, i, none⟩) hB).trans (h i hi)
/-- Ahead of the last copy: the sum on its way is whole; two places for the result are laid. -/
structure Fin (w wr : World) (b p q : Nat) (s : St) (bt : Nat → UInt8) (n : Int) : Prop where
  only : Only w wr b
  row : wr.rowIs b 52 73 (runF s bt n)
  res : wr.rowIs p 25 32 (fun _ => .int .u8 0)
  dig : wr.rowIs q 25 32 (fun _ => .int .u8 0)
theorem Fin.drew {w wr : World} {b p q : Nat} {s : St} {bt : Nat → UInt8} {n : Int} (h : Fin w wr b p q s bt n) : Fin w wr.drew b p q s bt n := ⟨h.only.drew, h.row, h.res, h.dig⟩
theorem copy_digest {w w5 : World} {b p q g : Nat} {f : Nat → UInt8} (ho : Only w w5 b) (hp : w5.rowIs p 25 32 (fun _ => .int .u8 0)) (hq : w5.rowIs q 25 32 (fun _ => .int .u8 0)) (hpq : p ≠ q) (hlt : w.heap.size ≤ q)
    (hb : ∀ j, j < 32 → w5.cell? ⟨g, j, none⟩ = some (.int .u8 ((f j).toNat : Int))) :
    ∃ wy, (∀ ty, (Builtin.copy_ #[55, 55] ty #[.slice (some ⟨q, 0, none⟩) 32 32, .slice (some ⟨g, 0, none⟩) 32 32]).run Tryd.prog w5 = .ok (.int .i64 32) wy) ∧
      wy.rowIs q 25 32 (fun j => .int .u8 ((f j).toNat : Int)) ∧ wy.rowIs p 25 32 (fun _ => .int .u8 0) ∧ Only w wy b := by
  have hl : ((List.range 32).map fun j => Value.int .u8 ((f j).toNat : Int)).length = 32 := by simp
  refine ⟨_, fun ty => run_copy_bytes w5 _ _ ty 5 q 0 32 32 ⟨g, 0, none⟩ 32 32 ((List.range 32).map fun j => Value.int .u8 ((f j).toNat : Int)) _ 32 _ Tryd.underlying55 (by kernel_rfl) hq (by rw [hl]; rfl) (fun j v hv => ?_) (by rw [hl]; omega) (fun v hv => ?_), ?_, row_setRow_other hp hpq, ho.setRow (.inr hlt) _⟩
  · rw [addr_add0]
    rw [List.getElem?_map] at hv
    by_cases hj : j < 32
    · rw [List.getElem?_range hj] at hv
      simp only [Option.map_some, Option.some.injEq] at hv
      rw [← hv]; exact hb j hj
    · rw [List.getElem?_eq_none (by simp; omega)] at hv; cases hv
  · obtain ⟨x, _, rfl⟩ := List.mem_map.1 hv
    rfl
  · refine (row_setRow hq).congr fun j hj => ?_
    unfold spliced
    rw [hl, if_pos (by omega)]
    simp [List.getD_eq_getElem?_getD, hj]
def cnt2 (n : Nat) : Nat → BitVec 32 := fun i => if i = 0 then BitVec.ofNat 32 (8 * n / 4294967296) else BitVec.ofNat 32 (8 * n)
theorem cnt2_0 (n : Nat) (hn : n < 72057594037927936) : 8 * (n : Int) / 4294967296 = tn (cnt2 n 0) := by
  unfold tn cnt2; simp; omega
theorem cnt2_1 (n : Nat) : 8 * (n : Int) % 4294967296 = tn (cnt2 n 1) := by
  unfold tn cnt2; simp

set_option maxRecDepth 100000 in
set_option maxHeartbeats 1600000 in
theorem end_any (b : Nat) (l : List UInt8) (w : World) (hrun : Run w b (byteAt (padded l)) l.length) (hkon : KOn w) (hb : 1 ≠ b) (hl : l.length < 72057594037927936) :
    Calls Tryd.prog 21 #[.pointer (some ⟨b, 0, none⟩)] w fun e w' => e = .returned (.agg (vals 32 fun j => .int .u8 ((sumByte (sumSt l) j).toNat : Int))) ∧ Only w w' b := by
  obtain ⟨bt, hrow, hbt⟩ := hrun
  have cc : w.cell? ⟨b, 72, none⟩ = some (.int .u64 (l.length : Int)) := hrow.cell (i := 72) (by omega)
  have hlt := hrow.lt
  have HR := Lib.hid hrow
  have HBT := Lib.hid hbt
  have HKN := Lib.hid hkon
  clear hrow hbt hkon
  obtain ⟨n, hn⟩ : ∃ n, n = l.length := ⟨_, rfl⟩
  rw [← hn] at cc hl
  have HN := Lib.hid hn
  clear hn
  obtain ⟨z, hz⟩ : ∃ z, z = zeros n := ⟨_, rfl⟩
  have hz2 : ((119 - (n : Int) % 64) % 64) = (z : Int) := by rw [hz]; unfold zeros; omega
  have hz3 : z < 64 := by rw [hz]; unfold zeros; omega
  have HZ := Lib.hid hz
  clear hz
  go_enter Tryd.func21, Tryd.ntmps21
  go_wp2_with (fail)
  refine (Tryd.strings_Repeat ⟨#[0]⟩ z _ (by omega) (by show 1 * z ≤ _; omega)).mono ?_
  rintro e w1 ⟨rfl, hb1⟩
  have hs1 : w.heap.size + 1 ≤ w1.heap.size := by have := hb1.size; simpa using this
  have B1 : Below w.heap.size w w1 := ((Below.refl _ _).alloc (Nat.le_refl _) _).trans (hb1.mono (by simp))
  have hD1 : w1.rowIs w.heap.size 25 32 (fun _ => .int .u8 0) := by
    have h := hb1.block w.heap.size (by simp)
    rw [heap_alloc_new] at h
    exact row_of_block (h.trans (by kernel_rfl))
  have HD1 := Lib.hid hD1
  clear hD1 hb1 cc
  go_wp2_with (fail)
  have hcell : ∀ k, k < 2 → (w1.alloc (.cells #[.int .u32 (8 * (n : Int) / 4294967296), .int .u32 (8 * (n : Int) % 4294967296)] 47)).cell? ⟨w1.heap.size, 0 + k, none⟩ = some (.int .u32 (tn (cnt2 n k))) := by
    intro k hk
    match k, hk with
    | 0, _ => rw [cell_of_row _ _ _ _ _ _ (heap_alloc_new w1 _), ← cnt2_0 n hl]; rfl
    | 1, _ => rw [cell_of_row _ _ _ _ _ _ (heap_alloc_new w1 _), ← cnt2_1 n]; rfl
  refine (bytesOf_any (cnt2 n) _ _ 2 _ hcell (by omega) (by omega) 2).mono ?_
  clear hcell
  rintro e w2 ⟨g, rfl, hg, hbytes, hb2⟩
  have hs2 : w1.heap.size + 1 ≤ w2.heap.size := by have := hb2.size; simpa using this
  have B2 : Below w.heap.size w w2 := (B1.alloc (by omega) _).trans (hb2.mono (by simp; omega))
  have hD2 : w2.rowIs w.heap.size 25 32 (fun _ => .int .u8 0) := (HD1.out.alloc _).of_block (hb2.block _ (by simp; omega))
  have hconv := run_bytes_string w2 ⟨g, 0, none⟩ 8 8 (wbyte (cnt2 n)) (fun j hj => by rw [addr_add0]; exact hbytes j hj)
  have hbe : (List.range 8).map (wbyte (cnt2 n)) = be8 (8 * n) := be8_words (8 * n) (by omega)
  rw [hbe] at hconv
  have HD2 := Lib.hid hD2
  clear hD2 hbytes hb2 HD1 hbe B1
  go_wp2_with (fail)
  have hfl : flat [⟨#[128]⟩, ⟨(Lib.repeatL [0] z).toArray⟩, ⟨(be8 (8 * n)).toArray⟩] = [128] ++ List.replicate (zeros l.length) 0 ++ be8 (8 * l.length) := by
    have e1 := Lib.repeatL_replicate 0 1 z
    rw [Nat.mul_one] at e1
    have e2 : Lib.repeatL [0] z = List.replicate z 0 := e1
    rw [e2, ← HN.out, ← HZ.out]
    simp [flat]
  have hflen : (flat [⟨#[128]⟩, ⟨(Lib.repeatL [0] z).toArray⟩, ⟨(be8 (8 * n)).toArray⟩]).length = 9 + z := by
    rw [hfl, ← HN.out, ← HZ.out]; simp [be8_length]; omega
  have hrun : Run w b (byteAt (padded l)) n := ⟨bt, by rw [HN.out]; exact HR.out, by rw [HN.out]; exact HBT.out⟩
  have B3 := B2.alloc (by omega) (.cells #[.string ⟨#[128]⟩, .string ⟨(Lib.repeatL [0] z).toArray⟩, .string ⟨(be8 (8 * n)).toArray⟩] 9)
  refine (add_any b (byteAt (padded l)) n [⟨#[128]⟩, ⟨(Lib.repeatL [0] z).toArray⟩, ⟨(be8 (8 * n)).toArray⟩] _ _ 3 3 rfl (by omega) (fun _ => ⟨w2.heap.size, 0, rfl, by omega, ?_⟩) (hrun.below hlt B3) (HKN.out.below HKN.out.lt B3) hb (by rw [hflen]; omega) (by rw [hfl, HN.out]; exact feeds_tail l)).mono ?_
  · intro k hk
    match k, hk with
    | 0, _ => rw [cell_of_row _ _ _ _ _ _ (heap_alloc_new w2 _)]; rfl
    | 1, _ => rw [cell_of_row _ _ _ _ _ _ (heap_alloc_new w2 _)]; rfl
    | 2, _ => rw [cell_of_row _ _ _ _ _ _ (heap_alloc_new w2 _)]; rfl
  rintro e w3 ⟨rfl, hrun3, ho3⟩
  have hD3 : w3.rowIs w.heap.size 25 32 (fun _ => .int .u8 0) := ho3.row (HD2.out.alloc _) (by omega)
  have hs3 : w2.heap.size + 1 ≤ w3.heap.size := by have := ho3.size; simpa using this
  have o3 : Only w w3 b := ((Only.of_below B2 b).alloc _).trans ho3
  have hk3 : KOn w3 := HKN.out.only o3 hb
  have hm : n + (flat [⟨#[128]⟩, ⟨(Lib.repeatL [0] z).toArray⟩, ⟨(be8 (8 * n)).toArray⟩]).length = (padded l).length := by
    rw [hflen, padded_length, ← HN.out, HZ.out]; omega
  rw [hm] at hrun3
  obtain ⟨bt3, hrow3, _⟩ := hrun3
  have hsum : blocks (byteAt (padded l)) ((padded l).length / 64) = sumSt l := rfl
  rw [hsum] at hrow3
  have HD3 := Lib.hid hD3
  have HR3 := Lib.hid hrow3
  have HO3 := Lib.hid o3
  clear hD3 hrow3 o3 hk3 hm hsum ho3 B3 hrun hflen hfl HD2 hconv hg B2
  go_wp2
  refine gen_world (fun wr => Fin w wr b w.heap.size w3.heap.size (sumSt l) bt3 ((padded l).length : Int)) ⟨HO3.out.alloc _, HR3.out.alloc _, HD3.out.alloc _, row_alloc _ rfl (by kernel_rfl)⟩ ?_
  intro wr hF
  have hne : w.heap.size ≠ w3.heap.size := by omega
  have hq : w.heap.size ≤ w3.heap.size := by omega
  clear HO3 HR3 HD3 HR HBT HKN
  generalize w3.heap.size = q at hF hne hq ⊢
  have hcell : ∀ k, k < 8 → wr.drew.cell? ⟨b, 0 + k, none⟩ = some (.int .u32 (tn ((sumSt l).at k))) := fun k hk => by
    have := hF.drew.row.cell (i := k) (by omega)
    unfold runF at this
    rw [if_pos hk] at this
    rw [Nat.zero_add]; exact this
  have HB := Lib.hid (bytesOf_any (sumSt l).at b 0 8 wr.drew hcell (by omega) (by omega) 8)
  have HF := Lib.hid hF.drew
  clear hcell hF
  go_region_with ((go_at_call 27; refine HB.out.mono ?_; rintro e w5 ⟨g5, rfl, hg5, hby5, hb5⟩; obtain ⟨wy, hcopy, hyq, hyp, hyo⟩ := copy_digest (HF.out.only.then_below hb5) (HF.out.res.of_block (hb5.block _ HF.out.res.lt)) (HF.out.dig.of_block (hb5.block _ HF.out.dig.lt)) hne hq hby5))
  have hI : ∀ f, (Tryd.prog.info? 25).map (·.size) = some (vals 32 f).size := fun f => info_vals f (by kernel_rfl)
  have HI := Lib.hid hI
  have HO := Lib.hid (show (vals 32 fun j => Value.int .u8 ((wbyte (sumSt l).at j).toNat : Int)).all (·.oneCell') = true from vals_one fun _ => rfl)
  have H1 := Lib.hid (row_block hyq)
  have H2 := Lib.hid (row_block hyp)
  have HZ2 := Lib.hid (show (vals 32 fun _ => Value.int .u8 0).size = (vals 32 fun j => Value.int .u8 ((wbyte (sumSt l).at j).toNat : Int)).size by rw [vals_size, vals_size])
  have H3 := Lib.hid (row_block (row_setRow (g := fun j => Value.int .u8 ((wbyte (sumSt l).at j).toNat : Int)) hyp))
  have hfin := hyo.setRow (g := w.heap.size) (.inr (Nat.le_refl _)) (vals 32 fun j => Value.int .u8 ((wbyte (sumSt l).at j).toNat : Int))
  clear hI hyq hyp hyo hb5 hg5 hby5 hcopy HB HF
  go_wp2_with (first
    | (with_reducible refine wpList_load_row rfl 25 _ rfl _ rfl 25 _ _ _ H1.out Tryd.underlying25 rfl (HI.out _) ?_)
    | (with_reducible refine wpList_store_row rfl 25 _ _ rfl _ _ rfl rfl 25 _ H2.out (HI.out _) HZ2.out HO.out ?_))
  refine bodyPost_ret (results_cell_row rfl _ _ _ 25 _ _ _ rfl H3.out Tryd.underlying25 rfl (HI.out _)) rfl ?_
  exact ⟨rfl, hfin⟩
end Go.Proofs.YthmpmpofhpkmjaaDoor
