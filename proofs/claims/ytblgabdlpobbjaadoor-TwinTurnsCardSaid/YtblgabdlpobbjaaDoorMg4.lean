/-
  The program's sums (package sha): words as bytes. Conditions: the words stand where it looks; at most a thousand.
  The library's functions that the program calls, by their contracts: strings.Repeat, at this translation. No conditions of ours.
  The program's sums (package sha): the end of a sum on its way. Conditions: the sum on its way and the constants stand where it looks; fewer than 2^58 bytes.
  The program's sums (package sha): the sum of parts. Conditions: both tables lie as the program's text lays them; the parts stand where it looks; fewer than 2^56 bytes.
  32 bytes as digits, in plain words. No program's function here. No conditions.
  Two sums, compared: the same, or not. No conditions.
  The program's sums (package sha): the sum of parts, as plain bytes. Conditions: both tables lie as the program's text lays them; the parts stand where it looks.
  Both tables of package sha lie where the program looks. No conditions.
  Out of the card's condition: both tables lie as the program's text lays them. And the door's own heap meets it.
-/
import Derived.Test.YtblgabdlpobbjaaDoorMg3
import Derived.Deep.DeepAppendRoom
import Derived.Shelf.Strings.Builder1
import Derived.Shelf.Strings.Builder2
import Derived.Shelf.Strings.BuilderF
import Derived.Shelf.Strings.Prefix
import Derived.Shelf.Bits.Mul64
import Derived.Shelf.Strings.Repeat
import Derived.Test.YtblgabdlpobbjaaDoorRows
import Derived.Laws.BytesString
import Derived.Deep.RegionWith
import Derived.ChangeKeysEq
import Derived.Laws.StructEq
import Derived.Deep.MidRow
import Derived.ProofKit
import Derived.LaidMore
import Derived.OpenShut
import Derived.Stop.Joined
import Derived.Lib.LaidTab
set_option maxRecDepth 100000
namespace Go.Proofs.YtblgabdlpobbjaaDoor
open Go.ChangeShapes Go.WideShapes Go.ChangeAt Go.RowKit Sh

/-- The j-th byte of words, the highest of each first. -/
def wbyte (W : Nat → BitVec 32) (j : Nat) : UInt8 := UInt8.ofNat ((W (j / 4)).toNat / 2 ^ (24 - 8 * (j % 4)))
/-- A slice of n new bytes. -/
def ByteSlice (w : World) (n : Nat) (f : Nat → UInt8) (e : Ending) (w' : World) : Prop :=
  ∃ g, e = .returned (.slice (some ⟨g, 0, none⟩) n n) ∧ w.heap.size ≤ g ∧ (∀ j, j < n → w'.cell? ⟨g, j, none⟩ = some (.int .u8 ((f j).toNat : Int))) ∧ Below w.heap.size w w'
theorem wbyte_val (W : Nat → BitVec 32) (k i : Nat) (hi : i < 4) : ((wbyte W (4 * k + i)).toNat : Int) = tn (W k) / ((2 ^ (24 - 8 * i) : Nat) : Int) % 256 := by
  unfold wbyte tn
  rw [show (4 * k + i) / 4 = k by omega, show (4 * k + i) % 4 = i by omega, UInt8.toNat_ofNat']
  rw [← Int.natCast_ediv]
  omega
theorem wbyte0 (W : Nat → BitVec 32) (k : Nat) : tn (W k) / 16777216 % 256 = ((wbyte W (4 * k)).toNat : Int) := (wbyte_val W k 0 (by omega)).symm
theorem wbyte1 (W : Nat → BitVec 32) (k : Nat) : tn (W k) / 65536 % 256 = ((wbyte W (4 * k + 1)).toNat : Int) := (wbyte_val W k 1 (by omega)).symm
theorem wbyte2 (W : Nat → BitVec 32) (k : Nat) : tn (W k) / 256 % 256 = ((wbyte W (4 * k + 2)).toNat : Int) := (wbyte_val W k 2 (by omega)).symm
theorem wbyte3 (W : Nat → BitVec 32) (k : Nat) : tn (W k) % 256 = ((wbyte W (4 * k + 3)).toNat : Int) := by
  rw [wbyte_val W k 3 (by omega)]; simp
theorem range_four (f : Nat → Value) (k : Nat) : (List.range (4 * (k + 1))).map f = (List.range (4 * k)).map f ++ [f (4 * k), f (4 * k + 1), f (4 * k + 2), f (4 * k + 3)] := by
  rw [show 4 * (k + 1) = 4 * k + 1 + 1 + 1 + 1 by omega]
  simp [List.range_succ]
theorem info5 : (Tryd.prog.info? 5).map (fun i => (i.zero, i.size, i.bytes)) = some (some (.int .u8 0), 1, 1) := by kernel_rfl

set_option maxRecDepth 100000 in
set_option maxHeartbeats 1000000 in
theorem bytesOf_any (W : Nat → BitVec 32) (pb po n : Nat) (w : World) (hcell : ∀ k, k < n → w.cell? ⟨pb, po + k, none⟩ = some (.int .u32 (tn (W k)))) (hn0 : 0 < n) (hn : n ≤ 1000) (cap : Nat) :
    Calls Tryd.prog 89 #[.slice (some ⟨pb, po, none⟩) n cap] w (ByteSlice w (4 * n) (wbyte W)) := by
  have hlt0 := block_lt_of_cell (hcell 0 hn0)
  have HC := Lib.hid hcell
  clear hcell
  obtain ⟨i0, hi, hz0, hz1, hz2⟩ := info_parts info5
  have HI := Lib.hid hi
  have HZ0 := Lib.hid hz0
  have HZ1 := Lib.hid hz1
  have HZ2 := Lib.hid hz2
  clear hi hz0 hz1 hz2
  go_enter Tryd.func89, Tryd.ntmps89
  go_wp2_with (at_make; refine wpList_make_own _ rfl _ _ 46 rfl w.heap.size 5 i0 _ 1 Tryd.underlying46 HI.out HZ0.out HZ1.out .i64 .i64 _ (4 * n) rfl rfl (by omega) (by rw [HZ2.out]; omega) (by unfold maxLen; omega) (Nat.le_refl _) ?_)
  intro w1 hown hg1
  have hb1 : Below w.heap.size w w1 := (Below.refl _ _).grown hg1 (Nat.le_refl _) (fun k hk => by cases hk)
  clear hg1
  go_wp2
  go_loopw [3, 12] (fun v i wr => ∃ k : Nat, k ≤ n ∧ i = .int .i64 k ∧ v = .slice (some ⟨w.heap.size, 0, none⟩) (4 * k) (4 * n) ∧ wr.ownsRow w.heap.size 5 1 (.slice (some ⟨w.heap.size, 0, none⟩) (4 * k) (4 * n)) (4 * k) ((List.range (4 * k)).map fun j => .int .u8 ((wbyte W j).toNat : Int)) ∧ Below w.heap.size w wr) (fun _ i _ => n - (intOf i).toNat)
  case atStart => exact ⟨0, Nat.zero_le _, rfl, rfl, hown, hb1⟩
  case round =>
    clear hown hb1
    obtain ⟨k, hk, rfl, rfl, hown, hb1⟩ := hrel
    by_cases hlt : k < n
    · have hc := (hb1.cell (p := ⟨pb, po + k, none⟩) hlt0).trans (HC.out k hlt)
      have hs := hb1.size
      go_wp2_with (at_builtin; refine wpList_append_own_spare _ rfl (.tmp 16) (.tmp 28) 46 rfl w.heap.size 5 i0 1 Tryd.underlying46 HI.out HZ1.out w.heap.size (4 * k) (4 * n) _ rfl (hown.alloc _) ⟨wr.heap.size, 0, none⟩ 4 4 [.int .u8 (tn (W k) / 16777216 % 256), .int .u8 (tn (W k) / 65536 % 256), .int .u8 (tn (W k) / 256 % 256), .int .u8 (tn (W k) % 256)] rfl rfl ?c1 ?c2 (by omega) ?_)
      case c1 =>
        intro j u hj
        match j, hj with
        | 0, hj => simp at hj; subst hj; simp [Addr.add]
        | 1, hj => simp at hj; subst hj; simp [Addr.add]
        | 2, hj => simp at hj; subst hj; simp [Addr.add]
        | 3, hj => simp at hj; subst hj; simp [Addr.add]
      case c2 =>
        intro u hu
        simp only [List.mem_cons, List.not_mem_nil, or_false] at hu
        rcases hu with rfl | rfl | rfl | rfl <;> rfl
      intro w2 hown2 hg2
      have hb2 : Below w.heap.size w w2 := (hb1.alloc hs _).grown hg2 (by simp; omega) (fun j hj => by injection hj with hj; omega)
      rw [wbyte0, wbyte1, wbyte2, wbyte3, ← range_four (fun j => Value.int .u8 ((wbyte W j).toNat : Int))] at hown2
      clear hown hb1 hg2 hc
      go_wp2
      go_roundw
      case rel => exact ⟨k + 1, by omega, by go_num, by rw [Nat.mul_succ], by rw [Nat.mul_succ] at hown2 ⊢; exact hown2, hb2⟩
      case measure => simp [intOf]; omega
    · have HK := Lib.hid (show k = n by omega)
      go_wp2
      go_ret
      have e := HK.out
      subst e
      refine ⟨w.heap.size, rfl, Nat.le_refl _, fun j hj => ?_, hb1⟩
      rw [hown.cellAt j (by omega)]
      simp [hj]
end Go.Proofs.YtblgabdlpobbjaaDoor
namespace Go.Proofs
open Go.Shelf
def Tryd.lays105_ren : Go.Shelf.Ren := ⟨fun | 105 => 40 | 212 => 55 | 99 => 56 | 165 => 57 | 166 => 58 | 170 => 59 | 169 => 60 | 263 => 73 | 264 => 74 | 206 => 75 | 240 => 76 | 241 => 77 | 276 => 85 | 277 => 86 | n => n, fun | 9 => 9 | 3 => 3 | 4 => 4 | 20 => 20 | 0 => 0 | 46 => 36 | 109 => 93 | 5 => 5 | 72 => 98 | 76 => 102 | 51 => 116 | 146 => 117 | 53 => 119 | 148 => 120 | 70 => 96 | 37 => 46 | 75 => 101 | 127 => 122 | 164 => 134 | 80 => 42 | n => n, fun | n => n⟩
theorem Tryd.lays105 : Go.Proofs.Lays.n105 Tryd.prog Tryd.lays105_ren := {
  mixed := by kernel_rfl
  f99 := Tryd.func56.trans (congrArg some (by kernel_rfl))
  f105 := Tryd.func40.trans (congrArg some (by kernel_rfl))
  f165 := Tryd.func57.trans (congrArg some (by kernel_rfl))
  f166 := Tryd.func58.trans (congrArg some (by kernel_rfl))
  f169 := Tryd.func60.trans (congrArg some (by kernel_rfl))
  f170 := Tryd.func59.trans (congrArg some (by kernel_rfl))
  f206 := Tryd.func75.trans (congrArg some (by kernel_rfl))
  f212 := Tryd.func55.trans (congrArg some (by kernel_rfl))
  f240 := Tryd.func76.trans (congrArg some (by kernel_rfl))
  f241 := Tryd.func77.trans (congrArg some (by kernel_rfl))
  f263 := Tryd.func73.trans (congrArg some (by kernel_rfl))
  f264 := Tryd.func74.trans (congrArg some (by kernel_rfl))
  f276 := Tryd.func85.trans (congrArg some (by kernel_rfl))
  f277 := Tryd.func86.trans (congrArg some (by kernel_rfl))
  t0 := Tryd.underlying0
  a0 := Tryd.isAgg0
  z0 := Tryd.sizeOf0
  v0 := Tryd.zeroValue0
  t3 := Tryd.underlying3
  a3 := Tryd.isAgg3
  z3 := Tryd.sizeOf3
  v3 := Tryd.zeroValue3
  t4 := Tryd.underlying4
  a4 := Tryd.isAgg4
  z4 := Tryd.sizeOf4
  v4 := Tryd.zeroValue4
  t5 := Tryd.underlying5
  a5 := Tryd.isAgg5
  z5 := Tryd.sizeOf5
  v5 := Tryd.zeroValue5
  t9 := Tryd.underlying9
  a9 := Tryd.isAgg9
  z9 := Tryd.sizeOf9
  v9 := Tryd.zeroValue9
  t20 := Tryd.underlying20
  a20 := Tryd.isAgg20
  z20 := Tryd.sizeOf20
  v20 := Tryd.zeroValue20
  t37 := Tryd.underlying46
  a37 := Tryd.isAgg46
  z37 := Tryd.sizeOf46
  v37 := Tryd.zeroValue46
  t46 := Tryd.underlying36
  a46 := Tryd.isAgg36
  z46 := Tryd.sizeOf36
  v46 := Tryd.zeroValue36
  t51 := Tryd.underlying116
  a51 := Tryd.isAgg116
  z51 := Tryd.sizeOf116
  v51 := Tryd.zeroValue116
  t53 := Tryd.underlying119
  a53 := Tryd.isAgg119
  z53 := Tryd.sizeOf119
  v53 := Tryd.zeroValue119
  t70 := Tryd.underlying96
  a70 := Tryd.isAgg96
  z70 := Tryd.sizeOf96
  v70 := Tryd.zeroValue96
  t72 := Tryd.underlying98
  a72 := Tryd.isAgg98
  z72 := Tryd.sizeOf98
  v72 := Tryd.zeroValue98
  t75 := Tryd.underlying101
  a75 := Tryd.isAgg101
  z75 := Tryd.sizeOf101
  v75 := Tryd.zeroValue101
  t76 := Tryd.underlying102
  a76 := Tryd.isAgg102
  z76 := Tryd.sizeOf102
  v76 := Tryd.zeroValue102
  t109 := Tryd.underlying93
  a109 := Tryd.isAgg93
  z109 := Tryd.sizeOf93
  v109 := Tryd.zeroValue93
  t127 := Tryd.underlying122
  a127 := Tryd.isAgg122
  z127 := Tryd.sizeOf122
  v127 := Tryd.zeroValue122
  t146 := Tryd.underlying117
  a146 := Tryd.isAgg117
  z146 := Tryd.sizeOf117
  v146 := Tryd.zeroValue117
  t148 := Tryd.underlying120
  a148 := Tryd.isAgg120
  z148 := Tryd.sizeOf120
  v148 := Tryd.zeroValue120
  t164 := Tryd.underlying134
  a164 := Tryd.isAgg134
  z164 := Tryd.sizeOf134
  v164 := Tryd.zeroValue134 }
theorem Tryd.Builder_Extra_105 : Builder.Extra Tryd.prog Tryd.lays105_ren := {
  sizeBuilder := by kernel_rfl
  liesBuilder := by kernel_rfl
  t5 := Tryd.underlying5
  a5 := Tryd.isAgg5
  z5 := Tryd.sizeOf5
  v5 := Tryd.zeroValue5
  infoByte := by kernel_rfl
  cellsByte := by kernel_rfl
  sizeByte := by kernel_rfl
  neB5 := by decide }
open Go.RowKit Go.Lib in
theorem Tryd.strings_Repeat (s : ByteArray) (c : Nat) (w : World) (hc : c ≤ 9223372036854775807) (hlen : s.size * c ≤ 140737488355328) :
    Calls Tryd.prog 40 #[.string s, .int .i64 c] w fun e w' => e = .returned (.string ⟨(Lib.repeatL s.data.toList c).toArray⟩) ∧ Below w.heap.size w w' := Any.strings_Repeat Tryd.lays105 Tryd.Builder_Extra_105 s c w hc hlen
end Go.Proofs
namespace Go.Proofs.YtblgabdlpobbjaaDoor
open Go.ChangeShapes Go.WideShapes Go.ChangeAt Go.RowKit Sh

theorem addr_add0 (g j : Nat) : (⟨g, 0, none⟩ : Addr).add j = ⟨g, j, none⟩ := by unfold Addr.add; split <;> simp_all
theorem foldl_push (ns : List UInt8) : ∀ r : ByteArray, ns.foldl (fun r b => r.push b) r = ⟨(r.data.toList ++ ns).toArray⟩ := by
  induction ns with
  | nil => intro r; simp
  | cons a ns ih =>
    intro r
    rw [List.foldl_cons, ih]
    simp [ByteArray.push]
theorem foldl_push_int (ns : List UInt8) (r : ByteArray) : (ns.map fun b => (b.toNat : Int)).foldl (fun r n => r.push (UInt8.ofNat n.toNat)) r = ns.foldl (fun r b => r.push b) r := by
  rw [List.foldl_map]
  congr 1
  funext r b
  rw [Int.toNat_natCast, UInt8.ofNat_toNat]
/-- A slice of bytes as a string. -/
theorem run_bytes_string (w : World) (a : Addr) (n cap : Nat) (f : Nat → UInt8) (h : ∀ j, j < n → w.cell? (a.add j) = some (.int .u8 ((f j).toNat : Int))) :
    (convert 46 9 (.slice (some a) n cap)).run Tryd.prog w = .ok (.string ⟨((List.range n).map f).toArray⟩) w := by
  rw [run_convert_bytes_string w _ _ 5 _ n cap Tryd.underlying46 Tryd.underlying5 Tryd.underlying9]
  have hl := run_loadCells_list (P := Tryd.prog) w a ((List.range n).map fun j => Value.int .u8 ((f j).toNat : Int)) (fun j v hv => by
    rw [List.getElem?_map] at hv
    by_cases hj : j < n
    · rw [List.getElem?_range hj] at hv
      simp only [Option.map_some, Option.some.injEq] at hv
      rw [← hv]; exact h j hj
    · rw [List.getElem?_eq_none (by simp; omega)] at hv; cases hv)
  have e : ((List.range n).map fun j => Value.int .u8 ((f j).toNat : Int)) = (((List.range n).map f).map fun b => (b.toNat : Int)).map (Value.int .u8) := by simp [List.map_map, Function.comp_def]
  rw [e] at hl
  have hlen : ((((List.range n).map f).map fun b => (b.toNat : Int)).map (Value.int .u8)).length = n := by simp
  rw [hlen] at hl
  rw [run_bytesToString w a n cap (((List.range n).map f).map fun b => (b.toNat : Int)) hl, foldl_push_int, foldl_push]
  simp

/-- The bytes of a count. -/
theorem be8_words (n : Nat) (hn : n < 18446744073709551616) : (List.range 8).map (wbyte fun i => if i = 0 then BitVec.ofNat 32 (n / 4294967296) else BitVec.ofNat 32 n) = be8 n := by
  unfold be8
  apply List.map_congr_left
  intro j hj
  have hj8 : j < 8 := List.mem_range.1 hj
  unfold wbyte
  apply UInt8.toNat_inj.1
  rw [UInt8.toNat_ofNat', UInt8.toNat_ofNat']
  match j, hj8 with
  | 0, _ => simp; omega
  | 1, _ => simp; omega
  | 2, _ => simp; omega
  | 3, _ => simp
  | 4, _ => simp; omega
  | 5, _ => simp; omega
  | 6, _ => simp; omega
  | 7, _ => simp

theorem byteAt_padded_old (l : List UInt8) (i : Nat) (h : i < l.length) : byteAt (padded l) i = l.getD i 0 := by
  unfold byteAt padded
  rw [List.getD_eq_getElem?_getD, List.getD_eq_getElem?_getD, List.append_assoc, List.append_assoc, List.getElem?_append_left h]
/-- What comes behind the text: the byte 80, nothings, the count. -/
theorem feeds_tail (l : List UInt8) : Feeds (byteAt (padded l)) l.length ([128] ++ List.replicate (zeros l.length) 0 ++ be8 (8 * l.length)) := by
  intro i hi
  have e : padded l = l ++ ([128] ++ List.replicate (zeros l.length) 0 ++ be8 (8 * l.length)) := by unfold padded; simp
  unfold byteAt
  rw [e]
  generalize [128] ++ List.replicate (zeros l.length) 0 ++ be8 (8 * l.length) = t
  rw [List.getD_eq_getElem?_getD, List.getD_eq_getElem?_getD, List.getElem?_append_right (by omega), Nat.add_sub_cancel_left]

theorem Run.below {w w' : World} {b : Nat} {L : Nat → UInt8} {m : Nat} (h : Run w b L m) {B : Nat} (hB : b < B) (k : Below B w w') : Run w' b L m := by
  obtain ⟨bt, hr, hbt⟩ := h
  exact ⟨bt, hr.of_block (k.block b hB), hbt⟩
theorem KOn.below {w w' : World} (h : KOn w) {B : Nat} (hB : 2 < B) (k : Below B w w') : KOn w' := fun i hi => (k.cell (p := ⟨2, i, none⟩) hB).trans (h i hi)
/-- Ahead of the last copy: the sum on its way is whole; two places for the result are laid. -/
structure Fin (w wr : World) (b p q : Nat) (s : St) (bt : Nat → UInt8) (n : Int) : Prop where
  only : Only w wr b
  row : wr.rowIs b 131 73 (runF s bt n)
  res : wr.rowIs p 87 32 (fun _ => .int .u8 0)
  dig : wr.rowIs q 87 32 (fun _ => .int .u8 0)
theorem Fin.drew {w wr : World} {b p q : Nat} {s : St} {bt : Nat → UInt8} {n : Int} (h : Fin w wr b p q s bt n) : Fin w wr.drew b p q s bt n := ⟨h.only.drew, h.row, h.res, h.dig⟩
theorem copy_digest {w w5 : World} {b p q g : Nat} {f : Nat → UInt8} (ho : Only w w5 b) (hp : w5.rowIs p 87 32 (fun _ => .int .u8 0)) (hq : w5.rowIs q 87 32 (fun _ => .int .u8 0)) (hpq : p ≠ q) (hlt : w.heap.size ≤ q)
    (hb : ∀ j, j < 32 → w5.cell? ⟨g, j, none⟩ = some (.int .u8 ((f j).toNat : Int))) :
    ∃ wy, (∀ ty, (Builtin.copy_ #[46, 46] ty #[.slice (some ⟨q, 0, none⟩) 32 32, .slice (some ⟨g, 0, none⟩) 32 32]).run Tryd.prog w5 = .ok (.int .i64 32) wy) ∧
      wy.rowIs q 87 32 (fun j => .int .u8 ((f j).toNat : Int)) ∧ wy.rowIs p 87 32 (fun _ => .int .u8 0) ∧ Only w wy b := by
  have hl : ((List.range 32).map fun j => Value.int .u8 ((f j).toNat : Int)).length = 32 := by simp
  refine ⟨_, fun ty => run_copy_bytes w5 _ _ ty 5 q 0 32 32 ⟨g, 0, none⟩ 32 32 ((List.range 32).map fun j => Value.int .u8 ((f j).toNat : Int)) _ 32 _ Tryd.underlying46 (by kernel_rfl) hq (by rw [hl]; rfl) (fun j v hv => ?_) (by rw [hl]; omega) (fun v hv => ?_), ?_, row_setRow_other hp hpq, ho.setRow (.inr hlt) _⟩
  · rw [addr_add0]
    rw [List.getElem?_map] at hv
    by_cases hj : j < 32
    · rw [List.getElem?_range hj] at hv
      simp only [Option.map_some, Option.some.injEq] at hv
      rw [← hv]; exact hb j hj
    · rw [List.getElem?_eq_none (by simp; omega)] at hv; cases hv
  · obtain ⟨x, _, rfl⟩ := List.mem_map.1 hv
    rfl
  · refine (row_setRow hq).congr fun j hj => ?_
    unfold spliced
    rw [hl, if_pos (by omega)]
    simp [List.getD_eq_getElem?_getD, hj]
def cnt2 (n : Nat) : Nat → BitVec 32 := fun i => if i = 0 then BitVec.ofNat 32 (8 * n / 4294967296) else BitVec.ofNat 32 (8 * n)
theorem cnt2_0 (n : Nat) (hn : n < 72057594037927936) : 8 * (n : Int) / 4294967296 = tn (cnt2 n 0) := by
  unfold tn cnt2; simp; omega
theorem cnt2_1 (n : Nat) : 8 * (n : Int) % 4294967296 = tn (cnt2 n 1) := by
  unfold tn cnt2; simp

set_option maxRecDepth 100000 in
set_option maxHeartbeats 1600000 in
theorem end_any (b : Nat) (l : List UInt8) (w : World) (hrun : Run w b (byteAt (padded l)) l.length) (hkon : KOn w) (hb : 2 ≠ b) (hl : l.length < 72057594037927936) :
    Calls Tryd.prog 84 #[.pointer (some ⟨b, 0, none⟩)] w fun e w' => e = .returned (.agg (vals 32 fun j => .int .u8 ((sumByte (sumSt l) j).toNat : Int))) ∧ Only w w' b := by
  obtain ⟨bt, hrow, hbt⟩ := hrun
  have cc : w.cell? ⟨b, 72, none⟩ = some (.int .u64 (l.length : Int)) := hrow.cell (i := 72) (by omega)
  have hlt := hrow.lt
  have HR := Lib.hid hrow
  have HBT := Lib.hid hbt
  have HKN := Lib.hid hkon
  clear hrow hbt hkon
  obtain ⟨n, hn⟩ : ∃ n, n = l.length := ⟨_, rfl⟩
  rw [← hn] at cc hl
  have HN := Lib.hid hn
  clear hn
  obtain ⟨z, hz⟩ : ∃ z, z = zeros n := ⟨_, rfl⟩
  have hz2 : ((119 - (n : Int) % 64) % 64) = (z : Int) := by rw [hz]; unfold zeros; omega
  have hz3 : z < 64 := by rw [hz]; unfold zeros; omega
  have HZ := Lib.hid hz
  clear hz
  go_enter Tryd.func84, Tryd.ntmps84
  go_wp2_with (fail)
  refine (Tryd.strings_Repeat ⟨#[0]⟩ z _ (by omega) (by show 1 * z ≤ _; omega)).mono ?_
  rintro e w1 ⟨rfl, hb1⟩
  have hs1 : w.heap.size + 1 ≤ w1.heap.size := by have := hb1.size; simpa using this
  have B1 : Below w.heap.size w w1 := ((Below.refl _ _).alloc (Nat.le_refl _) _).trans (hb1.mono (by simp))
  have hD1 : w1.rowIs w.heap.size 87 32 (fun _ => .int .u8 0) := by
    have h := hb1.block w.heap.size (by simp)
    rw [heap_alloc_new] at h
    exact row_of_block (h.trans (by kernel_rfl))
  have HD1 := Lib.hid hD1
  clear hD1 hb1 cc
  go_wp2_with (fail)
  have hcell : ∀ k, k < 2 → (w1.alloc (.cells #[.int .u32 (8 * (n : Int) / 4294967296), .int .u32 (8 * (n : Int) % 4294967296)] 116)).cell? ⟨w1.heap.size, 0 + k, none⟩ = some (.int .u32 (tn (cnt2 n k))) := by
    intro k hk
    match k, hk with
    | 0, _ => rw [cell_of_row _ _ _ _ _ _ (heap_alloc_new w1 _), ← cnt2_0 n hl]; rfl
    | 1, _ => rw [cell_of_row _ _ _ _ _ _ (heap_alloc_new w1 _), ← cnt2_1 n]; rfl
  refine (bytesOf_any (cnt2 n) _ _ 2 _ hcell (by omega) (by omega) 2).mono ?_
  clear hcell
  rintro e w2 ⟨g, rfl, hg, hbytes, hb2⟩
  have hs2 : w1.heap.size + 1 ≤ w2.heap.size := by have := hb2.size; simpa using this
  have B2 : Below w.heap.size w w2 := (B1.alloc (by omega) _).trans (hb2.mono (by simp; omega))
  have hD2 : w2.rowIs w.heap.size 87 32 (fun _ => .int .u8 0) := (HD1.out.alloc _).of_block (hb2.block _ (by simp; omega))
  have hconv := run_bytes_string w2 ⟨g, 0, none⟩ 8 8 (wbyte (cnt2 n)) (fun j hj => by rw [addr_add0]; exact hbytes j hj)
  have hbe : (List.range 8).map (wbyte (cnt2 n)) = be8 (8 * n) := be8_words (8 * n) (by omega)
  rw [hbe] at hconv
  have HD2 := Lib.hid hD2
  clear hD2 hbytes hb2 HD1 hbe B1
  go_wp2_with (fail)
  have hfl : flat [⟨#[128]⟩, ⟨(Lib.repeatL [0] z).toArray⟩, ⟨(be8 (8 * n)).toArray⟩] = [128] ++ List.replicate (zeros l.length) 0 ++ be8 (8 * l.length) := by
    have e1 := Lib.repeatL_replicate 0 1 z
    rw [Nat.mul_one] at e1
    have e2 : Lib.repeatL [0] z = List.replicate z 0 := e1
    rw [e2, ← HN.out, ← HZ.out]
    simp [flat]
  have hflen : (flat [⟨#[128]⟩, ⟨(Lib.repeatL [0] z).toArray⟩, ⟨(be8 (8 * n)).toArray⟩]).length = 9 + z := by
    rw [hfl, ← HN.out, ← HZ.out]; simp [be8_length]; omega
  have hrun : Run w b (byteAt (padded l)) n := ⟨bt, by rw [HN.out]; exact HR.out, by rw [HN.out]; exact HBT.out⟩
  have B3 := B2.alloc (by omega) (.cells #[.string ⟨#[128]⟩, .string ⟨(Lib.repeatL [0] z).toArray⟩, .string ⟨(be8 (8 * n)).toArray⟩] 9)
  refine (add_any b (byteAt (padded l)) n [⟨#[128]⟩, ⟨(Lib.repeatL [0] z).toArray⟩, ⟨(be8 (8 * n)).toArray⟩] _ _ 3 3 rfl (by omega) (fun _ => ⟨w2.heap.size, 0, rfl, by omega, ?_⟩) (hrun.below hlt B3) (HKN.out.below HKN.out.lt B3) hb (by rw [hflen]; omega) (by rw [hfl, HN.out]; exact feeds_tail l)).mono ?_
  · intro k hk
    match k, hk with
    | 0, _ => rw [cell_of_row _ _ _ _ _ _ (heap_alloc_new w2 _)]; rfl
    | 1, _ => rw [cell_of_row _ _ _ _ _ _ (heap_alloc_new w2 _)]; rfl
    | 2, _ => rw [cell_of_row _ _ _ _ _ _ (heap_alloc_new w2 _)]; rfl
  rintro e w3 ⟨rfl, hrun3, ho3⟩
  have hD3 : w3.rowIs w.heap.size 87 32 (fun _ => .int .u8 0) := ho3.row (HD2.out.alloc _) (by omega)
  have hs3 : w2.heap.size + 1 ≤ w3.heap.size := by have := ho3.size; simpa using this
  have o3 : Only w w3 b := ((Only.of_below B2 b).alloc _).trans ho3
  have hk3 : KOn w3 := HKN.out.only o3 hb
  have hm : n + (flat [⟨#[128]⟩, ⟨(Lib.repeatL [0] z).toArray⟩, ⟨(be8 (8 * n)).toArray⟩]).length = (padded l).length := by
    rw [hflen, padded_length, ← HN.out, HZ.out]; omega
  rw [hm] at hrun3
  obtain ⟨bt3, hrow3, _⟩ := hrun3
  have hsum : blocks (byteAt (padded l)) ((padded l).length / 64) = sumSt l := rfl
  rw [hsum] at hrow3
  have HD3 := Lib.hid hD3
  have HR3 := Lib.hid hrow3
  have HO3 := Lib.hid o3
  clear hD3 hrow3 o3 hk3 hm hsum ho3 B3 hrun hflen hfl HD2 hconv hg B2
  go_wp2
  refine gen_world (fun wr => Fin w wr b w.heap.size w3.heap.size (sumSt l) bt3 ((padded l).length : Int)) ⟨HO3.out.alloc _, HR3.out.alloc _, HD3.out.alloc _, row_alloc _ rfl (by kernel_rfl)⟩ ?_
  intro wr hF
  have hne : w.heap.size ≠ w3.heap.size := by omega
  have hq : w.heap.size ≤ w3.heap.size := by omega
  clear HO3 HR3 HD3 HR HBT HKN
  generalize w3.heap.size = q at hF hne hq ⊢
  have hcell : ∀ k, k < 8 → wr.drew.cell? ⟨b, 0 + k, none⟩ = some (.int .u32 (tn ((sumSt l).at k))) := fun k hk => by
    have := hF.drew.row.cell (i := k) (by omega)
    unfold runF at this
    rw [if_pos hk] at this
    rw [Nat.zero_add]; exact this
  have HB := Lib.hid (bytesOf_any (sumSt l).at b 0 8 wr.drew hcell (by omega) (by omega) 8)
  have HF := Lib.hid hF.drew
  clear hcell hF
  go_region_with ((go_at_call 89; refine HB.out.mono ?_; rintro e w5 ⟨g5, rfl, hg5, hby5, hb5⟩; obtain ⟨wy, hcopy, hyq, hyp, hyo⟩ := copy_digest (HF.out.only.then_below hb5) (HF.out.res.of_block (hb5.block _ HF.out.res.lt)) (HF.out.dig.of_block (hb5.block _ HF.out.dig.lt)) hne hq hby5))
  have hI : ∀ f, (Tryd.prog.info? 87).map (·.size) = some (vals 32 f).size := fun f => info_vals f (by kernel_rfl)
  have HI := Lib.hid hI
  have HO := Lib.hid (show (vals 32 fun j => Value.int .u8 ((wbyte (sumSt l).at j).toNat : Int)).all (·.oneCell') = true from vals_one fun _ => rfl)
  have H1 := Lib.hid (row_block hyq)
  have H2 := Lib.hid (row_block hyp)
  have HZ2 := Lib.hid (show (vals 32 fun _ => Value.int .u8 0).size = (vals 32 fun j => Value.int .u8 ((wbyte (sumSt l).at j).toNat : Int)).size by rw [vals_size, vals_size])
  have H3 := Lib.hid (row_block (row_setRow (g := fun j => Value.int .u8 ((wbyte (sumSt l).at j).toNat : Int)) hyp))
  have hfin := hyo.setRow (g := w.heap.size) (.inr (Nat.le_refl _)) (vals 32 fun j => Value.int .u8 ((wbyte (sumSt l).at j).toNat : Int))
  clear hI hyq hyp hyo hb5 hg5 hby5 hcopy HB HF
  go_wp2_with (first
    | (with_reducible refine wpList_load_row rfl 87 _ rfl _ rfl 87 _ _ _ H1.out Tryd.underlying87 rfl (HI.out _) ?_)
    | (with_reducible refine wpList_store_row rfl 87 _ _ rfl _ _ rfl rfl 87 _ H2.out (HI.out _) HZ2.out HO.out ?_))
  refine bodyPost_ret (results_cell_row rfl _ _ _ 87 _ _ _ rfl H3.out Tryd.underlying87 rfl (HI.out _)) rfl ?_
  exact ⟨rfl, hfin⟩
end Go.Proofs.YtblgabdlpobbjaaDoor
namespace Go.Proofs.YtblgabdlpobbjaaDoor
open Go.ChangeShapes Go.WideShapes Go.ChangeAt Go.RowKit Sh

/-- A sum as the program hands it on. -/
def digV (l : List UInt8) : Array Value := vals 32 fun j => .int .u8 ((sumByte (sumSt l) j).toNat : Int)
/-- An empty sum on its way, all of it nothing. -/
def zeroF : Nat → Value := fun j => if j < 8 then .int .u32 0 else if j < 72 then .int .u8 0 else .int .u64 0
/-- The first words lie in the first variable. -/
def FOn (w : World) : Prop := ∃ t fr, w.heap[0]? = some (.cells (vals 8 fun i => .int .u32 (tn (iv.at i))) t fr)
theorem FOn.lt {w : World} (h : FOn w) : 0 < w.heap.size := by obtain ⟨t, fr, h⟩ := h; exact (Array.getElem?_eq_some_iff.1 h).1
theorem FOn.below {w w' : World} (h : FOn w) (k : Below w.heap.size w w') : FOn w' := by
  have hl := h.lt
  obtain ⟨t, fr, h'⟩ := h
  exact ⟨t, fr, (k.block _ hl).trans h'⟩

set_option maxRecDepth 100000 in
set_option maxHeartbeats 1600000 in
theorem of_any (ss : List ByteArray) (w : World) (A : Option Addr) (n cap : Nat) (hn : n = ss.length) (hnb : n ≤ 1152921504606846976)
    (hA : 0 < n → ∃ pb po, A = some ⟨pb, po, none⟩ ∧ ∀ k, k < n → w.cell? ⟨pb, po + k, none⟩ = some (.string (ss.getD k ByteArray.empty)))
    (hF : FOn w) (hK : KOn w) (hM : (flat ss).length < 72057594037927936) :
    Calls Tryd.prog 71 #[.slice A n cap] w fun e w' => e = .returned (.agg (digV (flat ss))) ∧ Below w.heap.size w w' := by
  have hlt := hF.lt
  obtain ⟨tf, fr, hF0⟩ := hF
  have HF := Lib.hid hF0
  have HKN := Lib.hid hK
  have HN := Lib.hid hn
  have HA := Lib.hid hA
  clear hF0 hK hn hA
  go_enter Tryd.func71, Tryd.ntmps71
  have HB := Lib.hid (show Tryd.prog.built 131 [(0, .agg (vals 8 fun i => .int .u32 (tn (iv.at i))))] = some (vals 73 (runF iv (fun _ => 0) 0)) by kernel_rfl)
  have H1 := Lib.hid (show ∀ o1 old, ((w.alloc o1).alloc (.cells old 131)).heap[w.heap.size + 1]? = some (.cells old 131 (0, 0)) from fun o1 old => heap_alloc2_new w _ _)
  have HI := Lib.hid (show ∀ f, (Tryd.prog.info? 131).map (·.size) = some (vals 73 f).size from fun f => info_vals f (by kernel_rfl))
  have hone : ∀ i, (runF iv (fun _ => 0) 0 i).oneCell' = true := fun i => by
    unfold runF; split
    · rfl
    · split <;> rfl
  have HO := Lib.hid (show (vals 73 (runF iv (fun _ => 0) 0)).all (·.oneCell') = true from vals_one hone)
  clear hone
  have hzv : ∀ w, (zeroValue 131).run Tryd.prog w = .ok (.agg (vals 73 zeroF)) w := fun _ => by kernel_rfl
  have HI8 := Lib.hid (show (Tryd.prog.info? 128).map (·.size) = some (vals 8 fun i => Value.int .u32 (tn (iv.at i))).size from info_vals _ (by kernel_rfl))
  go_wp2_with (first
    | (refine wpList_load_row rfl 128 (.global 0) rfl 0 rfl tf _ fr _ ((heap_alloc_old _ _ hlt).trans HF.out) Tryd.underlying128 rfl HI8.out ?_)
    | (refine wpList_build_to rfl 131 #[(0, .tmp 4)] rfl [(0, .agg (vals 8 fun i => .int .u32 (tn (iv.at i))))] rfl _ HB.out ?_)
    | (with_reducible refine wpList_store_row rfl 131 _ _ rfl _ _ rfl rfl 131 _ (H1.out _ _) (HI.out _) ?_ HO.out ?_))
  · rw [vals_size, vals_size]
  have hB2 : ∀ o, Below w.heap.size w (((w.alloc o).alloc (.cells (vals 73 zeroF) 131)).setRow (w.heap.size + 1) (vals 73 (runF iv (fun _ => 0) 0))) := fun o =>
    below_setRow' (((Below.refl _ _).alloc (Nat.le_refl _) _).alloc (by simp) _) (by omega) _
  have hrun0 : ∀ o, Run (((w.alloc o).alloc (.cells (vals 73 zeroF) 131)).setRow (w.heap.size + 1) (vals 73 (runF iv (fun _ => 0) 0))) (w.heap.size + 1) (byteAt (padded (flat ss))) 0 := fun o =>
    ⟨fun _ => 0, row_setRow (row_of_block (heap_alloc2_new w _ _)), fun j hj => by omega⟩
  have hfeed : Feeds (byteAt (padded (flat ss))) 0 (flat ss) := fun i hi => by rw [Nat.zero_add, byteAt_padded_old _ _ hi]
  refine (add_any (w.heap.size + 1) (byteAt (padded (flat ss))) 0 ss _ A n cap HN.out hnb ?_ (hrun0 _) (HKN.out.below HKN.out.lt (hB2 _)) (by have := HKN.out.lt; omega) (by omega) hfeed).mono ?_
  · intro h0
    obtain ⟨pb, po, e, hc⟩ := HA.out h0
    have hl := block_lt_of_cell (hc 0 h0)
    exact ⟨pb, po, e, by have : pb < w.heap.size := hl; omega, fun k hk => ((hB2 _).cell (p := ⟨pb, po + k, none⟩) hl).trans (hc k hk)⟩
  rintro e w3 ⟨rfl, hrun3, ho3⟩
  rw [Nat.zero_add] at hrun3
  have hres3 : w3.rowIs w.heap.size 87 32 (fun _ => .int .u8 0) := ho3.row (row_setRow_other ((row_alloc _ rfl (by kernel_rfl)).alloc _) (by omega)) (by omega)
  have hB3 : Below w.heap.size w w3 := (hB2 _).trans (ho3.below (by omega) (by simp; omega))
  have HR3 := Lib.hid hres3
  have HB3 := Lib.hid hB3
  have HRun := Lib.hid hrun3
  have hs3 := hrun3.choose_spec.1.lt
  clear hres3 hB3 hrun3 ho3 hrun0 hB2 hfeed HI8 HB H1 HO HI
  go_wp2_with (fail)
  refine (end_any (w.heap.size + 1) (flat ss) w3 HRun.out (HKN.out.below HKN.out.lt HB3.out) (by have := HKN.out.lt; omega) hM).mono ?_
  rintro e w4 ⟨rfl, ho4⟩
  have hres4 : w4.rowIs w.heap.size 87 32 (fun _ => .int .u8 0) := ho4.row HR3.out (by omega)
  have hB4 := below_setRow' (HB3.out.trans (ho4.below (B := w.heap.size) (by omega) (by omega))) (Nat.le_refl _) (digV (flat ss))
  have HI := Lib.hid (show ∀ f, (Tryd.prog.info? 87).map (·.size) = some (vals 32 f).size from fun f => info_vals f (by kernel_rfl))
  have HO := Lib.hid (show (vals 32 fun j => Value.int .u8 ((sumByte (sumSt (flat ss)) j).toNat : Int)).all (·.oneCell') = true from vals_one fun _ => rfl)
  have HZ := Lib.hid (show (vals 32 fun _ => Value.int .u8 0).size = (vals 32 fun j => Value.int .u8 ((sumByte (sumSt (flat ss)) j).toNat : Int)).size by rw [vals_size, vals_size])
  have H2 := Lib.hid (row_block hres4)
  have H3 := Lib.hid (row_block (row_setRow (g := fun j => Value.int .u8 ((sumByte (sumSt (flat ss)) j).toNat : Int)) hres4))
  clear hres4 ho4
  go_wp2_with (with_reducible refine wpList_store_row rfl 87 _ _ rfl _ _ rfl rfl 87 _ H2.out (HI.out _) HZ.out HO.out ?_)
  refine bodyPost_ret (results_cell_row rfl _ _ _ 87 _ _ _ rfl H3.out Tryd.underlying87 rfl (HI.out _)) rfl ?_
  exact ⟨rfl, hB4⟩
end Go.Proofs.YtblgabdlpobbjaaDoor
namespace Go.Proofs.YtblgabdlpobbjaaDoor
open Go.ChangeShapes Go.WideShapes Go.ChangeAt Go.RowKit Sh

/-- 32 bytes as the program hands them on. -/
def digF (f : Nat → UInt8) : Array Value := vals 32 fun j => .int .u8 ((f j).toNat : Int)
def hexL : List UInt8 := [48, 49, 50, 51, 52, 53, 54, 55, 56, 57, 97, 98, 99, 100, 101, 102]
def hexd (n : Nat) : UInt8 := hexL.getD n 0
def textOf (f : Nat → UInt8) (n : Nat) : List UInt8 := (List.range n).flatMap fun i => [hexd ((f i).toNat / 16), hexd ((f i).toNat % 16)]
theorem textOf_next (f : Nat → UInt8) (n : Nat) : textOf f (n + 1) = textOf f n ++ [hexd ((f n).toNat / 16), hexd ((f n).toNat % 16)] := by
  unfold textOf; rw [List.range_succ, List.flatMap_append]; simp
theorem textOf_length (f : Nat → UInt8) (n : Nat) : (textOf f n).length = 2 * n := by
  induction n with
  | zero => rfl
  | succ n ih => rw [textOf_next, List.length_append, ih]; simp; omega
theorem textOf_at (f : Nat → UInt8) (n k : Nat) (h : k < n) : (textOf f n).getD (2 * k) 0 = hexd ((f k).toNat / 16) ∧ (textOf f n).getD (2 * k + 1) 0 = hexd ((f k).toNat % 16) := by
  induction n with
  | zero => omega
  | succ n ih =>
    rw [textOf_next]
    simp only [List.getD_eq_getElem?_getD]
    by_cases e : k = n
    · subst e
      rw [List.getElem?_append_right (by rw [textOf_length]; omega), List.getElem?_append_right (by rw [textOf_length]; omega), textOf_length]
      simp
    · have h2 := ih (by omega)
      simp only [List.getD_eq_getElem?_getD] at h2
      rw [List.getElem?_append_left (by rw [textOf_length]; omega), List.getElem?_append_left (by rw [textOf_length]; omega)]
      exact h2
theorem row_of_owns {w : World} {base g cap : Nat} {e : TypeId} (h : w.ownsRow base e 1 (.slice (some ⟨g, 0, none⟩) 0 cap) 0 []) : ∃ F, w.rowIs g e cap F := by
  rcases h.2 with ⟨h', _⟩ | ⟨g', cap', cur, h', _, hg, _, _, hsz, _⟩
  · cases h'
  · injection h' with h1 h2 h3
    injection h1 with h1
    injection h1 with h1
    subst h1 h3
    exact ⟨fun i => cur.getD i undef, cur, hg, by omega, fun i hi => by simp [Array.getD, show i < cur.size by omega]⟩
theorem hex_at (n : Nat) (h : n < 16) : (⟨#[48, 49, 50, 51, 52, 53, 54, 55, 56, 57, 97, 98, 99, 100, 101, 102]⟩ : ByteArray)[n]? = some (hexd n) := by
  have key : ∀ k : _root_.Fin 16, (⟨#[48, 49, 50, 51, 52, 53, 54, 55, 56, 57, 97, 98, 99, 100, 101, 102]⟩ : ByteArray)[k.val]? = some (hexd k.val) := by decide
  exact key ⟨n, h⟩
theorem index_hex (n : Nat) (h : n < 16) (w : World) : (Instr.index 9 (.string ⟨#[48, 49, 50, 51, 52, 53, 54, 55, 56, 57, 97, 98, 99, 100, 101, 102]⟩) (.int .u8 (n : Int))).run Tryd.prog w = .ok (.int .u8 ((hexd n).toNat : Int)) w := by
  have hu := Tryd.underlying9
  have hb := hex_at n h
  simp [Instr.index, run_underlying hu, go_sem]
  rw [hb]
  rfl
theorem index_dig (f : Nat → UInt8) (k : Nat) (h : k < 32) (w : World) : (Instr.index 87 (.agg (digF f)) (.int .i64 (k : Int))).run Tryd.prog w = .ok (.int .u8 ((f k).toNat : Int)) w := by
  have hu := Tryd.underlying87
  have hk : (k : Int) < 32 := by omega
  have hg : (digF f)[k]? = some (.int .u8 ((f k).toNat : Int)) := vals_get _ _ k h
  simp [Instr.index, run_underlying hu, go_sem]
  rw [if_pos h, hg]
  rfl
set_option maxRecDepth 100000 in
theorem low4 (b : UInt8) : bits .and .u8 (b.toNat : Int) 15 = ((b.toNat % 16 : Nat) : Int) := by
  have key : ∀ k : _root_.Fin 256, bits .and .u8 (k.val : Int) 15 = ((k.val % 16 : Nat) : Int) := by decide
  exact key ⟨b.toNat, b.toNat_lt⟩
end Go.Proofs.YtblgabdlpobbjaaDoor
namespace Go.Proofs.YtblgabdlpobbjaaDoor
open Go.ChangeShapes Go.WideShapes Go.ChangeAt Go.RowKit Sh

theorem run_part5 (f : Nat → UInt8) (i : Nat) (h : i < 32) (w : World) : (part 5 (digF f) (i * 1)).run Tryd.prog w = .ok (.int .u8 ((f i).toNat : Int)) w := by
  have hg : (digF f)[i]? = some (.int .u8 ((f i).toNat : Int)) := vals_get _ _ i h
  simp [part, go_sem, hg]
theorem byte_beq (a b : UInt8) : ((a.toNat : Int) == (b.toNat : Int)) = (a == b) := by
  rw [Bool.eq_iff_iff, beq_iff_eq, beq_iff_eq]
  constructor
  · intro h; exact UInt8.toNat_inj.1 (by omega)
  · intro h; rw [h]
theorem run_items (f g : Nat → UInt8) (w : World) : ∀ is : List Nat, (∀ i ∈ is, i < 32) → (Op.eqItems 9999 5 1 (digF f) (digF g) is).run Tryd.prog w = .ok (is.all fun i => f i == g i) w := by
  intro is
  induction is with
  | nil => intro _; rfl
  | cons i is ih =>
    intro h
    have hi := h i (by simp)
    have h2 := ih fun j hj => h j (by simp [hj])
    have h3 := run_equalIn_int (P := Tryd.prog) (w := w) 9998 5 .u8 .u8 ((f i).toNat : Int) ((g i).toNat : Int) Tryd.underlying5
    rw [byte_beq] at h3
    simp only [Op.eqItems, Sem.run_bind, run_part5 f i hi, run_part5 g i hi, Result.andThen_ok, h3]
    cases hb : (f i == g i)
    · simp [hb]
    · simp [hb, h2]
/-- Whether 32 bytes are the same. -/
def same (f g : Nat → UInt8) : Bool := (List.range 32).all fun i => f i == g i
theorem same_refl (f : Nat → UInt8) : same f f = true := by unfold same; simp
theorem same_iff (f g : Nat → UInt8) : same f g = true ↔ ∀ i, i < 32 → f i = g i := by unfold same; simp
theorem same_dig {f g : Nat → UInt8} (h : same f g = true) : digF f = digF g := vals_congr fun i hi => by rw [(same_iff f g).1 h i hi]
theorem run_eql_dig (f g : Nat → UInt8) (w : World) : (binOp .eql 87 (.agg (digF f)) (.agg (digF g))).run Tryd.prog w = .ok (.bool (same f g)) w := by
  obtain ⟨i0, hi, _⟩ := info_parts info5
  rw [run_eql_struct, run_equalIn_array (P := Tryd.prog) (w := w) 9999 (digF f) (digF g) Tryd.underlying87 hi]
  have hc : Tryd.prog.cellsOf 5 = 1 := by kernel_rfl
  rw [hc, run_items f g w (List.range 32) (fun i hi => List.mem_range.1 hi)]
  rfl
theorem run_neq_dig (f g : Nat → UInt8) (w : World) : (binOp .neq 87 (.agg (digF f)) (.agg (digF g))).run Tryd.prog w = .ok (.bool (!same f g)) w := by
  obtain ⟨i0, hi, _⟩ := info_parts info5
  rw [run_neq_struct, run_equalIn_array (P := Tryd.prog) (w := w) 9999 (digF f) (digF g) Tryd.underlying87 hi]
  have hc : Tryd.prog.cellsOf 5 = 1 := by kernel_rfl
  rw [hc, run_items f g w (List.range 32) (fun i hi => List.mem_range.1 hi)]
  rfl
theorem digV_dig (l : List UInt8) : digV l = digF (sumByte (sumSt l)) := rfl
/-- The sum's bytes. -/
def sumF (l : List UInt8) : Nat → UInt8 := sumByte (sumSt l)
end Go.Proofs.YtblgabdlpobbjaaDoor
namespace Go.Proofs.YtblgabdlpobbjaaDoor
open Go.ChangeShapes Go.WideShapes Go.ChangeAt Go.RowKit Sh

theorem of_here (ss : List ByteArray) (l : List UInt8) (hl : flat ss = l) (w : World) (A : Option Addr) (n cap : Nat) (hn : n = ss.length) (hnb : n ≤ 1152921504606846976)
    (hA : 0 < n → ∃ pb po, A = some ⟨pb, po, none⟩ ∧ ∀ k, k < n → w.cell? ⟨pb, po + k, none⟩ = some (.string (ss.getD k ByteArray.empty)))
    (hF : FOn w) (hK : KOn w) (hM : l.length < 72057594037927936) :
    Calls Tryd.prog 71 #[.slice A n cap] w fun e w' => e = .returned (.agg (digF (sumF l))) ∧ Below w.heap.size w w' := by
  subst hl
  exact of_any ss w A n cap hn hnb hA hF hK hM
theorem hiDig : ∀ f, (Tryd.prog.info? 87).map (·.size) = some (vals 32 f).size := fun f => info_vals f (by kernel_rfl)
theorem hoDig (f : Nat → UInt8) : (digF f).all (·.oneCell') = true := vals_one fun _ => rfl
theorem hzDig (f : Nat → UInt8) : (vals 32 fun _ => Value.int .u8 0).size = (digF f).size := by unfold digF; rw [vals_size, vals_size]
theorem hiDigF (f : Nat → UInt8) : (Tryd.prog.info? 87).map (·.size) = some (digF f).size := hiDig _
end Go.Proofs.YtblgabdlpobbjaaDoor
namespace Go.Proofs.YtblgabdlpobbjaaDoor
open Go.ChangeShapes Go.WideShapes Go.ChangeAt Go.RowKit Sh

/-- Both tables lie where the program looks. -/
structure Tabs (w : World) : Prop where
  f : FOn w
  k : KOn w
theorem Tabs.below {w w' : World} (h : Tabs w) (b : Below w.heap.size w w') : Tabs w' := ⟨h.f.below b, h.k.below h.k.lt b⟩
end Go.Proofs.YtblgabdlpobbjaaDoor
namespace Go.Proofs.YtblgabdlpobbjaaDoor
open Go.ChangeShapes Go.WideShapes Go.ChangeAt Go.RowKit Sh

def shaLaid : List (String × DataW Unit) := [("coadjutor/sha.firstWords", Rows.laid_coadjutor_sha_firstWords), ("coadjutor/sha.constants", Rows.laid_coadjutor_sha_constants)]
theorem gFirst : Tryd.prog.globalNamed "coadjutor/sha.firstWords" = some 0 := by kernel_rfl
theorem gConst : Tryd.prog.globalNamed "coadjutor/sha.constants" = some 2 := by kernel_rfl
theorem tFirst : (Tryd.prog.globals[0]?).map (·.type) = some 128 := by kernel_rfl
theorem tConst : (Tryd.prog.globals[2]?).map (·.type) = some 139 := by kernel_rfl

theorem sha_met (os : Os) (args : Array Value) : laidMetH Tryd.prog shaLaid ((World.doorLaid Tryd.prog 19 os).forCall (fun _ _ => 0) ⟨#[], args, []⟩).memory :=
  laidMetH_of_parts3 (fuel := 8) (laidMet_of_run' 8 (by kernel_rfl) (by kernel_rfl)) (by kernel_rfl) (by kernel_rfl)

theorem tabs_of {W : World} (h : laidMetH Tryd.prog shaLaid W) : Tabs W := by
  rw [MakeChecks.laidMetH_plain _ _ _ (by kernel_rfl)] at h
  obtain ⟨ps, ⟨g0, t0, cs0, f0, p0, q0, hg0, ht0, hv0, hd0, ⟨g1, t1, cs1, f1, p1, q1, hg1, ht1, hv1, hd1, _, _⟩, _⟩, _, _⟩ := h
  obtain rfl := Option.some.inj (gFirst.symm.trans hg0)
  obtain rfl := Option.some.inj (gConst.symm.trans hg1)
  obtain rfl := Option.some.inj (tFirst.symm.trans ht0)
  obtain rfl := Option.some.inj (tConst.symm.trans ht1)
  have e0 : cs0.toList = ((List.range 8).map fun i => tn (iv.at i)).map fun z => Value.int .u32 z :=
    Lib.cells_of_tab (zs := (List.range 8).map fun i => tn (iv.at i)) Tryd.underlying128 Tryd.underlying116 (by kernel_rfl) (by kernel_rfl) (hd0.trans (congrArg (fun d => some (d, p0)) (by kernel_rfl)))
  have e1 : cs1.toList = ((List.range 64).map fun i => tn (kAt i)).map fun z => Value.int .u32 z :=
    Lib.cells_of_tab (zs := (List.range 64).map fun i => tn (kAt i)) Tryd.underlying139 Tryd.underlying116 (by kernel_rfl) (by kernel_rfl) (hd1.trans (congrArg (fun d => some (d, p1)) (by kernel_rfl)))
  refine ⟨?_, fun i hi => ?_⟩
  · have h := hv0
    simp only [World.var?, hg0, Option.bind_some] at h
    split at h
    · rename_i cs t fr hb
      injection h with h
      subst h
      refine ⟨t, fr, ?_⟩
      rw [hb]
      have : cs = vals 8 fun i => .int .u32 (tn (iv.at i)) := by
        apply Array.ext'
        rw [e0]
        simp [vals, List.map_map, Function.comp_def]
      rw [this]
    · cases h
  · rw [World.var?_cell hg1 hv1 i, ← Array.getElem?_toList, e1]
    simp [hi]
end Go.Proofs.YtblgabdlpobbjaaDoor
