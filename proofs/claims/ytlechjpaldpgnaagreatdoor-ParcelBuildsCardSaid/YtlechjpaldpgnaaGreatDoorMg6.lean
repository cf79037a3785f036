/-
  The program's sums (package sha): parts go into the sum on its way. Conditions: the sum on its way, the constants and the parts stand where it looks; no more than 2^60 bytes in all.
  The program's sums (package sha): words as bytes. Conditions: the words stand where it looks; at most a thousand.
  The library's functions that the program calls, by their contracts: strings.Repeat, at this translation. No conditions of ours.
  The program's sums (package sha): the end of a sum on its way. Conditions: the sum on its way and the constants stand where it looks; fewer than 2^58 bytes.
  The program's sums (package sha): the sum of parts. Conditions: both tables lie as the program's text lays them; the parts stand where it looks; fewer than 2^56 bytes.
  32 bytes as digits, in plain words. No program's function here. No conditions.
  Two sums, compared: the same, or not. No conditions.
  The document's own sums: a block goes into the eight words. Condition: the text has 64 bytes.
  The document's own sums: a block goes into the eight words: the walk. Condition: the text has 64 bytes.
  A row of bytes of one's own, to which one byte more is appended: of whatever origin, '[]byte(s)' too. No program's function here.
  The document's own sums: Of: the walk. Condition: at most a hundred thousand bytes.
  The program's sums (package sha): the sum of parts, as plain bytes. Conditions: both tables lie as the program's text lays them; the parts stand where it looks.
  The program's sums (package sha): the tree of no sum, and of one. Conditions: both tables lie as the program's text lays them; the sum stands where it looks.
  The document's own pair of two sums. No condition.
-/
import Derived.Test.YtlechjpaldpgnaaGreatDoorMg4
import Derived.Test.YtlechjpaldpgnaaGreatDoorMg5
import Derived.Deep.DeepAppendRoom
import Derived.Shelf.Strings.Builder1
import Derived.Shelf.Strings.Builder2
import Derived.Shelf.Strings.BuilderF
import Derived.Shelf.Strings.Prefix
import Derived.Shelf.Bits.Mul64
import Derived.Shelf.Strings.Repeat
import Derived.Test.YtlechjpaldpgnaaGreatDoorRows
import Derived.Laws.BytesString
import Derived.Deep.RegionWith
import Derived.ChangeKeysEq
import Derived.Laws.StructEq
import Derived.Lib.ConvBytes
import Derived.Laws.AppendOwn
import Derived.Deep.MidRow
set_option maxRecDepth 100000
namespace Go.Proofs.YtlechjpaldpgnaaGreatDoor
open Go.ChangeShapes Go.WideShapes Go.ChangeAt Go.RowKit Sh

/-- m bytes of L are in the sum on its way. -/
def Run (w : World) (b : Nat) (L : Nat → UInt8) (m : Nat) : Prop :=
  ∃ bt : Nat → UInt8, w.rowIs b 168 73 (runF (blocks L (m / 64)) bt (m : Int)) ∧ ∀ j, j < m % 64 → bt j = L (64 * (m / 64) + j)
/-- The next bytes of L are q's. -/
def Next (L : Nat → UInt8) (m : Nat) (q : ByteArray) : Prop := ∀ i, i < q.size → q.data.toList.getD i 0 = L (m + i)

def strSize : Value → Nat
  | .string q => q.size
  | _ => 0
theorem size_list (q : ByteArray) : q.data.toList.length = q.size := rfl

/-- The bytes of the block behind a copy. -/
def btSet (bt : Nat → UInt8) (c n : Nat) (q : ByteArray) : Nat → UInt8 := fun j => if c ≤ j ∧ j < c + n then q.data.toList.getD (j - c) 0 else bt j
theorem spliced_run (s : St) (bt : Nat → UInt8) (cnt : Int) (c n : Nat) (q : ByteArray) (hn : n ≤ q.size) (hc : c + n ≤ 64) (j : Nat) (_ : j < 73) :
    spliced (8 + c) ((q.data.toList.take n).map fun x => Value.int .u8 (x.toNat : Int)) (runF s bt cnt) j = runF s (btSet bt c n q) cnt j := by
  unfold spliced
  have hl : ((q.data.toList.take n).map fun x => Value.int .u8 (x.toNat : Int)).length = n := by simp; omega
  rw [hl]
  by_cases h : 8 + c ≤ j ∧ j < 8 + c + n
  · rw [if_pos h]
    unfold runF btSet
    rw [if_neg (by omega), if_pos (by omega), if_pos (by omega)]
    rw [List.getD_eq_getElem?_getD, List.getElem?_map, List.getElem?_take, if_pos (by omega), List.getElem?_eq_getElem (by rw [size_list]; omega), List.getD_eq_getElem?_getD, List.getElem?_eq_getElem (by rw [size_list]; omega)]
    simp only [Option.map_some, Option.getD_some]
    congr 3
    simp only [show j - (8 + c) = j - 8 - c by omega]
  · rw [if_neg h]
    unfold runF btSet
    by_cases h8 : j < 8
    · rw [if_pos h8, if_pos h8]
    · rw [if_neg h8, if_neg h8]
      by_cases h72 : j < 72
      · rw [if_pos h72, if_pos h72, if_neg (by omega)]
      · rw [if_neg h72, if_neg h72]
theorem runF_count (s : St) (bt : Nat → UInt8) (cnt cnt' : Int) (j : Nat) (h : j < 73) : (if j = 72 then Value.int .u64 cnt' else runF s bt cnt j) = runF s bt cnt' j := by
  unfold runF
  by_cases e : j = 72
  · subst e; simp
  · rw [if_neg e]
    by_cases h8 : j < 8
    · rw [if_pos h8, if_pos h8]
    · rw [if_neg h8, if_neg h8, if_pos (by omega), if_pos (by omega)]

/-- The state of the inner loop: so many bytes are in, the part that is left comes next. -/
structure In (w wr : World) (b : Nat) (L : Nat → UInt8) (M : Nat) (q : ByteArray) (m : Nat) : Prop where
  only : Only w wr b
  run : Run wr b L m
  next : Next L m q
  all : m + q.size = M
  kon : KOn wr

theorem bt_set (L : Nat → UInt8) (bt : Nat → UInt8) (m n : Nat) (q : ByteArray) (_ : n ≤ q.size) (_ : m % 64 + n ≤ 64) (hbt : ∀ j, j < m % 64 → bt j = L (64 * (m / 64) + j)) (hq : Next L m q) (j : Nat) (hj : j < m % 64 + n) :
    btSet bt (m % 64) n q j = L (64 * (m / 64) + j) := by
  unfold btSet
  by_cases h : m % 64 ≤ j ∧ j < m % 64 + n
  · rw [if_pos h, hq (j - m % 64) (by omega)]
    congr 1
    omega
  · rw [if_neg h]
    exact hbt j (by omega)
theorem run_part {w : World} {b : Nat} {L : Nat → UInt8} {bt : Nat → UInt8} {m n : Nat} {q : ByteArray} (hn : n ≤ q.size) (hc : m % 64 + n < 64) (hbt : ∀ j, j < m % 64 → bt j = L (64 * (m / 64) + j)) (hq : Next L m q)
    (hr : w.rowIs b 168 73 (runF (blocks L (m / 64)) (btSet bt (m % 64) n q) ((m + n : Nat) : Int))) : Run w b L (m + n) := by
  refine ⟨btSet bt (m % 64) n q, ?_, fun j hj => ?_⟩
  · rw [show (m + n) / 64 = m / 64 by omega]; exact hr
  · rw [show (m + n) / 64 = m / 64 by omega]; exact bt_set L bt m n q hn (by omega) hbt hq j (by omega)
theorem run_full {w : World} {b : Nat} {L : Nat → UInt8} {bt : Nat → UInt8} {m n : Nat} {q : ByteArray} (hn : n ≤ q.size) (hc : m % 64 + n = 64) (hbt : ∀ j, j < m % 64 → bt j = L (64 * (m / 64) + j)) (hq : Next L m q)
    (hr : w.rowIs b 168 73 (runF (mixed (blocks L (m / 64)) (btSet bt (m % 64) n q)) (btSet bt (m % 64) n q) ((m + n : Nat) : Int))) : Run w b L (m + n) := by
  refine ⟨btSet bt (m % 64) n q, ?_, fun j hj => by omega⟩
  rw [show (m + n) / 64 = m / 64 + 1 by omega]
  have e : mixed (blocks L (m / 64)) (btSet bt (m % 64) n q) = blocks L (m / 64 + 1) := by
    simp only [blocks]
    exact mixed_congr _ _ _ fun j hj => bt_set L bt m n q hn (by omega) hbt hq j (by omega)
  rw [← e]; exact hr
theorem next_rest {L : Nat → UInt8} {m n : Nat} {q : ByteArray} (hq : Next L m q) : Next L (m + n) (q.extract n q.size) := by
  intro i hi
  rw [ByteArray.size_extract] at hi
  have h := hq (n + i) (by omega)
  rw [← Nat.add_assoc] at h
  rw [← h]
  simp only [List.getD_eq_getElem?_getD, ByteArray.data_extract, Array.getElem?_toList]
  rw [Array.getElem?_extract]
  simp only [ByteArray.size] at hi ⊢
  rw [if_pos (by omega)]
theorem copy_step {w wx : World} {b : Nat} {s : St} {bt : Nat → UInt8} {cnt : Int} {c n : Nat} {q : ByteArray} (ho : Only w wx b) (hr : wx.rowIs b 168 73 (runF s bt cnt)) (hk : KOn wx) (hb : 1 ≠ b)
    (hn : n = min q.size (64 - c)) (hc : c < 64) :
    ∃ wy, (∀ ty, (Builtin.copy_ #[92, 9] ty #[.slice (some ⟨b, 8 + c, none⟩) (64 - c) (64 - c), .string q]).run Tryz.prog wx = .ok (goInt n) wy) ∧
      wy.rowIs b 168 73 (runF s (btSet bt c n q) cnt) ∧ Only w wy b ∧ KOn wy := by
  have hl : ((q.data.toList.take n).map fun x => Value.int .u8 (x.toNat : Int)).length = n := by simp; omega
  have hy := Only.setRow (.refl wx b) (g := b) (.inl rfl) (vals 73 (spliced (8 + c) ((q.data.toList.take n).map fun x => Value.int .u8 (x.toNat : Int)) (runF s bt cnt)))
  refine ⟨_, fun ty => run_copy_str wx _ _ ty 5 b (8 + c) (64 - c) (64 - c) q ((q.data.toList.take n).map fun x => Value.int .u8 (x.toNat : Int)) _ 73 _ Tryz.underlying92 (fun _ => by kernel_rfl) hr (by rw [hn]) (by rw [hl]; omega) n hn, ?_, ho.trans hy, hk.only hy hb⟩
  exact (row_setRow hr).congr fun j hj => spliced_run s bt cnt c n q (by omega) (by omega) j hj

/-- All bytes of these texts, one behind the other. -/
def flat (ss : List ByteArray) : List UInt8 := ss.flatMap fun q => q.data.toList
theorem flat_next (ss : List ByteArray) (k : Nat) (h : k < ss.length) : flat (ss.take (k + 1)) = flat (ss.take k) ++ (ss.getD k ByteArray.empty).data.toList := by
  unfold flat
  rw [List.take_succ_eq_append_getElem h, List.flatMap_append]
  simp [List.getD_eq_getElem?_getD, h]
theorem flat_step (ss : List ByteArray) (k : Nat) (h : k < ss.length) : (flat (ss.take (k + 1))).length = (flat (ss.take k)).length + (ss.getD k ByteArray.empty).size := by
  rw [flat_next ss k h, List.length_append]; rfl
theorem flat_take_le (ss : List ByteArray) (k : Nat) : (flat (ss.take k)).length ≤ (flat ss).length := by
  have e : flat ss = flat (ss.take k) ++ flat (ss.drop k) := by unfold flat; rw [← List.flatMap_append, List.take_append_drop]
  rw [e, List.length_append]; omega
/-- The next bytes of L are these texts'. -/
def Feeds (L : Nat → UInt8) (m : Nat) (l : List UInt8) : Prop := ∀ i, i < l.length → l.getD i 0 = L (m + i)
theorem feeds_part {L : Nat → UInt8} {m : Nat} {ss : List ByteArray} (h : Feeds L m (flat ss)) (k : Nat) (hk : k < ss.length) : Next L (m + (flat (ss.take k)).length) (ss.getD k ByteArray.empty) := by
  have e : flat ss = flat (ss.take (k + 1)) ++ flat (ss.drop (k + 1)) := by unfold flat; rw [← List.flatMap_append, List.take_append_drop]
  rw [flat_next ss k hk] at e
  generalize ss.getD k ByteArray.empty = q at e
  intro i hi
  have hl : i < q.data.toList.length := hi
  have h1 := h ((flat (ss.take k)).length + i) (by rw [e]; simp only [List.length_append]; omega)
  have h2 : (flat ss)[(flat (ss.take k)).length + i]? = q.data.toList[i]? := by
    rw [e, List.append_assoc, List.getElem?_append_right (by omega), Nat.add_sub_cancel_left, List.getElem?_append_left hl]
  rw [Nat.add_assoc, ← h1, List.getD_eq_getElem?_getD, List.getD_eq_getElem?_getD, h2]

set_option maxRecDepth 100000 in
set_option maxHeartbeats 1600000 in
theorem add_any (b : Nat) (L : Nat → UInt8) (m0 : Nat) (ss : List ByteArray) (w : World) (A : Option Addr) (n cap : Nat) (hn : n = ss.length) (hnb : n ≤ 1152921504606846976)
    (hA : 0 < n → ∃ pb po, A = some ⟨pb, po, none⟩ ∧ pb ≠ b ∧ ∀ k, k < n → w.cell? ⟨pb, po + k, none⟩ = some (.string (ss.getD k ByteArray.empty)))
    (hrun : Run w b L m0) (hkon : KOn w) (hb : 1 ≠ b) (hM : m0 + (flat ss).length < 1152921504606846976) (hF : Feeds L m0 (flat ss)) :
    Calls Tryz.prog 93 #[.pointer (some ⟨b, 0, none⟩), .slice A n cap] w fun e w' => e = .returned (.tuple #[]) ∧ Run w' b L (m0 + (flat ss).length) ∧ Only w w' b := by
  have HN := Lib.hid hn
  have HA := Lib.hid hA
  have HF := Lib.hid hF
  clear hn hA hF
  go_enter Tryz.func93, Tryz.ntmps93
  go_wp2
  go_loopw [9] (fun i wr => ∃ k : Nat, k ≤ n ∧ i = .int .i64 k ∧ Only w wr b ∧ KOn wr ∧ Run wr b L (m0 + (flat (ss.take k)).length)) (fun i _ => n - (intOf i).toNat)
  case atStart => exact ⟨0, Nat.zero_le _, rfl, .refl _ _, hkon, by simpa [flat] using hrun⟩
  case round =>
    clear hrun hkon
    obtain ⟨k, hk, rfl, ho, hkn, hrun⟩ := hrel
    by_cases hlt1 : k < n
    · obtain ⟨pb, po, rfl, hpb, hcell⟩ := HA.out (by omega)
      have hlt0 : b < wr.heap.size := by obtain ⟨bt, h, _⟩ := hrun; exact h.lt
      have hq := (ho.cell (a := ⟨pb, po + k, none⟩) (block_lt_of_cell (hcell k hlt1)) hpb).trans (hcell k hlt1)
      have hst := flat_step ss k (by have := HN.out; omega)
      have hle := flat_take_le ss (k + 1)
      have hnext := feeds_part HF.out k (by have := HN.out; omega)
      generalize ss.getD k ByteArray.empty = q at hq hst hnext
      have hIn : In w wr b L (m0 + (flat (ss.take (k + 1))).length) q (m0 + (flat (ss.take k)).length) := ⟨ho, hrun, hnext, by omega, hkn⟩
      have hMM : m0 + (flat (ss.take (k + 1))).length < 1152921504606846976 := by omega
      obtain ⟨M, hM2⟩ : ∃ M, M = m0 + (flat (ss.take (k + 1))).length := ⟨_, rfl⟩
      rw [← hM2] at hIn hMM
      have HM := Lib.hid hM2
      clear hM2
      clear hcell hst hle hnext HA
      go_wp2
      go_loopw [5] (fun v wr => ∃ q m, v = .string q ∧ In w wr b L M q m) (fun v _ => strSize v)
      case atStart => exact ⟨q, _, rfl, hIn⟩
      case round =>
        clear ho hkn hq hIn hrun
        obtain ⟨q, m, rfl, hIn⟩ := hrel
        obtain ⟨bt, hrow, hbt⟩ := hIn.run
        by_cases h0 : 0 < q.size
        · obtain ⟨c, hc⟩ : ∃ c, c = m % 64 := ⟨_, rfl⟩
          have hcm : ((m : Int) % 64) = (c : Int) := by omega
          have htm : (m : Int).tmod 64 = (c : Int) := by rw [Int.tmod_eq_emod_of_nonneg (by omega)]; exact hcm
          have hc64 : c < 64 := by omega
          have hn64 : ¬ 64 = c := by omega
          have cc : wr.cell? ⟨b, 72, none⟩ = some (.int .u64 (m : Int)) := hrow.cell (i := 72) (by omega)
          have lm : 0 ≤ (m : Int) := by omega
          have lc : 0 ≤ (c : Int) := by omega
          have lc64 : (c : Int) ≤ 64 := by omega
          have lc65 : (c : Int) < 64 := by omega
          have HC := Lib.hid hc
          clear hc
          go_wp2
          go_still_tail 10, (by kernel_rfl)
          refine gen_list (fun wx => In w wx b L M q m ∧ wx.rowIs b 168 73 (runF (blocks L (m / 64)) bt (m : Int))) ⟨⟨hIn.only.drew, ⟨bt, hrow, hbt⟩, hIn.next, hIn.all, hIn.kon⟩, hrow⟩ ?_
          clear cc hrow hIn lc lc64 lc65 htm hcm
          intro wx hx
          obtain ⟨hIn, hrow⟩ := hx
          obtain ⟨d, hd⟩ : ∃ d, d = min q.size (64 - c) := ⟨_, rfl⟩
          obtain ⟨wy, hcopy, hyrow, hyonly, hykon⟩ := copy_step hIn.only hrow hIn.kon hb hd hc64
          have cy : wy.cell? ⟨b, 72, none⟩ = some (.int .u64 (m : Int)) := hyrow.cell (i := 72) (by omega)
          have fy := hyrow.frozen 72
          have hall := hIn.all
          have d1 : 1 ≤ d := by omega
          have d2 : d ≤ q.size := by omega
          have d3 : c + d ≤ 64 := by omega
          have d4 : m + d ≤ M := by omega
          have HD := Lib.hid hd
          have HA2 := Lib.hid hall
          clear hd hall
          by_cases hB : c + d = 64
          · have ht : (((m : Int) + (d : Int)) % 64 == 0) = true := by have := HC.out; rw [beq_iff_eq]; omega
            have HB := Lib.hid hB
            clear hB
            go_wp2_with (fail)
            have hr2 : (wy.setCell ⟨b, 72, none⟩ (.int .u64 ((m : Int) + (d : Int)))).rowIs b 168 73 (runF (blocks L (m / 64)) (btSet bt c d q) ((m : Int) + (d : Int))) := (hyrow.set 72 _).congr fun j hj => runF_count _ _ _ _ j hj
            have ho2 := hyonly.setCell (a := ⟨b, 72, none⟩) (.inl rfl) (.int .u64 ((m : Int) + (d : Int)))
            have hk2 := hykon.only (Only.setCell (.refl wy b) (a := ⟨b, 72, none⟩) (.inl rfl) (.int .u64 ((m : Int) + (d : Int)))) hb
            refine (mix_any b _ _ _ _ hr2 hk2 hb).mono ?_
            rintro e w3 ⟨rfl, hr3, ho3⟩
            clear hr2 cy fy hcopy hyrow hrow
            go_wp2
            go_roundw
            case rel =>
              have e1 := HC.out
              have e2 := HB.out
              subst e1
              exact ⟨_, m + d, rfl, ho2.trans ho3, run_full d2 (by omega) hbt hIn.next (by rw [Int.natCast_add]; exact hr3), next_rest hIn.next, by have := HA2.out; rw [ByteArray.size_extract]; omega, hk2.only ho3 hb⟩
            case measure => simp [strSize, ByteArray.size_extract]; omega
          · have ht : (((m : Int) + (d : Int)) % 64 == 0) = false := by have := HC.out; rw [beq_eq_false_iff_ne]; omega
            have HB := Lib.hid hB
            clear hB
            have hr2 : (wy.setCell ⟨b, 72, none⟩ (.int .u64 ((m : Int) + (d : Int)))).rowIs b 168 73 (runF (blocks L (m / 64)) (btSet bt c d q) ((m : Int) + (d : Int))) := (hyrow.set 72 _).congr fun j hj => runF_count _ _ _ _ j hj
            have ho2 := hyonly.setCell (a := ⟨b, 72, none⟩) (.inl rfl) (.int .u64 ((m : Int) + (d : Int)))
            have hk2 := hykon.only (Only.setCell (.refl wy b) (a := ⟨b, 72, none⟩) (.inl rfl) (.int .u64 ((m : Int) + (d : Int)))) hb
            clear hyrow hrow
            go_wp2
            go_roundw
            case rel =>
              have e1 := HC.out
              have e2 := HB.out
              subst e1
              exact ⟨_, m + d, rfl, ho2, run_part d2 (by omega) hbt hIn.next (by rw [Int.natCast_add]; exact hr2), next_rest hIn.next, by have := HA2.out; rw [ByteArray.size_extract]; omega, hk2⟩
            case measure => simp [strSize, ByteArray.size_extract]; omega
        · have HZ := Lib.hid (show q.size = 0 by omega)
          go_wp2
          go_roundw
          case rel =>
            have e1 := HZ.out
            have e2 := hIn.all
            have e3 := HM.out
            exact ⟨k + 1, by omega, by go_num, hIn.only, hIn.kon, by rw [← e3, ← e2, e1]; exact hIn.run⟩
          case measure => simp [intOf]; omega
    · go_wp2
      go_end0
      have e1 := HN.out
      have e2 : ss.take k = ss := List.take_of_length_le (by omega)
      rw [e2] at hrun
      exact ⟨rfl, hrun, ho⟩
end Go.Proofs.YtlechjpaldpgnaaGreatDoor
namespace Go.Proofs.YtlechjpaldpgnaaGreatDoor
open Go.ChangeShapes Go.WideShapes Go.ChangeAt Go.RowKit Sh

/-- The j-th byte of words, the highest of each first. -/
def wbyte (W : Nat → BitVec 32) (j : Nat) : UInt8 := UInt8.ofNat ((W (j / 4)).toNat / 2 ^ (24 - 8 * (j % 4)))
/-- A slice of n new bytes. -/
def ByteSlice (w : World) (n : Nat) (f : Nat → UInt8) (e : Ending) (w' : World) : Prop :=
  ∃ g, e = .returned (.slice (some ⟨g, 0, none⟩) n n) ∧ w.heap.size ≤ g ∧ (∀ j, j < n → w'.cell? ⟨g, j, none⟩ = some (.int .u8 ((f j).toNat : Int))) ∧ Below w.heap.size w w'
theorem wbyte_val (W : Nat → BitVec 32) (k i : Nat) (hi : i < 4) : ((wbyte W (4 * k + i)).toNat : Int) = tn (W k) / ((2 ^ (24 - 8 * i) : Nat) : Int) % 256 := by
  unfold wbyte tn
  rw [show (4 * k + i) / 4 = k by omega, show (4 * k + i) % 4 = i by omega, UInt8.toNat_ofNat']
  rw [← Int.natCast_ediv]
  omega
theorem wbyte0 (W : Nat → BitVec 32) (k : Nat) : tn (W k) / 16777216 % 256 = ((wbyte W (4 * k)).toNat : Int) := (wbyte_val W k 0 (by omega)).symm
theorem wbyte1 (W : Nat → BitVec 32) (k : Nat) : tn (W k) / 65536 % 256 = ((wbyte W (4 * k + 1)).toNat : Int) := (wbyte_val W k 1 (by omega)).symm
theorem wbyte2 (W : Nat → BitVec 32) (k : Nat) : tn (W k) / 256 % 256 = ((wbyte W (4 * k + 2)).toNat : Int) := (wbyte_val W k 2 (by omega)).symm
theorem wbyte3 (W : Nat → BitVec 32) (k : Nat) : tn (W k) % 256 = ((wbyte W (4 * k + 3)).toNat : Int) := by
  rw [wbyte_val W k 3 (by omega)]; simp
theorem range_four (f : Nat → Value) (k : Nat) : (List.range (4 * (k + 1))).map f = (List.range (4 * k)).map f ++ [f (4 * k), f (4 * k + 1), f (4 * k + 2), f (4 * k + 3)] := by
  rw [show 4 * (k + 1) = 4 * k + 1 + 1 + 1 + 1 by omega]
  simp [List.range_succ]
theorem info5 : (Tryz.prog.info? 5).map (fun i => (i.zero, i.size, i.bytes)) = some (some (.int .u8 0), 1, 1) := by kernel_rfl

set_option maxRecDepth 100000 in
set_option maxHeartbeats 1000000 in
theorem bytesOf_any (W : Nat → BitVec 32) (pb po n : Nat) (w : World) (hcell : ∀ k, k < n → w.cell? ⟨pb, po + k, none⟩ = some (.int .u32 (tn (W k)))) (hn0 : 0 < n) (hn : n ≤ 1000) (cap : Nat) :
    Calls Tryz.prog 113 #[.slice (some ⟨pb, po, none⟩) n cap] w (ByteSlice w (4 * n) (wbyte W)) := by
  have hlt0 := block_lt_of_cell (hcell 0 hn0)
  have HC := Lib.hid hcell
  clear hcell
  obtain ⟨i0, hi, hz0, hz1, hz2⟩ := info_parts info5
  have HI := Lib.hid hi
  have HZ0 := Lib.hid hz0
  have HZ1 := Lib.hid hz1
  have HZ2 := Lib.hid hz2
  clear hi hz0 hz1 hz2
  go_enter Tryz.func113, Tryz.ntmps113
  go_wp2_with (at_make; refine wpList_make_own _ rfl _ _ 92 rfl w.heap.size 5 i0 _ 1 Tryz.underlying92 HI.out HZ0.out HZ1.out .i64 .i64 _ (4 * n) rfl rfl (by omega) (by rw [HZ2.out]; omega) (by unfold maxLen; omega) (Nat.le_refl _) ?_)
  intro w1 hown hg1
  have hb1 : Below w.heap.size w w1 := (Below.refl _ _).grown hg1 (Nat.le_refl _) (fun k hk => by cases hk)
  clear hg1
  go_wp2
  go_loopw [3, 12] (fun v i wr => ∃ k : Nat, k ≤ n ∧ i = .int .i64 k ∧ v = .slice (some ⟨w.heap.size, 0, none⟩) (4 * k) (4 * n) ∧ wr.ownsRow w.heap.size 5 1 (.slice (some ⟨w.heap.size, 0, none⟩) (4 * k) (4 * n)) (4 * k) ((List.range (4 * k)).map fun j => .int .u8 ((wbyte W j).toNat : Int)) ∧ Below w.heap.size w wr) (fun _ i _ => n - (intOf i).toNat)
  case atStart => exact ⟨0, Nat.zero_le _, rfl, rfl, hown, hb1⟩
  case round =>
    clear hown hb1
    obtain ⟨k, hk, rfl, rfl, hown, hb1⟩ := hrel
    by_cases hlt : k < n
    · have hc := (hb1.cell (p := ⟨pb, po + k, none⟩) hlt0).trans (HC.out k hlt)
      have hs := hb1.size
      go_wp2_with (at_builtin; refine wpList_append_own_spare _ rfl (.tmp 16) (.tmp 28) 92 rfl w.heap.size 5 i0 1 Tryz.underlying92 HI.out HZ1.out w.heap.size (4 * k) (4 * n) _ rfl (hown.alloc _) ⟨wr.heap.size, 0, none⟩ 4 4 [.int .u8 (tn (W k) / 16777216 % 256), .int .u8 (tn (W k) / 65536 % 256), .int .u8 (tn (W k) / 256 % 256), .int .u8 (tn (W k) % 256)] rfl rfl ?c1 ?c2 (by omega) ?_)
      case c1 =>
        intro j u hj
        match j, hj with
        | 0, hj => simp at hj; subst hj; simp [Addr.add]
        | 1, hj => simp at hj; subst hj; simp [Addr.add]
        | 2, hj => simp at hj; subst hj; simp [Addr.add]
        | 3, hj => simp at hj; subst hj; simp [Addr.add]
      case c2 =>
        intro u hu
        simp only [List.mem_cons, List.not_mem_nil, or_false] at hu
        rcases hu with rfl | rfl | rfl | rfl <;> rfl
      intro w2 hown2 hg2
      have hb2 : Below w.heap.size w w2 := (hb1.alloc hs _).grown hg2 (by simp; omega) (fun j hj => by injection hj with hj; omega)
      rw [wbyte0, wbyte1, wbyte2, wbyte3, ← range_four (fun j => Value.int .u8 ((wbyte W j).toNat : Int))] at hown2
      clear hown hb1 hg2 hc
      go_wp2
      go_roundw
      case rel => exact ⟨k + 1, by omega, by go_num, by rw [Nat.mul_succ], by rw [Nat.mul_succ] at hown2 ⊢; exact hown2, hb2⟩
      case measure => simp [intOf]; omega
    · have HK := Lib.hid (show k = n by omega)
      go_wp2
      go_ret
      have e := HK.out
      subst e
      refine ⟨w.heap.size, rfl, Nat.le_refl _, fun j hj => ?_, hb1⟩
      rw [hown.cellAt j (by omega)]
      simp [hj]
end Go.Proofs.YtlechjpaldpgnaaGreatDoor
namespace Go.Proofs
open Go.Shelf
def Tryz.lays105_ren : Go.Shelf.Ren := ⟨fun | 105 => 112 | 212 => 125 | 99 => 126 | 165 => 127 | 166 => 42 | 170 => 128 | 169 => 43 | 263 => 131 | 264 => 132 | 206 => 133 | 240 => 70 | 241 => 134 | 276 => 95 | 277 => 135 | n => n, fun | 9 => 9 | 3 => 3 | 4 => 4 | 20 => 20 | 0 => 0 | 46 => 181 | 109 => 199 | 5 => 5 | 72 => 94 | 76 => 97 | 51 => 164 | 146 => 204 | 53 => 151 | 148 => 206 | 70 => 91 | 37 => 92 | 75 => 96 | 127 => 134 | 164 => 169 | 80 => 68 | n => n, fun | n => n⟩
theorem Tryz.lays105 : Go.Proofs.Lays.n105 Tryz.prog Tryz.lays105_ren := {
  mixed := by kernel_rfl
  f99 := Tryz.func126.trans (congrArg some (by kernel_rfl))
  f105 := Tryz.func112.trans (congrArg some (by kernel_rfl))
  f165 := Tryz.func127.trans (congrArg some (by kernel_rfl))
  f166 := Tryz.func42.trans (congrArg some (by kernel_rfl))
  f169 := Tryz.func43.trans (congrArg some (by kernel_rfl))
  f170 := Tryz.func128.trans (congrArg some (by kernel_rfl))
  f206 := Tryz.func133.trans (congrArg some (by kernel_rfl))
  f212 := Tryz.func125.trans (congrArg some (by kernel_rfl))
  f240 := Tryz.func70.trans (congrArg some (by kernel_rfl))
  f241 := Tryz.func134.trans (congrArg some (by kernel_rfl))
  f263 := Tryz.func131.trans (congrArg some (by kernel_rfl))
  f264 := Tryz.func132.trans (congrArg some (by kernel_rfl))
  f276 := Tryz.func95.trans (congrArg some (by kernel_rfl))
  f277 := Tryz.func135.trans (congrArg some (by kernel_rfl))
  t0 := Tryz.underlying0
  a0 := Tryz.isAgg0
  z0 := Tryz.sizeOf0
  v0 := Tryz.zeroValue0
  t3 := Tryz.underlying3
  a3 := Tryz.isAgg3
  z3 := Tryz.sizeOf3
  v3 := Tryz.zeroValue3
  t4 := Tryz.underlying4
  a4 := Tryz.isAgg4
  z4 := Tryz.sizeOf4
  v4 := Tryz.zeroValue4
  t5 := Tryz.underlying5
  a5 := Tryz.isAgg5
  z5 := Tryz.sizeOf5
  v5 := Tryz.zeroValue5
  t9 := Tryz.underlying9
  a9 := Tryz.isAgg9
  z9 := Tryz.sizeOf9
  v9 := Tryz.zeroValue9
  t20 := Tryz.underlying20
  a20 := Tryz.isAgg20
  z20 := Tryz.sizeOf20
  v20 := Tryz.zeroValue20
  t37 := Tryz.underlying92
  a37 := Tryz.isAgg92
  z37 := Tryz.sizeOf92
  v37 := Tryz.zeroValue92
  t46 := Tryz.underlying181
  a46 := Tryz.isAgg181
  z46 := Tryz.sizeOf181
  v46 := Tryz.zeroValue181
  t51 := Tryz.underlying164
  a51 := Tryz.isAgg164
  z51 := Tryz.sizeOf164
  v51 := Tryz.zeroValue164
  t53 := Tryz.underlying151
  a53 := Tryz.isAgg151
  z53 := Tryz.sizeOf151
  v53 := Tryz.zeroValue151
  t70 := Tryz.underlying91
  a70 := Tryz.isAgg91
  z70 := Tryz.sizeOf91
  v70 := Tryz.zeroValue91
  t72 := Tryz.underlying94
  a72 := Tryz.isAgg94
  z72 := Tryz.sizeOf94
  v72 := Tryz.zeroValue94
  t75 := Tryz.underlying96
  a75 := Tryz.isAgg96
  z75 := Tryz.sizeOf96
  v75 := Tryz.zeroValue96
  t76 := Tryz.underlying97
  a76 := Tryz.isAgg97
  z76 := Tryz.sizeOf97
  v76 := Tryz.zeroValue97
  t109 := Tryz.underlying199
  a109 := Tryz.isAgg199
  z109 := Tryz.sizeOf199
  v109 := Tryz.zeroValue199
  t127 := Tryz.underlying134
  a127 := Tryz.isAgg134
  z127 := Tryz.sizeOf134
  v127 := Tryz.zeroValue134
  t146 := Tryz.underlying204
  a146 := Tryz.isAgg204
  z146 := Tryz.sizeOf204
  v146 := Tryz.zeroValue204
  t148 := Tryz.underlying206
  a148 := Tryz.isAgg206
  z148 := Tryz.sizeOf206
  v148 := Tryz.zeroValue206
  t164 := Tryz.underlying169
  a164 := Tryz.isAgg169
  z164 := Tryz.sizeOf169
  v164 := Tryz.zeroValue169 }
theorem Tryz.Builder_Extra_105 : Builder.Extra Tryz.prog Tryz.lays105_ren := {
  sizeBuilder := by kernel_rfl
  liesBuilder := by kernel_rfl
  t5 := Tryz.underlying5
  a5 := Tryz.isAgg5
  z5 := Tryz.sizeOf5
  v5 := Tryz.zeroValue5
  infoByte := by kernel_rfl
  cellsByte := by kernel_rfl
  sizeByte := by kernel_rfl
  neB5 := by decide }
open Go.RowKit Go.Lib in
theorem Tryz.strings_Repeat (s : ByteArray) (c : Nat) (w : World) (hc : c ≤ 9223372036854775807) (hlen : s.size * c ≤ 140737488355328) :
    Calls Tryz.prog 112 #[.string s, .int .i64 c] w fun e w' => e = .returned (.string ⟨(Lib.repeatL s.data.toList c).toArray⟩) ∧ Below w.heap.size w w' := Any.strings_Repeat Tryz.lays105 Tryz.Builder_Extra_105 s c w hc hlen
end Go.Proofs
namespace Go.Proofs.YtlechjpaldpgnaaGreatDoor
open Go.ChangeShapes Go.WideShapes Go.ChangeAt Go.RowKit Sh

theorem addr_add0 (g j : Nat) : (⟨g, 0, none⟩ : Addr).add j = ⟨g, j, none⟩ := by unfold Addr.add; split <;> simp_all
theorem foldl_push (ns : List UInt8) : ∀ r : ByteArray, ns.foldl (fun r b => r.push b) r = ⟨(r.data.toList ++ ns).toArray⟩ := by
  induction ns with
  | nil => intro r; simp
  | cons a ns ih =>
    intro r
    rw [List.foldl_cons, ih]
    simp [ByteArray.push]
theorem foldl_push_int (ns : List UInt8) (r : ByteArray) : (ns.map fun b => (b.toNat : Int)).foldl (fun r n => r.push (UInt8.ofNat n.toNat)) r = ns.foldl (fun r b => r.push b) r := by
  rw [List.foldl_map]
  congr 1
  funext r b
  rw [Int.toNat_natCast, UInt8.ofNat_toNat]
/-- A slice of bytes as a string. -/
theorem run_bytes_string (w : World) (a : Addr) (n cap : Nat) (f : Nat → UInt8) (h : ∀ j, j < n → w.cell? (a.add j) = some (.int .u8 ((f j).toNat : Int))) :
    (convert 92 9 (.slice (some a) n cap)).run Tryz.prog w = .ok (.string ⟨((List.range n).map f).toArray⟩) w := by
  rw [run_convert_bytes_string w _ _ 5 _ n cap Tryz.underlying92 Tryz.underlying5 Tryz.underlying9]
  have hl := run_loadCells_list (P := Tryz.prog) w a ((List.range n).map fun j => Value.int .u8 ((f j).toNat : Int)) (fun j v hv => by
    rw [List.getElem?_map] at hv
    by_cases hj : j < n
    · rw [List.getElem?_range hj] at hv
      simp only [Option.map_some, Option.some.injEq] at hv
      rw [← hv]; exact h j hj
    · rw [List.getElem?_eq_none (by simp; omega)] at hv; cases hv)
  have e : ((List.range n).map fun j => Value.int .u8 ((f j).toNat : Int)) = (((List.range n).map f).map fun b => (b.toNat : Int)).map (Value.int .u8) := by simp [List.map_map, Function.comp_def]
  rw [e] at hl
  have hlen : ((((List.range n).map f).map fun b => (b.toNat : Int)).map (Value.int .u8)).length = n := by simp
  rw [hlen] at hl
  rw [run_bytesToString w a n cap (((List.range n).map f).map fun b => (b.toNat : Int)) hl, foldl_push_int, foldl_push]
  simp

/-- The bytes of a count. -/
theorem be8_words (n : Nat) (hn : n < 18446744073709551616) : (List.range 8).map (wbyte fun i => if i = 0 then BitVec.ofNat 32 (n / 4294967296) else BitVec.ofNat 32 n) = be8 n := by
  unfold be8
  apply List.map_congr_left
  intro j hj
  have hj8 : j < 8 := List.mem_range.1 hj
  unfold wbyte
  apply UInt8.toNat_inj.1
  rw [UInt8.toNat_ofNat', UInt8.toNat_ofNat']
  match j, hj8 with
  | 0, _ => simp; omega
  | 1, _ => simp; omega
  | 2, _ => simp; omega
  | 3, _ => simp
  | 4, _ => simp; omega
  | 5, _ => simp; omega
  | 6, _ => simp; omega
  | 7, _ => simp

theorem byteAt_padded_old (l : List UInt8) (i : Nat) (h : i < l.length) : byteAt (padded l) i = l.getD i 0 := by
  unfold byteAt padded
  rw [List.getD_eq_getElem?_getD, List.getD_eq_getElem?_getD, List.append_assoc, List.append_assoc, List.getElem?_append_left h]
/-- What comes behind the text: the byte 80, nothings, the count. -/
theorem feeds_tail (l : List UInt8) : Feeds (byteAt (padded l)) l.length ([128] ++ List.replicate (zeros l.length) 0 ++ be8 (8 * l.length)) := by
  intro i hi
  have e : padded l = l ++ ([128] ++ List.replicate (zeros l.length) 0 ++ be8 (8 * l.length)) := by unfold padded; simp
  unfold byteAt
  rw [e]
  generalize [128] ++ List.replicate (zeros l.length) 0 ++ be8 (8 * l.length) = t
  rw [List.getD_eq_getElem?_getD, List.getD_eq_getElem?_getD, List.getElem?_append_right (by omega), Nat.add_sub_cancel_left]

theorem Run.below {w w' : World} {b : Nat} {L : Nat → UInt8} {m : Nat} (h : Run w b L m) {B : Nat} (hB : b < B) (k : Below B w w') : Run w' b L m := by
  obtain ⟨bt, hr, hbt⟩ := h
  exact ⟨bt, hr.of_block (k.block b hB), hbt⟩
theorem KOn.below {w w' : World} (h : KOn w) {B : Nat} (hB : 1 < B) (k : Below B w w') : KOn w' := fun i hi => (k.cell (p := ⟨1, i, none⟩) hB).trans (h i hi)
/-- Ahead of the last copy: the sum on its way is whole; two places for the result are laid. -/
structure Fin (w wr : World) (b p q : Nat) (s : St) (bt : Nat → UInt8) (n : Int) : Prop where
  only : Only w wr b
  row : wr.rowIs b 168 73 (runF s bt n)
  res : wr.rowIs p 24 32 (fun _ => .int .u8 0)
  dig : wr.rowIs q 24 32 (fun _ => .int .u8 0)
theorem Fin.drew {w wr : World} {b p q : Nat} {s : St} {bt : Nat → UInt8} {n : Int} (h : Fin w wr b p q s bt n) : Fin w wr.drew b p q s bt n := ⟨h.only.drew, h.row, h.res, h.dig⟩
theorem copy_digest {w w5 : World} {b p q g : Nat} {f : Nat → UInt8} (ho : Only w w5 b) (hp : w5.rowIs p 24 32 (fun _ => .int .u8 0)) (hq : w5.rowIs q 24 32 (fun _ => .int .u8 0)) (hpq : p ≠ q) (hlt : w.heap.size ≤ q)
    (hb : ∀ j, j < 32 → w5.cell? ⟨g, j, none⟩ = some (.int .u8 ((f j).toNat : Int))) :
    ∃ wy, (∀ ty, (Builtin.copy_ #[92, 92] ty #[.slice (some ⟨q, 0, none⟩) 32 32, .slice (some ⟨g, 0, none⟩) 32 32]).run Tryz.prog w5 = .ok (.int .i64 32) wy) ∧
      wy.rowIs q 24 32 (fun j => .int .u8 ((f j).toNat : Int)) ∧ wy.rowIs p 24 32 (fun _ => .int .u8 0) ∧ Only w wy b := by
  have hl : ((List.range 32).map fun j => Value.int .u8 ((f j).toNat : Int)).length = 32 := by simp
  refine ⟨_, fun ty => run_copy_bytes w5 _ _ ty 5 q 0 32 32 ⟨g, 0, none⟩ 32 32 ((List.range 32).map fun j => Value.int .u8 ((f j).toNat : Int)) _ 32 _ Tryz.underlying92 (by kernel_rfl) hq (by rw [hl]; rfl) (fun j v hv => ?_) (by rw [hl]; omega) (fun v hv => ?_), ?_, row_setRow_other hp hpq, ho.setRow (.inr hlt) _⟩
  · rw [addr_add0]
    rw [List.getElem?_map] at hv
    by_cases hj : j < 32
    · rw [List.getElem?_range hj] at hv
      simp only [Option.map_some, Option.some.injEq] at hv
      rw [← hv]; exact hb j hj
    · rw [List.getElem?_eq_none (by simp; omega)] at hv; cases hv
  · obtain ⟨x, _, rfl⟩ := List.mem_map.1 hv
    rfl
  · refine (row_setRow hq).congr fun j hj => ?_
    unfold spliced
    rw [hl, if_pos (by omega)]
    simp [List.getD_eq_getElem?_getD, hj]
def cnt2 (n : Nat) : Nat → BitVec 32 := fun i => if i = 0 then BitVec.ofNat 32 (8 * n / 4294967296) else BitVec.ofNat 32 (8 * n)
theorem cnt2_0 (n : Nat) (hn : n < 72057594037927936) : 8 * (n : Int) / 4294967296 = tn (cnt2 n 0) := by
  unfold tn cnt2; simp; omega
theorem cnt2_1 (n : Nat) : 8 * (n : Int) % 4294967296 = tn (cnt2 n 1) := by
  unfold tn cnt2; simp

set_option maxRecDepth 100000 in
set_option maxHeartbeats 1600000 in
theorem end_any (b : Nat) (l : List UInt8) (w : World) (hrun : Run w b (byteAt (padded l)) l.length) (hkon : KOn w) (hb : 1 ≠ b) (hl : l.length < 72057594037927936) :
    Calls Tryz.prog 94 #[.pointer (some ⟨b, 0, none⟩)] w fun e w' => e = .returned (.agg (vals 32 fun j => .int .u8 ((sumByte (sumSt l) j).toNat : Int))) ∧ Only w w' b := by
  obtain ⟨bt, hrow, hbt⟩ := hrun
  have cc : w.cell? ⟨b, 72, none⟩ = some (.int .u64 (l.length : Int)) := hrow.cell (i := 72) (by omega)
  have hlt := hrow.lt
  have HR := Lib.hid hrow
  have HBT := Lib.hid hbt
  have HKN := Lib.hid hkon
  clear hrow hbt hkon
  obtain ⟨n, hn⟩ : ∃ n, n = l.length := ⟨_, rfl⟩
  rw [← hn] at cc hl
  have HN := Lib.hid hn
  clear hn
  obtain ⟨z, hz⟩ : ∃ z, z = zeros n := ⟨_, rfl⟩
  have hz2 : ((119 - (n : Int) % 64) % 64) = (z : Int) := by rw [hz]; unfold zeros; omega
  have hz3 : z < 64 := by rw [hz]; unfold zeros; omega
  have HZ := Lib.hid hz
  clear hz
  go_enter Tryz.func94, Tryz.ntmps94
  go_wp2_with (fail)
  refine (Tryz.strings_Repeat ⟨#[0]⟩ z _ (by omega) (by show 1 * z ≤ _; omega)).mono ?_
  rintro e w1 ⟨rfl, hb1⟩
  have hs1 : w.heap.size + 1 ≤ w1.heap.size := by have := hb1.size; simpa using this
  have B1 : Below w.heap.size w w1 := ((Below.refl _ _).alloc (Nat.le_refl _) _).trans (hb1.mono (by simp))
  have hD1 : w1.rowIs w.heap.size 24 32 (fun _ => .int .u8 0) := by
    have h := hb1.block w.heap.size (by simp)
    rw [heap_alloc_new] at h
    exact row_of_block (h.trans (by kernel_rfl))
  have HD1 := Lib.hid hD1
  clear hD1 hb1 cc
  go_wp2_with (fail)
  have hcell : ∀ k, k < 2 → (w1.alloc (.cells #[.int .u32 (8 * (n : Int) / 4294967296), .int .u32 (8 * (n : Int) % 4294967296)] 164)).cell? ⟨w1.heap.size, 0 + k, none⟩ = some (.int .u32 (tn (cnt2 n k))) := by
    intro k hk
    match k, hk with
    | 0, _ => rw [cell_of_row _ _ _ _ _ _ (heap_alloc_new w1 _), ← cnt2_0 n hl]; rfl
    | 1, _ => rw [cell_of_row _ _ _ _ _ _ (heap_alloc_new w1 _), ← cnt2_1 n]; rfl
  refine (bytesOf_any (cnt2 n) _ _ 2 _ hcell (by omega) (by omega) 2).mono ?_
  clear hcell
  rintro e w2 ⟨g, rfl, hg, hbytes, hb2⟩
  have hs2 : w1.heap.size + 1 ≤ w2.heap.size := by have := hb2.size; simpa using this
  have B2 : Below w.heap.size w w2 := (B1.alloc (by omega) _).trans (hb2.mono (by simp; omega))
  have hD2 : w2.rowIs w.heap.size 24 32 (fun _ => .int .u8 0) := (HD1.out.alloc _).of_block (hb2.block _ (by simp; omega))
  have hconv := run_bytes_string w2 ⟨g, 0, none⟩ 8 8 (wbyte (cnt2 n)) (fun j hj => by rw [addr_add0]; exact hbytes j hj)
  have hbe : (List.range 8).map (wbyte (cnt2 n)) = be8 (8 * n) := be8_words (8 * n) (by omega)
  rw [hbe] at hconv
  have HD2 := Lib.hid hD2
  clear hD2 hbytes hb2 HD1 hbe B1
  go_wp2_with (fail)
  have hfl : flat [⟨#[128]⟩, ⟨(Lib.repeatL [0] z).toArray⟩, ⟨(be8 (8 * n)).toArray⟩] = [128] ++ List.replicate (zeros l.length) 0 ++ be8 (8 * l.length) := by
    have e1 := Lib.repeatL_replicate 0 1 z
    rw [Nat.mul_one] at e1
    have e2 : Lib.repeatL [0] z = List.replicate z 0 := e1
    rw [e2, ← HN.out, ← HZ.out]
    simp [flat]
  have hflen : (flat [⟨#[128]⟩, ⟨(Lib.repeatL [0] z).toArray⟩, ⟨(be8 (8 * n)).toArray⟩]).length = 9 + z := by
    rw [hfl, ← HN.out, ← HZ.out]; simp [be8_length]; omega
  have hrun : Run w b (byteAt (padded l)) n := ⟨bt, by rw [HN.out]; exact HR.out, by rw [HN.out]; exact HBT.out⟩
  have B3 := B2.alloc (by omega) (.cells #[.string ⟨#[128]⟩, .string ⟨(Lib.repeatL [0] z).toArray⟩, .string ⟨(be8 (8 * n)).toArray⟩] 9)
  refine (add_any b (byteAt (padded l)) n [⟨#[128]⟩, ⟨(Lib.repeatL [0] z).toArray⟩, ⟨(be8 (8 * n)).toArray⟩] _ _ 3 3 rfl (by omega) (fun _ => ⟨w2.heap.size, 0, rfl, by omega, ?_⟩) (hrun.below hlt B3) (HKN.out.below HKN.out.lt B3) hb (by rw [hflen]; omega) (by rw [hfl, HN.out]; exact feeds_tail l)).mono ?_
  · intro k hk
    match k, hk with
    | 0, _ => rw [cell_of_row _ _ _ _ _ _ (heap_alloc_new w2 _)]; rfl
    | 1, _ => rw [cell_of_row _ _ _ _ _ _ (heap_alloc_new w2 _)]; rfl
    | 2, _ => rw [cell_of_row _ _ _ _ _ _ (heap_alloc_new w2 _)]; rfl
  rintro e w3 ⟨rfl, hrun3, ho3⟩
  have hD3 : w3.rowIs w.heap.size 24 32 (fun _ => .int .u8 0) := ho3.row (HD2.out.alloc _) (by omega)
  have hs3 : w2.heap.size + 1 ≤ w3.heap.size := by have := ho3.size; simpa using this
  have o3 : Only w w3 b := ((Only.of_below B2 b).alloc _).trans ho3
  have hk3 : KOn w3 := HKN.out.only o3 hb
  have hm : n + (flat [⟨#[128]⟩, ⟨(Lib.repeatL [0] z).toArray⟩, ⟨(be8 (8 * n)).toArray⟩]).length = (padded l).length := by
    rw [hflen, padded_length, ← HN.out, HZ.out]; omega
  rw [hm] at hrun3
  obtain ⟨bt3, hrow3, _⟩ := hrun3
  have hsum : blocks (byteAt (padded l)) ((padded l).length / 64) = sumSt l := rfl
  rw [hsum] at hrow3
  have HD3 := Lib.hid hD3
  have HR3 := Lib.hid hrow3
  have HO3 := Lib.hid o3
  clear hD3 hrow3 o3 hk3 hm hsum ho3 B3 hrun hflen hfl HD2 hconv hg B2
  go_wp2
  refine gen_world (fun wr => Fin w wr b w.heap.size w3.heap.size (sumSt l) bt3 ((padded l).length : Int)) ⟨HO3.out.alloc _, HR3.out.alloc _, HD3.out.alloc _, row_alloc _ rfl (by kernel_rfl)⟩ ?_
  intro wr hF
  have hne : w.heap.size ≠ w3.heap.size := by omega
  have hq : w.heap.size ≤ w3.heap.size := by omega
  clear HO3 HR3 HD3 HR HBT HKN
  generalize w3.heap.size = q at hF hne hq ⊢
  have hcell : ∀ k, k < 8 → wr.drew.cell? ⟨b, 0 + k, none⟩ = some (.int .u32 (tn ((sumSt l).at k))) := fun k hk => by
    have := hF.drew.row.cell (i := k) (by omega)
    unfold runF at this
    rw [if_pos hk] at this
    rw [Nat.zero_add]; exact this
  have HB := Lib.hid (bytesOf_any (sumSt l).at b 0 8 wr.drew hcell (by omega) (by omega) 8)
  have HF := Lib.hid hF.drew
  clear hcell hF
  go_region_with ((go_at_call 113; refine HB.out.mono ?_; rintro e w5 ⟨g5, rfl, hg5, hby5, hb5⟩; obtain ⟨wy, hcopy, hyq, hyp, hyo⟩ := copy_digest (HF.out.only.then_below hb5) (HF.out.res.of_block (hb5.block _ HF.out.res.lt)) (HF.out.dig.of_block (hb5.block _ HF.out.dig.lt)) hne hq hby5))
  have hI : ∀ f, (Tryz.prog.info? 24).map (·.size) = some (vals 32 f).size := fun f => info_vals f (by kernel_rfl)
  have HI := Lib.hid hI
  have HO := Lib.hid (show (vals 32 fun j => Value.int .u8 ((wbyte (sumSt l).at j).toNat : Int)).all (·.oneCell') = true from vals_one fun _ => rfl)
  have H1 := Lib.hid (row_block hyq)
  have H2 := Lib.hid (row_block hyp)
  have HZ2 := Lib.hid (show (vals 32 fun _ => Value.int .u8 0).size = (vals 32 fun j => Value.int .u8 ((wbyte (sumSt l).at j).toNat : Int)).size by rw [vals_size, vals_size])
  have H3 := Lib.hid (row_block (row_setRow (g := fun j => Value.int .u8 ((wbyte (sumSt l).at j).toNat : Int)) hyp))
  have hfin := hyo.setRow (g := w.heap.size) (.inr (Nat.le_refl _)) (vals 32 fun j => Value.int .u8 ((wbyte (sumSt l).at j).toNat : Int))
  clear hI hyq hyp hyo hb5 hg5 hby5 hcopy HB HF
  go_wp2_with (first
    | (with_reducible refine wpList_load_row rfl 24 _ rfl _ rfl 24 _ _ _ H1.out Tryz.underlying24 rfl (HI.out _) ?_)
    | (with_reducible refine wpList_store_row rfl 24 _ _ rfl _ _ rfl rfl 24 _ H2.out (HI.out _) HZ2.out HO.out ?_))
  refine bodyPost_ret (results_cell_row rfl _ _ _ 24 _ _ _ rfl H3.out Tryz.underlying24 rfl (HI.out _)) rfl ?_
  exact ⟨rfl, hfin⟩
end Go.Proofs.YtlechjpaldpgnaaGreatDoor
namespace Go.Proofs.YtlechjpaldpgnaaGreatDoor
open Go.ChangeShapes Go.WideShapes Go.ChangeAt Go.RowKit Sh

/-- A sum as the program hands it on. -/
def digV (l : List UInt8) : Array Value := vals 32 fun j => .int .u8 ((sumByte (sumSt l) j).toNat : Int)
/-- An empty sum on its way, all of it nothing. -/
def zeroF : Nat → Value := fun j => if j < 8 then .int .u32 0 else if j < 72 then .int .u8 0 else .int .u64 0
/-- The first words lie in the first variable. -/
def FOn (w : World) : Prop := ∃ t fr, w.heap[0]? = some (.cells (vals 8 fun i => .int .u32 (tn (iv.at i))) t fr)
theorem FOn.lt {w : World} (h : FOn w) : 0 < w.heap.size := by obtain ⟨t, fr, h⟩ := h; exact (Array.getElem?_eq_some_iff.1 h).1
theorem FOn.below {w w' : World} (h : FOn w) (k : Below w.heap.size w w') : FOn w' := by
  have hl := h.lt
  obtain ⟨t, fr, h'⟩ := h
  exact ⟨t, fr, (k.block _ hl).trans h'⟩

set_option maxRecDepth 100000 in
set_option maxHeartbeats 1600000 in
theorem of_any (ss : List ByteArray) (w : World) (A : Option Addr) (n cap : Nat) (hn : n = ss.length) (hnb : n ≤ 1152921504606846976)
    (hA : 0 < n → ∃ pb po, A = some ⟨pb, po, none⟩ ∧ ∀ k, k < n → w.cell? ⟨pb, po + k, none⟩ = some (.string (ss.getD k ByteArray.empty)))
    (hF : FOn w) (hK : KOn w) (hM : (flat ss).length < 72057594037927936) :
    Calls Tryz.prog 62 #[.slice A n cap] w fun e w' => e = .returned (.agg (digV (flat ss))) ∧ Below w.heap.size w w' := by
  have hlt := hF.lt
  obtain ⟨tf, fr, hF0⟩ := hF
  have HF := Lib.hid hF0
  have HKN := Lib.hid hK
  have HN := Lib.hid hn
  have HA := Lib.hid hA
  clear hF0 hK hn hA
  go_enter Tryz.func62, Tryz.ntmps62
  have HB := Lib.hid (show Tryz.prog.built 168 [(0, .agg (vals 8 fun i => .int .u32 (tn (iv.at i))))] = some (vals 73 (runF iv (fun _ => 0) 0)) by kernel_rfl)
  have H1 := Lib.hid (show ∀ o1 old, ((w.alloc o1).alloc (.cells old 168)).heap[w.heap.size + 1]? = some (.cells old 168 (0, 0)) from fun o1 old => heap_alloc2_new w _ _)
  have HI := Lib.hid (show ∀ f, (Tryz.prog.info? 168).map (·.size) = some (vals 73 f).size from fun f => info_vals f (by kernel_rfl))
  have hone : ∀ i, (runF iv (fun _ => 0) 0 i).oneCell' = true := fun i => by
    unfold runF; split
    · rfl
    · split <;> rfl
  have HO := Lib.hid (show (vals 73 (runF iv (fun _ => 0) 0)).all (·.oneCell') = true from vals_one hone)
  clear hone
  have hzv : ∀ w, (zeroValue 168).run Tryz.prog w = .ok (.agg (vals 73 zeroF)) w := fun _ => by kernel_rfl
  have HI8 := Lib.hid (show (Tryz.prog.info? 165).map (·.size) = some (vals 8 fun i => Value.int .u32 (tn (iv.at i))).size from info_vals _ (by kernel_rfl))
  go_wp2_with (first
    | (refine wpList_load_row rfl 165 (.global 0) rfl 0 rfl tf _ fr _ ((heap_alloc_old _ _ hlt).trans HF.out) Tryz.underlying165 rfl HI8.out ?_)
    | (refine wpList_build_to rfl 168 #[(0, .tmp 4)] rfl [(0, .agg (vals 8 fun i => .int .u32 (tn (iv.at i))))] rfl _ HB.out ?_)
    | (with_reducible refine wpList_store_row rfl 168 _ _ rfl _ _ rfl rfl 168 _ (H1.out _ _) (HI.out _) ?_ HO.out ?_))
  · rw [vals_size, vals_size]
  have hB2 : ∀ o, Below w.heap.size w (((w.alloc o).alloc (.cells (vals 73 zeroF) 168)).setRow (w.heap.size + 1) (vals 73 (runF iv (fun _ => 0) 0))) := fun o =>
    below_setRow' (((Below.refl _ _).alloc (Nat.le_refl _) _).alloc (by simp) _) (by omega) _
  have hrun0 : ∀ o, Run (((w.alloc o).alloc (.cells (vals 73 zeroF) 168)).setRow (w.heap.size + 1) (vals 73 (runF iv (fun _ => 0) 0))) (w.heap.size + 1) (byteAt (padded (flat ss))) 0 := fun o =>
    ⟨fun _ => 0, row_setRow (row_of_block (heap_alloc2_new w _ _)), fun j hj => by omega⟩
  have hfeed : Feeds (byteAt (padded (flat ss))) 0 (flat ss) := fun i hi => by rw [Nat.zero_add, byteAt_padded_old _ _ hi]
  refine (add_any (w.heap.size + 1) (byteAt (padded (flat ss))) 0 ss _ A n cap HN.out hnb ?_ (hrun0 _) (HKN.out.below HKN.out.lt (hB2 _)) (by have := HKN.out.lt; omega) (by omega) hfeed).mono ?_
  · intro h0
    obtain ⟨pb, po, e, hc⟩ := HA.out h0
    have hl := block_lt_of_cell (hc 0 h0)
    exact ⟨pb, po, e, by have : pb < w.heap.size := hl; omega, fun k hk => ((hB2 _).cell (p := ⟨pb, po + k, none⟩) hl).trans (hc k hk)⟩
  rintro e w3 ⟨rfl, hrun3, ho3⟩
  rw [Nat.zero_add] at hrun3
  have hres3 : w3.rowIs w.heap.size 24 32 (fun _ => .int .u8 0) := ho3.row (row_setRow_other ((row_alloc _ rfl (by kernel_rfl)).alloc _) (by omega)) (by omega)
  have hB3 : Below w.heap.size w w3 := (hB2 _).trans (ho3.below (by omega) (by simp; omega))
  have HR3 := Lib.hid hres3
  have HB3 := Lib.hid hB3
  have HRun := Lib.hid hrun3
  have hs3 := hrun3.choose_spec.1.lt
  clear hres3 hB3 hrun3 ho3 hrun0 hB2 hfeed HI8 HB H1 HO HI
  go_wp2_with (fail)
  refine (end_any (w.heap.size + 1) (flat ss) w3 HRun.out (HKN.out.below HKN.out.lt HB3.out) (by have := HKN.out.lt; omega) hM).mono ?_
  rintro e w4 ⟨rfl, ho4⟩
  have hres4 : w4.rowIs w.heap.size 24 32 (fun _ => .int .u8 0) := ho4.row HR3.out (by omega)
  have hB4 := below_setRow' (HB3.out.trans (ho4.below (B := w.heap.size) (by omega) (by omega))) (Nat.le_refl _) (digV (flat ss))
  have HI := Lib.hid (show ∀ f, (Tryz.prog.info? 24).map (·.size) = some (vals 32 f).size from fun f => info_vals f (by kernel_rfl))
  have HO := Lib.hid (show (vals 32 fun j => Value.int .u8 ((sumByte (sumSt (flat ss)) j).toNat : Int)).all (·.oneCell') = true from vals_one fun _ => rfl)
  have HZ := Lib.hid (show (vals 32 fun _ => Value.int .u8 0).size = (vals 32 fun j => Value.int .u8 ((sumByte (sumSt (flat ss)) j).toNat : Int)).size by rw [vals_size, vals_size])
  have H2 := Lib.hid (row_block hres4)
  have H3 := Lib.hid (row_block (row_setRow (g := fun j => Value.int .u8 ((sumByte (sumSt (flat ss)) j).toNat : Int)) hres4))
  clear hres4 ho4
  go_wp2_with (with_reducible refine wpList_store_row rfl 24 _ _ rfl _ _ rfl rfl 24 _ H2.out (HI.out _) HZ.out HO.out ?_)
  refine bodyPost_ret (results_cell_row rfl _ _ _ 24 _ _ _ rfl H3.out Tryz.underlying24 rfl (HI.out _)) rfl ?_
  exact ⟨rfl, hB4⟩
end Go.Proofs.YtlechjpaldpgnaaGreatDoor
namespace Go.Proofs.YtlechjpaldpgnaaGreatDoor
open Go.ChangeShapes Go.WideShapes Go.ChangeAt Go.RowKit Sh

/-- 32 bytes as the program hands them on. -/
def digF (f : Nat → UInt8) : Array Value := vals 32 fun j => .int .u8 ((f j).toNat : Int)
def hexL : List UInt8 := [48, 49, 50, 51, 52, 53, 54, 55, 56, 57, 97, 98, 99, 100, 101, 102]
def hexd (n : Nat) : UInt8 := hexL.getD n 0
def textOf (f : Nat → UInt8) (n : Nat) : List UInt8 := (List.range n).flatMap fun i => [hexd ((f i).toNat / 16), hexd ((f i).toNat % 16)]
theorem textOf_next (f : Nat → UInt8) (n : Nat) : textOf f (n + 1) = textOf f n ++ [hexd ((f n).toNat / 16), hexd ((f n).toNat % 16)] := by
  unfold textOf; rw [List.range_succ, List.flatMap_append]; simp
theorem textOf_length (f : Nat → UInt8) (n : Nat) : (textOf f n).length = 2 * n := by
  induction n with
  | zero => rfl
  | succ n ih => rw [textOf_next, List.length_append, ih]; simp; omega
theorem textOf_at (f : Nat → UInt8) (n k : Nat) (h : k < n) : (textOf f n).getD (2 * k) 0 = hexd ((f k).toNat / 16) ∧ (textOf f n).getD (2 * k + 1) 0 = hexd ((f k).toNat % 16) := by
  induction n with
  | zero => omega
  | succ n ih =>
    rw [textOf_next]
    simp only [List.getD_eq_getElem?_getD]
    by_cases e : k = n
    · subst e
      rw [List.getElem?_append_right (by rw [textOf_length]; omega), List.getElem?_append_right (by rw [textOf_length]; omega), textOf_length]
      simp
    · have h2 := ih (by omega)
      simp only [List.getD_eq_getElem?_getD] at h2
      rw [List.getElem?_append_left (by rw [textOf_length]; omega), List.getElem?_append_left (by rw [textOf_length]; omega)]
      exact h2
theorem row_of_owns {w : World} {base g cap : Nat} {e : TypeId} (h : w.ownsRow base e 1 (.slice (some ⟨g, 0, none⟩) 0 cap) 0 []) : ∃ F, w.rowIs g e cap F := by
  rcases h.2 with ⟨h', _⟩ | ⟨g', cap', cur, h', _, hg, _, _, hsz, _⟩
  · cases h'
  · injection h' with h1 h2 h3
    injection h1 with h1
    injection h1 with h1
    subst h1 h3
    exact ⟨fun i => cur.getD i undef, cur, hg, by omega, fun i hi => by simp [Array.getD, show i < cur.size by omega]⟩
theorem hex_at (n : Nat) (h : n < 16) : (⟨#[48, 49, 50, 51, 52, 53, 54, 55, 56, 57, 97, 98, 99, 100, 101, 102]⟩ : ByteArray)[n]? = some (hexd n) := by
  have key : ∀ k : _root_.Fin 16, (⟨#[48, 49, 50, 51, 52, 53, 54, 55, 56, 57, 97, 98, 99, 100, 101, 102]⟩ : ByteArray)[k.val]? = some (hexd k.val) := by decide
  exact key ⟨n, h⟩
theorem index_hex (n : Nat) (h : n < 16) (w : World) : (Instr.index 9 (.string ⟨#[48, 49, 50, 51, 52, 53, 54, 55, 56, 57, 97, 98, 99, 100, 101, 102]⟩) (.int .u8 (n : Int))).run Tryz.prog w = .ok (.int .u8 ((hexd n).toNat : Int)) w := by
  have hu := Tryz.underlying9
  have hb := hex_at n h
  simp [Instr.index, run_underlying hu, go_sem]
  rw [hb]
  rfl
theorem index_dig (f : Nat → UInt8) (k : Nat) (h : k < 32) (w : World) : (Instr.index 24 (.agg (digF f)) (.int .i64 (k : Int))).run Tryz.prog w = .ok (.int .u8 ((f k).toNat : Int)) w := by
  have hu := Tryz.underlying24
  have hk : (k : Int) < 32 := by omega
  have hg : (digF f)[k]? = some (.int .u8 ((f k).toNat : Int)) := vals_get _ _ k h
  simp [Instr.index, run_underlying hu, go_sem]
  rw [if_pos h, hg]
  rfl
set_option maxRecDepth 100000 in
theorem low4 (b : UInt8) : bits .and .u8 (b.toNat : Int) 15 = ((b.toNat % 16 : Nat) : Int) := by
  have key : ∀ k : _root_.Fin 256, bits .and .u8 (k.val : Int) 15 = ((k.val % 16 : Nat) : Int) := by decide
  exact key ⟨b.toNat, b.toNat_lt⟩
end Go.Proofs.YtlechjpaldpgnaaGreatDoor
namespace Go.Proofs.YtlechjpaldpgnaaGreatDoor
open Go.ChangeShapes Go.WideShapes Go.ChangeAt Go.RowKit Sh

theorem run_part5 (f : Nat → UInt8) (i : Nat) (h : i < 32) (w : World) : (part 5 (digF f) (i * 1)).run Tryz.prog w = .ok (.int .u8 ((f i).toNat : Int)) w := by
  have hg : (digF f)[i]? = some (.int .u8 ((f i).toNat : Int)) := vals_get _ _ i h
  simp [part, go_sem, hg]
theorem byte_beq (a b : UInt8) : ((a.toNat : Int) == (b.toNat : Int)) = (a == b) := by
  rw [Bool.eq_iff_iff, beq_iff_eq, beq_iff_eq]
  constructor
  · intro h; exact UInt8.toNat_inj.1 (by omega)
  · intro h; rw [h]
theorem run_items (f g : Nat → UInt8) (w : World) : ∀ is : List Nat, (∀ i ∈ is, i < 32) → (Op.eqItems 9999 5 1 (digF f) (digF g) is).run Tryz.prog w = .ok (is.all fun i => f i == g i) w := by
  intro is
  induction is with
  | nil => intro _; rfl
  | cons i is ih =>
    intro h
    have hi := h i (by simp)
    have h2 := ih fun j hj => h j (by simp [hj])
    have h3 := run_equalIn_int (P := Tryz.prog) (w := w) 9998 5 .u8 .u8 ((f i).toNat : Int) ((g i).toNat : Int) Tryz.underlying5
    rw [byte_beq] at h3
    simp only [Op.eqItems, Sem.run_bind, run_part5 f i hi, run_part5 g i hi, Result.andThen_ok, h3]
    cases hb : (f i == g i)
    · simp [hb]
    · simp [hb, h2]
/-- Whether 32 bytes are the same. -/
def same (f g : Nat → UInt8) : Bool := (List.range 32).all fun i => f i == g i
theorem same_refl (f : Nat → UInt8) : same f f = true := by unfold same; simp
theorem same_iff (f g : Nat → UInt8) : same f g = true ↔ ∀ i, i < 32 → f i = g i := by unfold same; simp
theorem same_dig {f g : Nat → UInt8} (h : same f g = true) : digF f = digF g := vals_congr fun i hi => by rw [(same_iff f g).1 h i hi]
theorem run_eql_dig (f g : Nat → UInt8) (w : World) : (binOp .eql 24 (.agg (digF f)) (.agg (digF g))).run Tryz.prog w = .ok (.bool (same f g)) w := by
  obtain ⟨i0, hi, _⟩ := info_parts info5
  rw [run_eql_struct, run_equalIn_array (P := Tryz.prog) (w := w) 9999 (digF f) (digF g) Tryz.underlying24 hi]
  have hc : Tryz.prog.cellsOf 5 = 1 := by kernel_rfl
  rw [hc, run_items f g w (List.range 32) (fun i hi => List.mem_range.1 hi)]
  rfl
theorem run_neq_dig (f g : Nat → UInt8) (w : World) : (binOp .neq 24 (.agg (digF f)) (.agg (digF g))).run Tryz.prog w = .ok (.bool (!same f g)) w := by
  obtain ⟨i0, hi, _⟩ := info_parts info5
  rw [run_neq_struct, run_equalIn_array (P := Tryz.prog) (w := w) 9999 (digF f) (digF g) Tryz.underlying24 hi]
  have hc : Tryz.prog.cellsOf 5 = 1 := by kernel_rfl
  rw [hc, run_items f g w (List.range 32) (fun i hi => List.mem_range.1 hi)]
  rfl
theorem digV_dig (l : List UInt8) : digV l = digF (sumByte (sumSt l)) := rfl
/-- The sum's bytes. -/
def sumF (l : List UInt8) : Nat → UInt8 := sumByte (sumSt l)
end Go.Proofs.YtlechjpaldpgnaaGreatDoor
namespace Go.Proofs.YtlechjpaldpgnaaGreatDoor
open Go.ChangeShapes Go.WideShapes Go.ChangeAt Go.RowKit Sh

def kF : Nat → Value := fun i => .int .u64 (t6 (zx (kAt i)))
theorem kF_one : (vals 64 kF).all (·.oneCell') = true := vals_one fun _ => rfl
theorem hi64 : ∀ f, (Tryz.prog.info? 179).map (·.size) = some (vals 64 f).size := fun f => info_vals f (by kernel_rfl)
set_option maxRecDepth 100000 in
set_option maxHeartbeats 1600000 in
theorem consts_any (w : World) : Calls Tryz.prog 107 #[] w fun e w' => e = .returned (.agg (vals 64 kF)) ∧ Below w.heap.size w w' := by
  have hb : ∀ o, (w.alloc o).heap[w.heap.size]? = some o := fun o => heap_alloc_new w o
  have HB := Lib.hid hb
  clear hb
  have HK := Lib.hid kF_one
  go_enter Tryz.func107, Tryz.ntmps107
  go_wp2_with (first
    | (refine wpList_build rfl 179 _ rfl (by kernel_rfl) ?_; generalize hq : Option.getD _ _ = q; obtain rfl : q = vals 64 kF := hq.symm.trans (by kernel_rfl); clear hq)
    | (with_reducible refine wpList_store_row rfl 179 _ _ rfl _ _ rfl rfl 179 _ (HB.out _) (hi64 kF) ?_ HK.out ?_))
  · rw [vals_size]; rfl
  refine bodyPost_ret (results_cell_row rfl _ _ _ 179 _ _ _ rfl (setRow_heap _ _ _ _ _ _ (HB.out _)) Tryz.underlying179 rfl (hi64 kF)) rfl ?_
  exact ⟨rfl, below_setRow' ((Below.refl _ _).alloc (Nat.le_refl _) _) (Nat.le_refl _) _⟩

/-- Eight words of 64 bits each. -/
def st6 (s : St) : Nat → Value := fun i => .int .u64 (t6 (zx (s.at i)))
theorem hi8 : ∀ f, (Tryz.prog.info? 152).map (·.size) = some (vals 8 f).size := fun f => info_vals f (by kernel_rfl)
/-- A word on its way: the first j of its bytes are in. -/
def part6 (b : Nat → UInt8) (i : Nat) : Nat → BitVec 64
  | 0 => 0
  | j + 1 => part6 b i j <<< 8 ||| zx (b32 (b (4 * i + j)))
theorem part6_all (b : Nat → UInt8) (i : Nat) : part6 b i 4 = zx (word b i) := by
  unfold word be
  simp only [part6]
  generalize b (4 * i) = b0
  generalize b (4 * i + 1) = b1
  generalize b (4 * i + 2) = b2
  generalize b (4 * i + 3) = b3
  unfold zx b32
  apply BitVec.eq_of_getLsbD_eq
  intro k hk
  simp only [BitVec.getLsbD_or, BitVec.getLsbD_shiftLeft, BitVec.getLsbD_setWidth, Nat.sub_sub, Nat.reduceAdd]
  rcases (show k < 8 ∨ (8 ≤ k ∧ k < 16) ∨ (16 ≤ k ∧ k < 24) ∨ (24 ≤ k ∧ k < 32) ∨ 32 ≤ k by omega) with h | h | h | h | h
  · simp [decide_eq_true (show k < 64 by omega), decide_eq_true (show k < 8 by omega), decide_eq_true (show k - 8 < 64 by omega), decide_eq_true (show k - 8 < 8 by omega), decide_eq_true (show k - 16 < 64 by omega), decide_eq_true (show k - 16 < 8 by omega), decide_eq_true (show k - 24 < 64 by omega), decide_eq_true (show k - 24 < 8 by omega), decide_eq_true (show k - 24 < 32 by omega), decide_eq_true (show k - 16 < 32 by omega), decide_eq_true (show k - 8 < 32 by omega), decide_eq_true (show k < 32 by omega), decide_eq_true (show k < 24 by omega), decide_eq_true (show k < 16 by omega)]
  · simp [decide_eq_true (show k < 64 by omega), decide_eq_false (show ¬ k < 8 by omega), decide_eq_true (show k - 8 < 64 by omega), decide_eq_true (show k - 8 < 8 by omega), decide_eq_true (show k - 16 < 64 by omega), decide_eq_true (show k - 16 < 8 by omega), decide_eq_true (show k - 24 < 64 by omega), decide_eq_true (show k - 24 < 8 by omega), decide_eq_true (show k - 24 < 32 by omega), decide_eq_true (show k - 16 < 32 by omega), decide_eq_true (show k - 8 < 32 by omega), decide_eq_true (show k < 32 by omega), decide_eq_true (show k < 24 by omega), decide_eq_true (show k < 16 by omega), BitVec.getLsbD_of_ge b3.toBitVec (k) (by omega)]
  · simp [decide_eq_true (show k < 64 by omega), decide_eq_false (show ¬ k < 8 by omega), decide_eq_true (show k - 8 < 64 by omega), decide_eq_false (show ¬ k - 8 < 8 by omega), decide_eq_true (show k - 16 < 64 by omega), decide_eq_true (show k - 16 < 8 by omega), decide_eq_true (show k - 24 < 64 by omega), decide_eq_true (show k - 24 < 8 by omega), decide_eq_true (show k - 24 < 32 by omega), decide_eq_true (show k - 16 < 32 by omega), decide_eq_true (show k - 8 < 32 by omega), decide_eq_true (show k < 32 by omega), decide_eq_true (show k < 24 by omega), decide_eq_false (show ¬ k < 16 by omega), BitVec.getLsbD_of_ge b2.toBitVec (k - 8) (by omega), BitVec.getLsbD_of_ge b3.toBitVec (k) (by omega)]
  · simp [decide_eq_true (show k < 64 by omega), decide_eq_false (show ¬ k < 8 by omega), decide_eq_true (show k - 8 < 64 by omega), decide_eq_false (show ¬ k - 8 < 8 by omega), decide_eq_true (show k - 16 < 64 by omega), decide_eq_false (show ¬ k - 16 < 8 by omega), decide_eq_true (show k - 24 < 64 by omega), decide_eq_true (show k - 24 < 8 by omega), decide_eq_true (show k - 24 < 32 by omega), decide_eq_true (show k - 16 < 32 by omega), decide_eq_true (show k - 8 < 32 by omega), decide_eq_true (show k < 32 by omega), decide_eq_false (show ¬ k < 24 by omega), decide_eq_false (show ¬ k < 16 by omega), BitVec.getLsbD_of_ge b1.toBitVec (k - 16) (by omega), BitVec.getLsbD_of_ge b2.toBitVec (k - 8) (by omega), BitVec.getLsbD_of_ge b3.toBitVec (k) (by omega)]
  · simp [decide_eq_true (show k < 64 by omega), decide_eq_false (show ¬ k < 8 by omega), decide_eq_true (show k - 8 < 64 by omega), decide_eq_false (show ¬ k - 8 < 8 by omega), decide_eq_true (show k - 16 < 64 by omega), decide_eq_false (show ¬ k - 16 < 8 by omega), decide_eq_true (show k - 24 < 64 by omega), decide_eq_false (show ¬ k - 24 < 8 by omega), decide_eq_false (show ¬ k < 32 by omega), decide_eq_false (show ¬ k < 24 by omega), decide_eq_false (show ¬ k < 16 by omega), BitVec.getLsbD_of_ge b0.toBitVec (k - 24) (by omega), BitVec.getLsbD_of_ge b1.toBitVec (k - 16) (by omega), BitVec.getLsbD_of_ge b2.toBitVec (k - 8) (by omega), BitVec.getLsbD_of_ge b3.toBitVec (k) (by omega)]

/-- What holds while a block goes in: the words, the constants, and the row of words: the first n are made, the next one is v. -/
structure Bl (w wr : World) (g1 g2 : Nat) (s : St) (b : Nat → UInt8) (n : Nat) (v : BitVec 64) : Prop where
  below : Below w.heap.size w wr
  hrow : wr.rowIs w.heap.size 152 8 (st6 s)
  res : wr.rowIs (w.heap.size + 1) 152 8 (fun _ => .int .u64 0)
  krow : wr.rowIs g1 179 64 kF
  wrow : wr.rowIs g2 179 64 (fun j => .int .u64 (if j < n then t6 (zx (wAt (word b) j)) else if j = n then t6 v else 0))
  apart : w.heap.size + 1 < g1 ∧ g1 < g2
namespace Bl
variable {w wr : World} {g1 g2 : Nat} {s : St} {b : Nat → UInt8} {n : Nat} {v : BitVec 64}
theorem drewN (h : Bl w wr g1 g2 s b n v) (m : Nat) : Bl w (wr.drewN m) g1 g2 s b n v := ⟨below_drewN h.below m, h.hrow, h.res, h.krow, h.wrow, h.apart⟩
theorem drew (h : Bl w wr g1 g2 s b n v) : Bl w wr.drew g1 g2 s b n v := ⟨below_drewN h.below 1, h.hrow, h.res, h.krow, h.wrow, h.apart⟩
theorem get (h : Bl w wr g1 g2 s b n v) (j : Nat) (hj : j < n) (h6 : j < 64) : wr.cell? ⟨g2, j, none⟩ = some (.int .u64 (t6 (zx (wAt (word b) j)))) := by
  have := h.wrow.cell h6
  rwa [if_pos hj] at this
theorem cur (h : Bl w wr g1 g2 s b n v) (h6 : n < 64) : wr.cell? ⟨g2, n, none⟩ = some (.int .u64 (t6 v)) := by
  have := h.wrow.cell h6
  rwa [if_neg (by omega), if_pos rfl] at this
/-- The next word gets another value. -/
theorem put (h : Bl w wr g1 g2 s b n v) {x : Int} (v' : BitVec 64) (hx : x = t6 v') : Bl w (wr.setCell ⟨g2, n, none⟩ (.int .u64 x)) g1 g2 s b n v' := by
  have ha := h.apart
  refine ⟨h.below.setCell (by show w.heap.size ≤ g2; omega) _, h.hrow.setOther (by show w.heap.size ≠ g2; omega) _, h.res.setOther (by show w.heap.size + 1 ≠ g2; omega) _, h.krow.setOther (by show g1 ≠ g2; omega) _, (h.wrow.set n _).congr fun j _ => ?_, ha⟩
  by_cases e : j = n
  · subst e; rw [if_pos rfl, hx, if_neg (by omega), if_pos rfl]
  · rw [if_neg e, if_neg e, if_neg e]
/-- The next word is made. -/
theorem next (h : Bl w wr g1 g2 s b n v) (hv : v = zx (wAt (word b) n)) : Bl w wr g1 g2 s b (n + 1) 0 := by
  refine ⟨h.below, h.hrow, h.res, h.krow, h.wrow.congr fun j _ => ?_, h.apart⟩
  by_cases hlt : j < n
  · rw [if_pos hlt, if_pos (by omega)]
  · rw [if_neg hlt]
    by_cases e : j = n
    · subst e; rw [if_pos rfl, if_pos (by omega), hv]
    · rw [if_neg e, if_neg (by omega)]
      split
      · rfl
      · rfl
end Bl
theorem six_val (v : BitVec 64) (x : UInt8) : bits .or .u64 (IntKind.u64.wrap (t6 v * 256)) (IntKind.u64.wrap (x.toNat : Int)) = t6 (v <<< 8 ||| zx (b32 x)) := by
  have h8 := shl_u64 v 8
  rw [show (2 : Int) ^ 8 = 256 from rfl] at h8
  have hb : IntKind.u64.wrap (x.toNat : Int) = t6 (zx (b32 x)) := by
    rw [tn_zx, ← b32_val, wrap_u64']
    have := x.toNat_lt
    omega
  rw [h8, hb, or_u64]
end Go.Proofs.YtlechjpaldpgnaaGreatDoor
namespace Go.Proofs.YtlechjpaldpgnaaGreatDoor
open Go.ChangeShapes Go.WideShapes Go.ChangeAt Go.RowKit Sh

theorem index_str (q : ByteArray) (k : Nat) (h : k < q.size) (n : Int) (hn : n = (k : Int)) (w : World) : (Instr.index 9 (.string q) (.int .i64 n)).run Tryz.prog w = .ok (.int .u8 (((byteAt q.data.toList k)).toNat : Int)) w := by
  subst hn
  have hu := Tryz.underlying9
  have hb : q[k]? = some (byteAt q.data.toList k) := by
    unfold byteAt
    rw [getElem?_pos q k h, List.getD_eq_getElem?_getD, List.getElem?_eq_getElem (show k < q.data.toList.length from h)]
    rfl
  simp [Instr.index, run_underlying hu, go_sem]
  rw [hb]
  rfl
theorem old_row {w : World} {t : TypeId} {c : Array Value} : (w.alloc (.cells c t)).heap[w.heap.size]? = some (.cells c t (0, 0)) := heap_alloc_new w _

theorem sg0_val6 (x : BitVec 32) : bits .xor .u64 (bits .xor .u64 (t6 (zx (rotr 7 x))) (t6 (zx (rotr 18 x)))) (t6 (zx x) / 8) = t6 (zx (sg0 x)) := by
  rw [show (8 : Int) = 2 ^ 3 from rfl, shr_u64, xor_u64, xor_u64, zx_shr, zx_xor, zx_xor]; rfl
theorem sg1_val6 (x : BitVec 32) : bits .xor .u64 (bits .xor .u64 (t6 (zx (rotr 17 x))) (t6 (zx (rotr 19 x)))) (t6 (zx x) / 1024) = t6 (zx (sg1 x)) := by
  rw [show (1024 : Int) = 2 ^ 10 from rfl, shr_u64, xor_u64, xor_u64, zx_shr, zx_xor, zx_xor]; rfl
/-- What holds in the rounds: all words are made; v stands in its own row. -/
structure Vl (w wr : World) (g gv : Nat) (b : Nat → UInt8) (f : Nat → Value) (v : St) : Prop where
  below : Below w.heap.size w wr
  hrow : wr.rowIs w.heap.size 152 8 f
  res : wr.rowIs (w.heap.size + 1) 152 8 (fun _ => .int .u64 0)
  krow : wr.rowIs g 179 64 kF
  wrow : wr.rowIs (g + 1) 179 64 (fun j => .int .u64 (t6 (zx (wAt (word b) j))))
  vrow : wr.rowIs gv 152 8 (st6 v)
  apart : w.heap.size + 1 < g ∧ g + 1 < gv
namespace Vl
variable {w wr : World} {g gv : Nat} {b : Nat → UInt8} {f : Nat → Value} {v : St}
theorem drewN (h : Vl w wr g gv b f v) (m : Nat) : Vl w (wr.drewN m) g gv b f v := ⟨below_drewN h.below m, h.hrow, h.res, h.krow, h.wrow, h.vrow, h.apart⟩
theorem drew (h : Vl w wr g gv b f v) : Vl w wr.drew g gv b f v := ⟨below_drewN h.below 1, h.hrow, h.res, h.krow, h.wrow, h.vrow, h.apart⟩
/-- v gets other words. -/
theorem setV (h : Vl w wr g gv b f v) {c : Array Value} (v' : St) (hc : c = vals 8 (st6 v')) : Vl w (wr.setRow gv c) g gv b f v' := by
  subst hc
  have ha := h.apart
  exact ⟨below_setRow' h.below (by omega) _, row_setRow_other h.hrow (by omega), row_setRow_other h.res (by omega), row_setRow_other h.krow (by omega), row_setRow_other h.wrow (by omega), row_setRow h.vrow, ha⟩
/-- A word of h gets another value. -/
theorem setH (h : Vl w wr g gv b f v) (k : Nat) (x : Value) : Vl w (wr.setCell ⟨w.heap.size, k, none⟩ x) g gv b (fun j => if j = k then x else f j) v := by
  have ha := h.apart
  refine ⟨h.below.setCell (Nat.le_refl _) _, h.hrow.set k _, h.res.setOther (by show w.heap.size + 1 ≠ w.heap.size; omega) _, h.krow.setOther (by show g ≠ w.heap.size; omega) _, h.wrow.setOther (by show g + 1 ≠ w.heap.size; omega) _, h.vrow.setOther (by show gv ≠ w.heap.size; omega) _, ha⟩
end Vl
theorem st6_one (v : St) : (vals 8 (st6 v)).all (·.oneCell') = true := vals_one fun _ => rfl

theorem rnd_row (x y : BitVec 64) (k w : BitVec 32) (v : St) (hx : lo x = T1 k w v + T2 v) (hy : lo y = v.d + T1 k w v) :
    (#[.int .u64 (t6 (zx (lo x))), .int .u64 (t6 (zx v.a)), .int .u64 (t6 (zx v.b)), .int .u64 (t6 (zx v.c)), .int .u64 (t6 (zx (lo y))), .int .u64 (t6 (zx v.e)), .int .u64 (t6 (zx v.f)), .int .u64 (t6 (zx v.g))] : Array Value) = vals 8 (st6 (rnd k w v)) := by
  rw [hx, hy]; rfl

theorem t12_lo (t : St) (k w : BitVec 32) : lo (zx t.h + (zx (rotr 6 t.e) ^^^ zx (rotr 11 t.e) ^^^ zx (rotr 25 t.e)) + (zx t.e &&& zx t.f ^^^ zx (lo (~~~zx t.e)) &&& zx t.g) + zx k + zx w +
    ((zx (rotr 2 t.a) ^^^ zx (rotr 13 t.a) ^^^ zx (rotr 22 t.a)) + (zx t.a &&& zx t.b ^^^ zx t.a &&& zx t.c ^^^ zx t.b &&& zx t.c))) = T1 k w t + T2 t := by
  simp only [lo_not, lo_zx, zx_xor, zx_and, lo_add, T1, T2]
theorem dt1_lo (t : St) (k w : BitVec 32) : lo (zx t.d + (zx t.h + (zx (rotr 6 t.e) ^^^ zx (rotr 11 t.e) ^^^ zx (rotr 25 t.e)) + (zx t.e &&& zx t.f ^^^ zx (lo (~~~zx t.e)) &&& zx t.g) + zx k + zx w)) = t.d + T1 k w t := by
  simp only [lo_not, lo_zx, zx_xor, zx_and, lo_add, T1]

/-- h's words on their way: the first m are summed. -/
def addW (s t : St) (m : Nat) : Nat → Value := fun j => .int .u64 (t6 (zx (if j < m then s.at j + t.at j else s.at j)))

set_option maxRecDepth 100000 in
set_option maxHeartbeats 1600000 in
theorem block_any (s : St) (q : ByteArray) (w : World) (hq : q.size = 64) :
    Calls Tryz.prog 84 #[.agg (vals 8 (st6 s)), .string q] w fun e w' => e = .returned (.agg (vals 8 (st6 (mixed s (byteAt q.data.toList))))) ∧ Below w.heap.size w w' := by
  obtain ⟨bt, hbt⟩ : ∃ bt, bt = byteAt q.data.toList := ⟨_, rfl⟩
  have HQ := Lib.hid hq
  have HBT := Lib.hid hbt
  rw [← hbt]
  have HK := Lib.hid kF_one
  have hz64 : (vals 64 fun _ => Value.int .u64 0).all (·.oneCell') = true := vals_one fun _ => rfl
  have HZ := Lib.hid hz64
  have HB0 := Lib.hid (show Tryz.prog.built 179 [] = some (vals 64 fun _ => .int .u64 0) by kernel_rfl)
  clear hq hbt hz64
  go_enter Tryz.func84, Tryz.ntmps84
  go_wp2_with (fail)
  refine (consts_any _).mono ?_
  rintro e w1 ⟨rfl, hb1⟩
  have hs1 := hb1.size
  have hr0 : w1.rowIs w.heap.size 152 8 (st6 s) := ((row_alloc _ rfl rfl).alloc _).of_block (hb1.block _ (by simp; omega))
  have hr1 : w1.rowIs (w.heap.size + 1) 152 8 (fun _ => .int .u64 0) := (row_alloc _ (by simp) (by kernel_rfl)).of_block (hb1.block _ (by simp))
  have hB1 : Below w.heap.size w w1 := (((Below.refl _ _).alloc (Nat.le_refl _) _).alloc (by simp) _).trans (hb1.mono (by simp; omega))
  have hs1' : w.heap.size + 2 ≤ w1.heap.size := by simpa using hs1
  have HR0 := Lib.hid hr0
  have HR1 := Lib.hid hr1
  have HB1 := Lib.hid hB1
  clear hr0 hr1 hB1 hb1 hs1
  have hn1 : ∀ o, (w1.alloc o).heap[w1.heap.size]? = some o := fun o => heap_alloc_new w1 o
  have HN1 := Lib.hid hn1
  clear hn1
  have hn2 : ∀ o c o', (((w1.alloc o).setRow w1.heap.size c).alloc o').heap[w1.heap.size + 1]? = some o' := fun o c o' => by
    have := heap_alloc_new ((w1.alloc o).setRow w1.heap.size c) o'
    simpa using this
  have HN2 := Lib.hid hn2
  clear hn2
  go_wp2_with (first
    | (with_reducible refine wpList_store_row rfl 179 _ _ rfl _ _ rfl rfl 179 _ (HN1.out _) (hi64 kF) ?_ HK.out ?_)
    | (refine wpList_build_to rfl 179 #[] rfl [] rfl _ HB0.out ?_)
    | (with_reducible refine wpList_store_row rfl 179 _ _ rfl _ _ rfl rfl 179 _ (HN2.out _ _ _) (hi64 _) ?_ HZ.out ?_))
  · rw [vals_size]; rfl
  · rw [vals_size]; rfl
  have hM : ∀ c c' : Array Value, Bl w ((((w1.alloc (.cells c 179)).setRow w1.heap.size (vals 64 kF)).alloc (.cells c' 179)).setRow (w1.heap.size + 1) (vals 64 fun _ => .int .u64 0)) w1.heap.size (w1.heap.size + 1) s bt 0 0 := fun c c' => by
    have b1 := below_setRow' (HB1.out.alloc (show w.heap.size ≤ w1.heap.size by omega) (.cells c 179)) (show w.heap.size ≤ w1.heap.size by omega) (vals 64 kF)
    have b2 := below_setRow' (b1.alloc (by simp; omega) (.cells c' 179)) (show w.heap.size ≤ w1.heap.size + 1 by omega) (vals 64 fun _ => .int .u64 0)
    refine ⟨b2, ?_, ?_, ?_, ?_, by omega, by omega⟩
    · exact row_setRow_other ((row_setRow_other (HR0.out.alloc _) (by omega)).alloc _) (by omega)
    · exact row_setRow_other ((row_setRow_other (HR1.out.alloc _) (by omega)).alloc _) (by omega)
    · exact row_setRow_other ((row_of_block (setRow_heap _ _ c _ _ _ (heap_alloc_new w1 _))).alloc _) (by omega)
    · refine (row_of_block (setRow_heap _ _ c' _ _ _ (HN2.out _ _ _))).congr fun j _ => ?_
      rw [if_neg (Nat.not_lt_zero j)]
      split
      · rfl
      · rfl
  refine gen_world (fun wr => Bl w wr w1.heap.size (w1.heap.size + 1) s bt 0 0) (hM _ _) ?_
  clear hM HK HZ HB0 HN1 HN2 HR0 HR1 HB1
  generalize w1.heap.size = g
  clear hs1' w1
  intro wr hM
  go_loopw [7] (fun i wr => ∃ k : Nat, k ≤ 64 ∧ i = .int .i64 k ∧ Bl w wr g (g + 1) s bt k 0) (fun i _ => 64 - (intOf i).toNat)
  case atStart => exact ⟨0, by omega, rfl, hM⟩
  case round =>
    clear hM
    obtain ⟨k, hk, rfl, hs⟩ := hrel
    by_cases hlt : k < 64
    · by_cases h16 : k < 16
      · go_wp2
        go_loopw [8] (fun j wr => ∃ m : Nat, m ≤ 4 ∧ j = .int .i64 m ∧ Bl w wr g (g + 1) s bt k (part6 bt k m)) (fun j _ => 4 - (intOf j).toNat)
        case atStart => exact ⟨0, by omega, rfl, hs⟩
        case round =>
          clear hs
          obtain ⟨m, hm, rfl, hs⟩ := hrel
          by_cases hlt4 : m < 4
          · have r := hs.cur (by omega)
            have HV := Lib.hid (six_val (part6 bt k m) (bt (4 * k + m)))
            have e0 : IntKind.i64.wrap (4 * (k : Int)) = 4 * (k : Int) := IntWalk.i64_in _ (by omega)
            have e1 : IntKind.i64.wrap (4 * (k : Int) + (m : Int)) = 4 * (k : Int) + (m : Int) := IntWalk.i64_in _ (by omega)
            have n1 : (4 * (k : Int) + (m : Int)).toNat = 4 * k + m := by omega
            have l1 : 0 ≤ 4 * (k : Int) + (m : Int) := by omega
            have lk : 0 ≤ (k : Int) := by omega
            have mk : (k : Int) < 64 := by omega
            have hx : ∀ w, (Instr.index 9 (.string q) (.int .i64 (4 * (k : Int) + (m : Int)))).run Tryz.prog w = .ok (.int .u8 ((bt (4 * k + m)).toNat : Int)) w := fun w => by
              rw [HBT.out]
              exact index_str q (4 * k + m) (by rw [HQ.out]; omega) _ (by omega) w
            go_wp2
            go_still_tail 14, (by kernel_rfl)
            change wpList _ _ _ _ _ wr.drew
            have hs' := hs.drew
            clear hs r e0 e1 n1 l1 hx
            generalize wr.drew = w2 at hs' ⊢
            have r0 := hs'.wrow.cell (i := k) (by omega)
            have f0 := hs'.wrow.frozen k
            go_wp2
            go_roundw
            case rel => exact ⟨m + 1, by omega, by go_num, hs'.put _ (by first | exact HV.out | (rw [HV.out]; rfl))⟩
            case measure => simp [intOf]; omega
          · have HK4 := Lib.hid (show m = 4 by omega)
            go_wp2
            go_roundw
            case rel => exact ⟨k + 1, by omega, by go_num, hs.next (by rw [HK4.out, part6_all, wAt_first _ _ h16])⟩
            case measure => simp [intOf]; omega
      · have v0 := sg0_val6 (wAt (word bt) (k - 15))
        have v1 := sg1_val6 (wAt (word bt) (k - 2))
        have HN := Lib.hid (wAt_next (word bt) k (by omega))
        have e0 : IntKind.i64.wrap ((k : Int) - 15) = (k : Int) - 15 := IntWalk.i64_in _ (by omega)
        have e1 : IntKind.i64.wrap ((k : Int) - 2) = (k : Int) - 2 := IntWalk.i64_in _ (by omega)
        have n0 : ((k : Int) - 15).toNat = k - 15 := by omega
        have n1 : ((k : Int) - 2).toNat = k - 2 := by omega
        have l0 : 0 ≤ (k : Int) - 15 := by omega
        have l1 : 0 ≤ (k : Int) - 2 := by omega
        have m0 : (k : Int) - 15 < 64 := by omega
        have m1 : (k : Int) - 2 < 64 := by omega
        have r15 := hs.get (k - 15) (by omega) (by omega)
        have r2 := hs.get (k - 2) (by omega) (by omega)
        go_wp2_with (fail)
        refine (turn_any _ _ _ (by omega) (by omega)).mono ?_
        rintro e w2 ⟨rfl, q1, rfl⟩
        go_wp2_with (fail)
        refine (turn_any _ _ _ (by omega) (by omega)).mono ?_
        rintro e w2 ⟨rfl, q2, rfl⟩
        go_wp2_with (fail)
        refine (turn_any _ _ _ (by omega) (by omega)).mono ?_
        rintro e w2 ⟨rfl, q3, rfl⟩
        go_wp2_with (fail)
        refine (turn_any _ _ _ (by omega) (by omega)).mono ?_
        rintro e w2 ⟨rfl, q4, rfl⟩
        go_wp2_with (fail)
        have hs2 := hs.drewN (q1 + q2 + q3 + q4)
        clear r15 r2 hs
        generalize wr.drewN (q1 + q2 + q3 + q4) = wb at hs2 ⊢
        clear v0 v1 e0 e1 n0 n1 l0 l1 m0 m1
        have r16 := hs2.get (k - 16) (by omega) (by omega)
        have r7 := hs2.get (k - 7) (by omega) (by omega)
        have e0 : IntKind.i64.wrap ((k : Int) - 16) = (k : Int) - 16 := IntWalk.i64_in _ (by omega)
        have e1 : IntKind.i64.wrap ((k : Int) - 7) = (k : Int) - 7 := IntWalk.i64_in _ (by omega)
        have n0 : ((k : Int) - 16).toNat = k - 16 := by omega
        have n1 : ((k : Int) - 7).toNat = k - 7 := by omega
        have l0 : 0 ≤ (k : Int) - 16 := by omega
        have l1 : 0 ≤ (k : Int) - 7 := by omega
        have m0 : (k : Int) - 16 < 64 := by omega
        have m1 : (k : Int) - 7 < 64 := by omega
        have lk : 0 ≤ (k : Int) := by omega
        have mk : (k : Int) < 64 := by omega
        have ka := add_u64
        have x0 : 16 ≤ (k : Int) := by omega
        have x1 : 7 ≤ (k : Int) := by omega
        go_still_tail 16, (by kernel_rfl)
        still_call ((cut_any _ _).mono fun _ _ ⟨a, b⟩ => ⟨a, b.symm⟩)
        repeat still_step
        refine wpStill_nil ?_
        change wpList _ _ _ _ _ wb.drew
        have hs3 := hs2.drew
        clear hs2 r16 r7 e0 e1 n0 n1 l0 l1 m0 m1
        generalize wb.drew = w3 at hs3 ⊢
        have r0 := hs3.wrow.cell (i := k) (by omega)
        have f0 := hs3.wrow.frozen k
        go_wp2
        go_roundw
        case rel => exact ⟨k + 1, by omega, by go_num, (hs3.put _ rfl).next (by rw [lo_add, lo_add, lo_add, lo_zx, lo_zx, lo_zx, lo_zx, HN.out])⟩
        case measure => simp [intOf]; omega
    · have HK := Lib.hid (show k = 64 by omega)
      have hl := hs.wrow.lt
      have ha := hs.apart
      have H1 := Lib.hid (row_block hs.hrow)
      have HN := Lib.hid (show ∀ o, (wr.alloc o).heap[wr.heap.size]? = some o from fun o => heap_alloc_new wr o)
      have HO := Lib.hid (st6_one s)
      have HV := Lib.hid (show ∀ c : Array Value, Vl w ((wr.alloc (.cells c 152)).setRow wr.heap.size (vals 8 (st6 s))) g wr.heap.size bt (st6 s) s from fun c => by
        have b1 := below_setRow' (hs.below.alloc (show w.heap.size ≤ wr.heap.size by omega) (.cells c 152)) (show w.heap.size ≤ wr.heap.size by omega) (vals 8 (st6 s))
        refine ⟨b1, row_setRow_other (hs.hrow.alloc _) (by omega), row_setRow_other (hs.res.alloc _) (by omega), row_setRow_other (hs.krow.alloc _) (by omega), row_setRow_other ((hs.wrow.congr fun j hj => ?_).alloc _) (by omega), row_of_block (setRow_heap _ _ c _ _ _ (heap_alloc_new wr _)), by omega, by omega⟩
        rw [if_pos (by omega)])
      clear hs
      go_wp2_with (first
        | (with_reducible refine wpList_load_row rfl 152 _ rfl _ rfl 152 _ _ _ H1.out Tryz.underlying152 rfl (hi8 _) ?_)
        | (with_reducible refine wpList_store_row rfl 152 _ _ rfl _ _ rfl rfl 152 _ (HN.out _) (hi8 _) ?_ HO.out ?_))
      · rw [vals_size]; rfl
      refine gen_world (fun wx => Vl w wx g wr.heap.size bt (st6 s) s) (HV.out _) ?_
      clear HV HN H1
      generalize wr.heap.size = gv
      clear hl ha
      intro wx hV
      go_loopw [14] (fun i wx => ∃ n : Nat, n ≤ 64 ∧ i = .int .i64 n ∧ Vl w wx g gv bt (st6 s) (runs (wAt (word bt)) s n)) (fun i _ => 64 - (intOf i).toNat)
      case atStart => exact ⟨0, by omega, rfl, hV⟩
      case round =>
        clear hV
        obtain ⟨n, hn, rfl, hV⟩ := hrel
        have HT := Lib.hid (show runs (wAt (word bt)) s (n + 1) = rnd (kAt n) (wAt (word bt) n) (runs (wAt (word bt)) s n) from rfl)
        have HTk := Lib.hid (show n = 64 → mixed s bt = plusSt s (runs (wAt (word bt)) s n) from fun e => by rw [e]; rfl)
        generalize runs (wAt (word bt)) s n = t at HT HTk hV ⊢
        by_cases hlt : n < 64
        · have cK : wr.cell? ⟨g, n, none⟩ = some (.int .u64 (t6 (zx (kAt n)))) := hV.krow.cell hlt
          have cW : wr.cell? ⟨g + 1, n, none⟩ = some (.int .u64 (t6 (zx (wAt (word bt) n)))) := hV.wrow.cell hlt
          have c0 : wr.cell? ⟨gv, 0, none⟩ = some (.int .u64 (t6 (zx t.a))) := hV.vrow.cell (i := 0) (by omega)
          have c1 : wr.cell? ⟨gv, 1, none⟩ = some (.int .u64 (t6 (zx t.b))) := hV.vrow.cell (i := 1) (by omega)
          have c2 : wr.cell? ⟨gv, 2, none⟩ = some (.int .u64 (t6 (zx t.c))) := hV.vrow.cell (i := 2) (by omega)
          have c3 : wr.cell? ⟨gv, 3, none⟩ = some (.int .u64 (t6 (zx t.d))) := hV.vrow.cell (i := 3) (by omega)
          have c4 : wr.cell? ⟨gv, 4, none⟩ = some (.int .u64 (t6 (zx t.e))) := hV.vrow.cell (i := 4) (by omega)
          have c5 : wr.cell? ⟨gv, 5, none⟩ = some (.int .u64 (t6 (zx t.f))) := hV.vrow.cell (i := 5) (by omega)
          have c6 : wr.cell? ⟨gv, 6, none⟩ = some (.int .u64 (t6 (zx t.g))) := hV.vrow.cell (i := 6) (by omega)
          have c7 : wr.cell? ⟨gv, 7, none⟩ = some (.int .u64 (t6 (zx t.h))) := hV.vrow.cell (i := 7) (by omega)
          have lk : 0 ≤ (n : Int) := by omega
          have mk : (n : Int) < 64 := by omega
          have kx := xor_u64
          have kn := and_u64
          have ka := add_u64
          have kt := not_u64 (zx t.e)
          have kv := fun a b => (show IntKind.u64.wrap (t6 a + t6 b) = t6 (a + b) from add_u64 a b)
          go_wp2
          go_quiet (first
            | (go_at_call 108; exact quiet_more (turn_any _ _ _ (by omega) (by omega)))
            | (go_at_call 109; exact quiet_here (cut_any _ _)))
          have hV1 := hV.drewN nq
          clear cK cW hV kt c4 c5 c6 c7 c0 c1 c2 c3
          generalize wr.drewN nq = wa at hV1 ⊢
          have c1 : wa.cell? ⟨gv, 1, none⟩ = some (.int .u64 (t6 (zx t.b))) := hV1.vrow.cell (i := 1) (by omega)
          have c2 : wa.cell? ⟨gv, 2, none⟩ = some (.int .u64 (t6 (zx t.c))) := hV1.vrow.cell (i := 2) (by omega)
          go_wp2
          go_quiet ((go_at_call 108; exact quiet_more (turn_any _ _ _ (by omega) (by omega))))
          have hV2 := hV1.drewN nq
          clear hV1 c1 c2
          generalize wa.drewN nq = wb at hV2 ⊢
          have c0 : wb.cell? ⟨gv, 0, none⟩ = some (.int .u64 (t6 (zx t.a))) := hV2.vrow.cell (i := 0) (by omega)
          have c1 : wb.cell? ⟨gv, 1, none⟩ = some (.int .u64 (t6 (zx t.b))) := hV2.vrow.cell (i := 1) (by omega)
          have c2 : wb.cell? ⟨gv, 2, none⟩ = some (.int .u64 (t6 (zx t.c))) := hV2.vrow.cell (i := 2) (by omega)
          have c3 : wb.cell? ⟨gv, 3, none⟩ = some (.int .u64 (t6 (zx t.d))) := hV2.vrow.cell (i := 3) (by omega)
          have c4 : wb.cell? ⟨gv, 4, none⟩ = some (.int .u64 (t6 (zx t.e))) := hV2.vrow.cell (i := 4) (by omega)
          have c5 : wb.cell? ⟨gv, 5, none⟩ = some (.int .u64 (t6 (zx t.f))) := hV2.vrow.cell (i := 5) (by omega)
          have c6 : wb.cell? ⟨gv, 6, none⟩ = some (.int .u64 (t6 (zx t.g))) := hV2.vrow.cell (i := 6) (by omega)
          clear kx kn
          go_wp2
          go_still_tail 22, (by kernel_rfl)
          still_call ((cut_any _ _).mono fun _ _ ⟨a, b⟩ => ⟨a, b.symm⟩)
          repeat still_step
          still_call ((cut_any _ _).mono fun _ _ ⟨a, b⟩ => ⟨a, b.symm⟩)
          repeat still_step
          refine wpStill_nil ?_
          change wpList _ _ _ _ _ wb.drew
          have hV3 := hV2.drew
          clear hV2 c0 c1 c2 c3 c4 c5 c6 ka kv
          generalize wb.drew = w3 at hV3 ⊢
          refine wpList_store_row rfl 152 (.tmp 13) (.tmp 171) rfl gv (vals 8 (st6 (rnd (kAt n) (wAt (word bt) n) t))) rfl (congrArg Value.agg (rnd_row _ _ (kAt n) (wAt (word bt) n) t (t12_lo t _ _) (dt1_lo t _ _))) 152 (vals 8 (st6 t)) (row_block hV3.vrow) (hi8 _) (by rw [vals_size, vals_size]) (st6_one _) ?_
          have hV4 := hV3.setV (rnd (kAt n) (wAt (word bt) n) t) rfl
          clear hV3
          generalize w3.setRow gv (vals 8 (st6 (rnd (kAt n) (wAt (word bt) n) t))) = w4 at hV4 ⊢
          go_wp2
          go_roundw
          case rel => exact ⟨n + 1, by omega, by go_num, by rw [HT.out]; exact hV4⟩
          case measure => simp [intOf]; omega
        · have HN := Lib.hid (show n = 64 by omega)
          have hA : Vl w wr g gv bt (addW s t 0) t := ⟨hV.below, hV.hrow.congr fun j _ => by unfold st6 addW; rw [if_neg (Nat.not_lt_zero j)], hV.res, hV.krow, hV.wrow, hV.vrow, hV.apart⟩
          clear hV
          go_wp2
          go_loopw [19] (fun i wx => ∃ m : Nat, m ≤ 8 ∧ i = .int .i64 m ∧ Vl w wx g gv bt (addW s t m) t) (fun i _ => 8 - (intOf i).toNat)
          case atStart => exact ⟨0, by omega, rfl, hA⟩
          case round =>
            clear hA hlt hn
            obtain ⟨m, hm, rfl, hA⟩ := hrel
            by_cases hlt : m < 8
            · have c0 : wr.cell? ⟨w.heap.size, m, none⟩ = some (.int .u64 (t6 (zx (s.at m)))) := by
                have := hA.hrow.cell (i := m) (by omega)
                unfold addW at this
                rwa [if_neg (by omega)] at this
              have c1 : wr.cell? ⟨gv, m, none⟩ = some (.int .u64 (t6 (zx (t.at m)))) := hA.vrow.cell (i := m) (by omega)
              have ka := add_u64
              have lk : 0 ≤ (m : Int) := by omega
              have mk : (m : Int) < 8 := by omega
              go_wp2
              go_still_tail 10, (by kernel_rfl)
              still_call ((cut_any _ _).mono fun _ _ ⟨a, b⟩ => ⟨a, b.symm⟩)
              repeat still_step
              refine wpStill_nil ?_
              change wpList _ _ _ _ _ wr.drew
              have hA2 := hA.drew
              clear hA c0 c1
              generalize wr.drew = w3 at hA2 ⊢
              have r0 := hA2.hrow.cell (i := m) (by omega)
              have f0 := hA2.hrow.frozen m
              go_wp2
              go_roundw
              case rel =>
                refine ⟨m + 1, by omega, by go_num, ?_⟩
                have h5 := hA2.setH m (.int .u64 (t6 (zx (lo (zx (s.at m) + zx (t.at m))))))
                refine ⟨h5.below, h5.hrow.congr fun j _ => ?_, h5.res, h5.krow, h5.wrow, h5.vrow, h5.apart⟩
                unfold addW
                by_cases e : j = m
                · rw [if_pos e, if_pos (by omega), e, lo_add, lo_zx, lo_zx]
                · rw [if_neg e]
                  by_cases hj : j < m
                  · rw [if_pos hj, if_pos (by omega)]
                  · rw [if_neg hj, if_neg (by omega)]
              case measure => simp [intOf]; omega
            · have HM := Lib.hid (show m = 8 by omega)
              have hF : Vl w wr g gv bt (st6 (mixed s bt)) t := ⟨hA.below, hA.hrow.congr fun j hj => by
                unfold st6 addW
                rw [if_pos (by have := HM.out; omega), HTk.out HN.out, plusSt_at], hA.res, hA.krow, hA.wrow, hA.vrow, hA.apart⟩
              have hbl := below_setRow' hF.below (show w.heap.size ≤ w.heap.size + 1 by omega) (vals 8 (st6 (mixed s bt)))
              have H1 := Lib.hid (row_block hF.hrow)
              have H2 := Lib.hid (row_block hF.res)
              have H3 := Lib.hid (row_block (row_setRow (g := st6 (mixed s bt)) hF.res))
              have HZ := Lib.hid (show (vals 8 fun _ => Value.int .u64 0).size = (vals 8 (st6 (mixed s bt))).size by rw [vals_size, vals_size])
              have HO2 := Lib.hid (st6_one (mixed s bt))
              have HB := Lib.hid hbl
              clear hA hF hbl
              go_wp2_with (first
                | (with_reducible refine wpList_load_row rfl 152 _ rfl _ rfl 152 _ _ _ H1.out Tryz.underlying152 rfl (hi8 _) ?_)
                | (with_reducible refine wpList_store_row rfl 152 _ _ rfl _ _ rfl rfl 152 _ H2.out (hi8 _) HZ.out HO2.out ?_))
              refine bodyPost_ret (results_cell_row rfl _ _ _ 152 _ _ _ rfl H3.out Tryz.underlying152 rfl (hi8 _)) rfl ?_
              exact ⟨rfl, HB.out⟩
end Go.Proofs.YtlechjpaldpgnaaGreatDoor
namespace Go.Proofs.YtlechjpaldpgnaaGreatDoor
open Go.ChangeShapes Go.WideShapes Go.ChangeAt Go.RowKit Sh

/-- The slice v owns the bytes l; of its row nothing within is frozen. -/
def BRow (w : World) (base : Nat) (v : Value) (l : List UInt8) : Prop :=
  ∃ g cap cur fz, v = .slice (some ⟨g, 0, none⟩) l.length cap ∧ base ≤ g ∧ w.heap[g]? = some (.cells cur 5 fz) ∧ (fz = (0, 0) ∨ fz.1 = cap) ∧ l.length ≤ cap ∧ cap ≤ maxLen ∧ cur.size = cap ∧
    ∀ j, j < l.length → cur[j]? = some (.int .u8 ((byteAt l j).toNat : Int))
namespace BRow
variable {w : World} {base : Nat} {v : Value} {l : List UInt8}
theorem cell {g cap : Nat} (h : BRow w base (.slice (some ⟨g, 0, none⟩) l.length cap) l) (j : Nat) (hj : j < l.length) : w.cell? ⟨g, j, none⟩ = some (.int .u8 ((byteAt l j).toNat : Int)) := by
  obtain ⟨g', cap', cur, fz, hv, _, hg, _, _, _, _, hc⟩ := h
  injection hv with h1 _ _
  injection h1 with h1
  injection h1 with h1 _ _
  subst h1
  rw [cell_of_row w g j cur _ fz hg]
  exact hc j hj
theorem form (h : BRow w base v l) : ∃ g cap, v = .slice (some ⟨g, 0, none⟩) l.length cap ∧ base ≤ g ∧ g < w.heap.size ∧ BRow w base (.slice (some ⟨g, 0, none⟩) l.length cap) l := by
  obtain ⟨g, cap, cur, fz, rfl, hb, hg, r⟩ := h
  exact ⟨g, cap, rfl, hb, (Array.getElem?_eq_some_iff.1 hg).1, g, cap, cur, fz, rfl, hb, hg, r⟩
theorem kept {w' : World} {row : Option Nat} (h : BRow w base v l) (hg : w.grownBy w' row) (hne : v.ownBlock ≠ row ∨ row = none) : BRow w' base v l := by
  obtain ⟨g, cap, cur, fz, rfl, hb, hgg, r⟩ := h
  refine ⟨g, cap, cur, fz, rfl, hb, ?_, r⟩
  rw [hg.block g (Array.getElem?_eq_some_iff.1 hgg).1 (by rcases hne with h | h
                                                          · simpa [Value.ownBlock] using h
                                                          · rw [h]; simp)]
  exact hgg
theorem alloc (h : BRow w base v l) (o : Obj) : BRow (w.alloc o) base v l := h.kept (World.grownBy_alloc w o none) (.inr rfl)
theorem drew (h : BRow w base v l) : BRow w.drew base v l := h
theorem drewN (h : BRow w base v l) (n : Nat) : BRow (w.drewN n) base v l := h
theorem below {w' : World} (h : BRow w base v l) (hb : Below w.heap.size w w') : BRow w' base v l := by
  obtain ⟨g, cap, cur, fz, rfl, hbs, hgg, r⟩ := h
  exact ⟨g, cap, cur, fz, rfl, hbs, (hb.block g (Array.getElem?_eq_some_iff.1 hgg).1).trans hgg, r⟩
/-- '[]byte(s)'. -/
theorem ofText (w : World) (s : ByteArray) (hs : s.size ≤ maxLen) (hb : base ≤ w.heap.size) : BRow (Lib.bytesWorld w 5 s) base (.slice (some ⟨w.heap.size, 0, none⟩) s.size (grownCap w s.size 0 5)) s.data.toList := by
  have hge := grownCap_ge w s.size 0 5
  have hsz : (Lib.bytesCells w 5 s).size = grownCap w s.size 0 5 := by
    unfold Lib.bytesCells
    have : s.data.size = s.size := rfl
    simp
    omega
  refine ⟨w.heap.size, _, _, _, rfl, hb, Lib.bytesWorld_at_new w _ s, .inr ?_, ?_, grownCap_le_maxLen w _ _ _ hs, hsz, ?_⟩
  · exact hsz
  · exact hge
  · intro j hj
    have := Lib.bytesWorld_cell w 5 s j hj
    rw [cell_of_row _ _ j _ _ _ (Lib.bytesWorld_at_new w _ s)] at this
    exact this
/-- One byte more. -/
theorem run_more (h : BRow w base v l) (hl : l.length < 1000000) (hbase : base ≤ w.heap.size) (ab c : Nat) (x : UInt8) (hx : w.cell? ⟨ab, 0, none⟩ = some (.int .u8 (x.toNat : Int))) (ty : TypeId) :
    ∃ v' w', (Builtin.append_ #[92, 92] ty #[v, .slice (some ⟨ab, 0, none⟩) 1 c]).run Tryz.prog w = .ok v' w' ∧ BRow w' base v' (l ++ [x]) ∧ w.grownBy w' v.ownBlock := by
  obtain ⟨g, cap, cur, fz, rfl, hb, hg, hfz, hcap, hmax, hsz, hc⟩ := h
  obtain ⟨i0, hi, hz0, hz1, hz2⟩ := info_parts info5
  have hnews : ∀ j u, [Value.int .u8 (x.toNat : Int)][j]? = some u → w.cell? ((⟨ab, 0, none⟩ : Addr).add j) = some u := by
    intro j u hj
    match j, hj with
    | 0, hj => simp at hj; subst hj; simpa [Addr.add] using hx
  have hbyte : ∀ j, j < (l ++ [x]).length → byteAt (l ++ [x]) j = if j < l.length then byteAt l j else x := by
    intro j hj
    unfold byteAt
    simp only [List.getD_eq_getElem?_getD, List.getElem?_append]
    split
    · rfl
    · have : j - l.length = 0 := by simp at hj; omega
      rw [this]; rfl
  by_cases hroom : l.length + 1 ≤ cap
  · have hcell : w.cell? ⟨g, l.length, none⟩ = cur[l.length]? := cell_of_row w g l.length cur _ fz hg
    have hfr : w.frozen? ⟨g, l.length, none⟩ = false := by
      unfold World.frozen?
      simp only [hg]
      rcases hfz with rfl | h1
      · simp
      · simp; omega
    have hsome : cur[l.length]? = some (cur[l.length]'(by omega)) := Array.getElem?_eq_getElem _
    refine ⟨.slice (some ⟨g, 0, none⟩) (l.length + 1) cap, w.setCell ⟨g, l.length, none⟩ (.int .u8 (x.toNat : Int)), ?_, ?_, ?_⟩
    · have hf := run_firstCells_some (P := Tryz.prog) w i0.size 1 ⟨ab, 0, none⟩ 1 c [Value.int .u8 (x.toNat : Int)] (by rw [hz1]; rfl) hnews
      rw [hz1] at hf
      have hst : (storeCells ⟨g, l.length, none⟩ [Value.int .u8 (x.toNat : Int)]).run Tryz.prog w = .ok () (w.setCell ⟨g, l.length, none⟩ (.int .u8 (x.toNat : Int))) := by
        have h0 := hcell.trans hsome
        simp [storeCells, run_store_int, stored, h0, hfr, Addr.add]
      simp [Builtin.append_, run_underlying Tryz.underlying92, sizeOf, typeInfo, hi, Builtin.lenOf, hroom, hf, Addr.add_lit, hz1, hst]
    · have he := setCell_eq_setRow w g l.length cur _ fz (.int .u8 (x.toNat : Int)) hg
      refine ⟨g, cap, cur.setIfInBounds l.length (.int .u8 (x.toNat : Int)), fz, by simp, hb, ?_, hfz, by simpa using hroom, hmax, by simpa using hsz, fun j hj => ?_⟩
      · rw [he]; exact setRow_heap w g cur _ _ fz hg
      · rw [hbyte j hj, Array.getElem?_setIfInBounds]
        by_cases e : l.length = j
        · rw [if_pos e, if_pos (show l.length < cur.size by omega), if_neg (show ¬ j < l.length by omega)]
        · rw [if_neg e]
          have hj' : j < l.length := by simp at hj; omega
          rw [if_pos hj']
          exact hc j hj'
    · exact ⟨rfl, rfl, rfl, by simp, fun k _ hk => heap_setCell_other w _ k _ (fun e => hk (by simp [Value.ownBlock, e]))⟩
  · have hold : ∀ j u, (l.map fun b => Value.int .u8 (b.toNat : Int))[j]? = some u → w.cell? ((⟨g, 0, none⟩ : Addr).add j) = some u := by
      intro j u hu
      have hj : j < l.length := by
        have := (List.getElem?_eq_some_iff.1 hu).1
        simpa using this
      rw [Addr.add_lit, Nat.zero_add, cell_of_row w g j cur _ fz hg, hc j hj, ← hu]
      simp [byteAt, hj]
    have hlc : l.length = cap := by omega
    have hr := run_append_grow (P := Tryz.prog) w 92 ty 5 i0 _ Tryz.underlying92 hi hz0 ⟨g, 0, none⟩ l.length cap (l.map fun b => Value.int .u8 (b.toNat : Int)) (by rw [hz1]; simp) hold ⟨ab, 0, none⟩ 1 c [Value.int .u8 (x.toNat : Int)] (by rw [hz1]; rfl) hnews (by omega) (by omega) (growslice_fits (by omega) (by rw [hz2]; omega))
    have hge := grownCap_ge w (l.length + 1) cap 5
    refine ⟨_, _, hr, ⟨w.heap.size, grownCap w (l.length + 1) cap 5, _, (0, 0), by simp, hbase, heap_alloc_new w.drew _, .inl rfl, by simpa using hge, grownCap_le_maxLen w _ _ _ (by unfold maxLen; omega), ?_, fun j hj => ?_⟩, ⟨rfl, rfl, rfl, by simp, fun k hk _ => heap_alloc_old w.drew _ hk⟩⟩
    · simp [size_zeroCells, Value.cells]
      omega
    · have hj2 : j < l.length + 1 := by simpa using hj
      rw [hbyte j hj, Array.getElem?_append_left (by simp; omega)]
      by_cases e : j < l.length
      · rw [if_pos e, Array.getElem?_append_left (by simpa using e)]
        simp [byteAt, e]
      · have e2 : j = l.length := by omega
        rw [if_neg e, Array.getElem?_append_right (by simp; omega)]
        simp [e2]
/-- .. for the walk: 'go_wp2_with (at_builtin; refine BRow.wpList_more rfl S X rfl HROW .. ?_)'. -/
theorem wpList_more {ops : Array Oper} {rest : List Oper} {o : Oper} {a : Act} {Q : Exit → Act → World → Prop} (hgd : o.guard = none) (s x : Operand)
    (ho : o.op = .call { callee := .builtin .append, args := #[s, x], argTypes := #[92, 92] })
    (hs : a.eval s = v) (h : BRow w base v l) (hl : l.length < 1000000) (hbase : base ≤ w.heap.size) (ab c : Nat) (y : UInt8) (hx : a.eval x = .slice (some ⟨ab, 0, none⟩) 1 c) (hy : w.cell? ⟨ab, 0, none⟩ = some (.int .u8 (y.toNat : Int)))
    (hK : ∀ g cap w', BRow w' base (.slice (some ⟨g, 0, none⟩) (l.length + 1) cap) (l ++ [y]) → w.grownBy w' v.ownBlock → wpList Tryz.prog ops Q rest (a.put o.dst (.slice (some ⟨g, 0, none⟩) (l.length + 1) cap)) w') : wpList Tryz.prog ops Q (o :: rest) a w := by
  refine wpList_plain hgd fun K hK' => ?_
  obtain ⟨v', w', hrun, h1, h2⟩ := h.run_more hl hbase ab c y hy o.type
  obtain ⟨g, cap, rfl, _, _, _⟩ := h1.form
  simp only [List.length_append, List.length_cons, List.length_nil, Nat.zero_add] at h1 hrun
  unfold Oper.wp
  simp [execOp, ho, resolve, invoke, builtin, hs, hx, hrun, Result.andThen]
  exact hK' _ _ (hK g cap w' h1 h2)
/-- A row that the call made: nothing that was there ahead of it is touched. -/
theorem grown {w0 w' : World} (h : BRow w base v l) (hb : Below base w0 w) (hg : w.grownBy w' v.ownBlock) (hbase : base ≤ w.heap.size) : Below base w0 w' := by
  obtain ⟨g, cap, rfl, hbg, _, _⟩ := h.form
  exact hb.grown hg hbase (fun k hk => by simp [Value.ownBlock] at hk; omega)
/-- '[]byte(s)' in the walk: the world is new, the row one's own. -/
theorem wpList_text {ops : Array Oper} {rest : List Oper} {o : Oper} {a : Act} {Q : Exit → Act → World → Prop} {base : Nat} {w : World} (hgd : o.guard = none) (x : Operand) (ho : o.op = .convert 9 92 x)
    (q : ByteArray) (hx : a.eval x = .string q) (hq : q.size ≤ maxLen) (hbase : base ≤ w.heap.size) (l : List UInt8) (hl : q.data.toList = l)
    (hK : ∀ g cap w', BRow w' base (.slice (some ⟨g, 0, none⟩) l.length cap) l → w.grownBy w' none → wpList Tryz.prog ops Q rest (a.put o.dst (.slice (some ⟨g, 0, none⟩) l.length cap)) w') : wpList Tryz.prog ops Q (o :: rest) a w := by
  subst hl
  refine wpList_plain hgd fun K hK' => ?_
  have hrun := Lib.run_convert_string_bytes (P := Tryz.prog) w 9 92 5 q Tryz.underlying9 Tryz.underlying92 Tryz.underlying5
  have hg : w.grownBy (Lib.bytesWorld w 5 q) none := ⟨by unfold Lib.bytesWorld World.freeze; split <;> rfl, by unfold Lib.bytesWorld World.freeze; split <;> rfl, by unfold Lib.bytesWorld World.freeze; split <;> rfl, by rw [Lib.bytesWorld_size]; omega, fun k hk _ => Lib.bytesWorld_at_old w _ q k hk⟩
  unfold Oper.wp
  simp [execOp, ho, hx, hrun, Result.andThen]
  exact hK' _ _ (hK _ _ _ (ofText w q hq hbase) hg)
end BRow
/-- A slice's length. -/
def lenV : Value → Nat
  | .slice _ n _ => n
  | _ => 0
end Go.Proofs.YtlechjpaldpgnaaGreatDoor
namespace Go.Proofs.YtlechjpaldpgnaaGreatDoor
open Go.ChangeShapes Go.WideShapes Go.ChangeAt Go.RowKit Sh

/-- What holds while the bytes grow: nothing that was there has turned, the answer's row is empty, v owns m. -/
structure Ow (w wr : World) (v : Value) (m : List UInt8) : Prop where
  below : Below w.heap.size w wr
  size : w.heap.size + 1 ≤ wr.heap.size
  res : wr.rowIs w.heap.size 23 32 (fun _ => .int .u8 0)
  row : BRow wr (w.heap.size + 1) v m
theorem Ow.more {w wr w' : World} {v v' : Value} {m m' : List UInt8} (h : Ow w wr v m) (o : Obj) (hg : (wr.alloc o).grownBy w' v.ownBlock) (hr : BRow w' (w.heap.size + 1) v' m') : Ow w w' v' m' := by
  have hs := h.size
  obtain ⟨g, cap, rfl, hbg, hlt, _⟩ := h.row.form
  have hk : ∀ k, (Value.slice (some ⟨g, 0, none⟩) m.length cap).ownBlock = some k → w.heap.size ≤ k := fun k hk => by simp [Value.ownBlock] at hk; omega
  have hres := h.res.alloc o
  refine ⟨(h.below.alloc (by omega) o).grown hg (by simp; omega) hk, ?_, ?_, hr⟩
  · have := hg.size; simp at this; omega
  · obtain ⟨c, hc, r⟩ := hres
    refine ⟨c, ?_, r⟩
    rw [hg.block w.heap.size (by simp; omega) (by simp [Value.ownBlock]; omega)]
    exact hc

/-- What holds while the blocks go in: the bytes are there, the eight words lie in a row of their own. -/
structure Hw (w wr : World) (v : Value) (m : List UInt8) (g : Nat) (s : St) : Prop where
  ow : Ow w wr v m
  hrow : wr.rowIs g 152 8 (st6 s)
  apart : w.heap.size < g ∧ ∀ k, v.ownBlock = some k → k < g
theorem Hw.drew {w wr : World} {v : Value} {m : List UInt8} {g : Nat} {s : St} (h : Hw w wr v m g s) : Hw w wr.drew v m g s :=
  ⟨⟨below_drewN h.ow.below 1, h.ow.size, h.ow.res, h.ow.row⟩, h.hrow, h.apart⟩
theorem Hw.below {w wr w' : World} {v : Value} {m : List UInt8} {g : Nat} {s : St} (h : Hw w wr v m g s) (hb : Below wr.heap.size wr w') : Hw w w' v m g s := by
  have hs := h.ow.size
  have hl := h.hrow.lt
  exact ⟨⟨h.ow.below.trans (hb.mono (by omega)), by have := hb.size; omega, h.ow.res.of_block (hb.block _ (by omega)), h.ow.row.below hb⟩, h.hrow.of_block (hb.block _ hl), h.apart⟩
theorem Hw.put {w wr : World} {v : Value} {m : List UInt8} {g : Nat} {s : St} (h : Hw w wr v m g s) (s' : St) : Hw w (wr.setRow g (vals 8 (st6 s'))) v m g s' := by
  have ha := h.apart
  refine ⟨⟨below_setRow' h.ow.below (by omega) _, by simpa using h.ow.size, row_setRow_other h.ow.res (by omega), ?_⟩, row_setRow h.hrow, ha⟩
  obtain ⟨g', cap, cur, fz, rfl, hb, hg, r⟩ := h.ow.row
  have := ha.2 g' rfl
  exact ⟨g', cap, cur, fz, rfl, hb, (setRow_other wr g g' _ (by omega)).trans hg, r⟩

/-- The k-th block of a text. -/
def blk (m : List UInt8) (k : Nat) : ByteArray := ⟨((List.range 64).map fun j => byteAt m (64 * k + j)).toArray⟩
theorem blk_size (m : List UInt8) (k : Nat) : (blk m k).size = 64 := by unfold blk; simp [ByteArray.size]
theorem blk_mixed (m : List UInt8) (k : Nat) (s : St) : mixed s (byteAt (blk m k).data.toList) = mixed s (fun j => byteAt m (64 * k + j)) := by
  apply mixed_congr
  intro i hi
  unfold blk
  simp [byteAt, hi]
theorem hw_cells {w wr : World} {g cap n : Nat} {m : List UInt8} {gx : Nat} {s : St} (h : Hw w wr (.slice (some ⟨g, 0, none⟩) n cap) m gx s) : n = m.length ∧ n ≤ cap ∧ ∀ j, j < m.length → wr.cell? ⟨g, j, none⟩ = some (.int .u8 ((byteAt m j).toNat : Int)) := by
  obtain ⟨g', cap', cur, fz, e, hb, hg, hfz, hc, r⟩ := h.ow.row
  injection e with e1 e2 e3
  injection e1 with e1
  injection e1 with e1 _ _
  subst e1
  refine ⟨e2, by omega, fun j hj => ?_⟩
  rw [cell_of_row wr g j cur _ fz hg]
  exact r.2.2 j hj

/-- What holds while the answer's bytes are made: the words are there, the first n bytes too. -/
structure Od (w wr : World) (gx go : Nat) (s : St) (n : Nat) : Prop where
  below : Below w.heap.size w wr
  res : wr.rowIs w.heap.size 23 32 (fun _ => .int .u8 0)
  hrow : wr.rowIs gx 152 8 (st6 s)
  out : wr.rowIs go 23 32 (fun j => .int .u8 (if j < n then ((sumByte s j).toNat : Int) else 0))
  apart : w.heap.size < gx ∧ gx < go
theorem Od.put {w wr : World} {gx go : Nat} {s : St} {n : Nat} (h : Od w wr gx go s n) {x : Int} (hx : x = ((sumByte s n).toNat : Int)) : Od w (wr.setCell ⟨go, n, none⟩ (.int .u8 x)) gx go s (n + 1) := by
  have ha := h.apart
  refine ⟨h.below.setCell (by show w.heap.size ≤ go; omega) _, h.res.setOther (by show w.heap.size ≠ go; omega) _, h.hrow.setOther (by show gx ≠ go; omega) _, (h.out.set n _).congr fun j _ => ?_, ha⟩
  by_cases e : j = n
  · subst e; rw [if_pos rfl, hx, if_pos (by omega)]
  · rw [if_neg e]
    by_cases hlt : j < n
    · rw [if_pos hlt, if_pos (by omega)]
    · rw [if_neg hlt, if_neg (by omega)]
theorem sum_byte6 (s : St) (n : Nat) : t6 (zx (s.at (n / 4))) / 2 ^ (24 - 8 * (n % 4)) % 256 = ((sumByte s n).toNat : Int) := by
  unfold sumByte
  rw [tn_zx, UInt8.toNat_ofNat']
  unfold tn
  simp
theorem hi32 : ∀ f, (Tryz.prog.info? 23).map (·.size) = some (vals 32 f).size := fun f => info_vals f (by kernel_rfl)

theorem be8_take (n m : Nat) (h : m < 8) : (be8 n).take (m + 1) = (be8 n).take m ++ [UInt8.ofNat (n / 2 ^ (8 * (7 - m)))] := by
  rw [List.take_add_one]
  congr 1
  unfold be8
  rw [List.getElem?_map, List.getElem?_range h]
  rfl
theorem count_byte (n m : Nat) : (8 * (n : Int)) / 2 ^ (8 * (7 - m)) % 256 = (((UInt8.ofNat (8 * n / 2 ^ (8 * (7 - m)))).toNat : Nat) : Int) := by
  rw [UInt8.toNat_ofNat']
  simp

set_option maxRecDepth 100000 in
set_option maxHeartbeats 1600000 in
theorem refOf_any (q : ByteArray) (w : World) (hq : q.size < 100000) :
    Calls Tryz.prog 53 #[.string q] w fun e w' => e = .returned (.agg (digV q.data.toList)) ∧ Below w.heap.size w w' := by
  obtain ⟨l, hl⟩ : ∃ l, q.data.toList = l := ⟨_, rfl⟩
  have hll : l.length = q.size := by rw [← hl]; rfl
  have e0 : IntKind.i64.wrap (8 * (q.size : Int)) = 8 * (q.size : Int) := IntWalk.i64_in _ (by omega)
  have e1 : IntKind.u64.wrap (8 * (q.size : Int)) = 8 * (q.size : Int) := by rw [wrap_u64']; omega
  have HQ := Lib.hid hq
  have HL := Lib.hid hl
  have HLL := Lib.hid hll
  rw [hl]
  clear hl hll hq
  go_enter Tryz.func53, Tryz.ntmps53
  go_wp2_with (first
    | (refine BRow.wpList_text (base := w.heap.size + 1) rfl (.tmp 14) rfl q rfl (by have := HQ.out; unfold maxLen; omega) (by simp) l HL.out ?_; intro g cap w1 hrow hgr)
    | (at_builtin; refine BRow.wpList_more (base := w.heap.size + 1) rfl (.tmp 16) (.tmp 17) rfl rfl (hrow.alloc _) (by have := HQ.out; have := HLL.out; omega) (by have := hgr.size; simp at this ⊢; omega) w1.heap.size 1 128 rfl (by simp) ?_; intro g2 cap2 w2 hrow2 hgr2; clear e0 e1))
  have hO : Ow w w2 (.slice (some ⟨g2, 0, none⟩) (l.length + 1) cap2) (l ++ [128]) := by
    have hs1 := hgr.size
    have h1 : Ow w w1 (.slice (some ⟨g, 0, none⟩) l.length cap) l := by
      refine ⟨((Below.refl _ _).alloc (Nat.le_refl _) _).grown hgr (by simp) (fun k hk => by cases hk), by simpa using hs1, ?_, hrow⟩
      obtain ⟨c, hc, r⟩ := row_alloc (w := w) (t := 23) (n := 32) (f := fun _ => .int .u8 0) w.heap.size rfl rfl
      refine ⟨c, ?_, r⟩
      rw [hgr.block w.heap.size (by simp) (by simp)]
      exact hc
    exact h1.more _ hgr2 hrow2
  clear hrow hgr hrow2 hgr2
  go_loopw [4] (fun v wr => ∃ (z g cap : Nat), z ≤ zeros l.length ∧ v = .slice (some ⟨g, 0, none⟩) (l.length + 1 + z) cap ∧ Ow w wr v (l ++ [128] ++ List.replicate z 0)) (fun v _ => zeros l.length + l.length + 1 - lenV v)
  case atStart => exact ⟨0, g2, cap2, Nat.zero_le _, rfl, by simpa using hO⟩
  case round =>
    clear hO
    obtain ⟨z, g, cap, hz, rfl, hO⟩ := hrel
    by_cases hlt : z < zeros l.length
    · have ht : (((l.length : Int) + 1 + (z : Int)) % 64 != 56) = true := by unfold zeros at hlt hz; rw [bne_iff_ne]; omega
      go_wp2_with (at_builtin; refine BRow.wpList_more (base := w.heap.size + 1) rfl (.tmp 23) (.tmp 24) rfl rfl (hO.row.alloc _) (by have := HQ.out; have := HLL.out; unfold zeros at hlt; simp; omega) (by have := hO.size; simp; omega) wr.heap.size 1 0 rfl (by simp) ?_; intro g5 cap5 w5 hrow5 hgr5)
      go_roundw
      case rel =>
        refine ⟨z + 1, g5, cap5, by omega, by simp; omega, ?_⟩
        have h := hO.more _ hgr5 hrow5
        have e : l ++ [128] ++ List.replicate z 0 ++ [(0 : UInt8)] = l ++ [128] ++ List.replicate (z + 1) 0 := by rw [List.replicate_succ']; simp
        rw [e] at h
        simpa using h
      case measure => simp [lenV]; omega
    · have HZ := Lib.hid (show z = zeros l.length by omega)
      have ht : (((l.length : Int) + 1 + (z : Int)) % 64 != 56) = false := by
        have := HZ.out; unfold zeros at this
        have h : ((l.length : Int) + 1 + (z : Int)) % 64 = 56 := by omega
        rw [h]; rfl
      go_wp2
      go_loopw [4, 5] (fun v i wr => ∃ (m g cap : Nat), m ≤ 8 ∧ i = .int .i64 (7 - (m : Int)) ∧ v = .slice (some ⟨g, 0, none⟩) (l.length + 1 + z + m) cap ∧ Ow w wr v (l ++ [128] ++ List.replicate z 0 ++ (be8 (8 * l.length)).take m)) (fun _ i _ => (intOf i + 1).toNat)
      case atStart => exact ⟨0, g, cap, Nat.zero_le _, rfl, rfl, by simpa using hO⟩
      case round =>
        clear hO hz hlt ht
        obtain ⟨m, g3, cap3, hm, rfl, rfl, hO⟩ := hrel
        by_cases hlt : m < 8
        · have ht : (0 : Int) ≤ 7 - (m : Int) := by omega
          have e0 : IntKind.i64.wrap (8 * (7 - (m : Int))) = 8 * (7 - (m : Int)) := IntWalk.i64_in _ (by omega)
          have l0 : 0 ≤ 8 * (7 - (m : Int)) := by omega
          have m0 : 8 * (7 - (m : Int)) < 64 := by omega
          have n0 : (8 * (7 - (m : Int))).toNat = 8 * (7 - m) := by omega
          have HB := Lib.hid (show (8 * (q.size : Int)) / 2 ^ (8 * (7 - m)) % 256 = (((UInt8.ofNat (8 * l.length / 2 ^ (8 * (7 - m)))).toNat : Nat) : Int) by rw [← HLL.out]; exact count_byte _ _)
          have HE := Lib.hid (be8_take (8 * l.length) m hlt)
          go_wp2_with (at_builtin; refine BRow.wpList_more (base := w.heap.size + 1) rfl (.tmp 30) (.tmp 36) rfl rfl (hO.row.alloc _) (by have := HQ.out; have := HLL.out; have := HZ.out; unfold zeros at this; simp; omega) (by have := hO.size; simp; omega) wr.heap.size 1 (UInt8.ofNat (8 * l.length / 2 ^ (8 * (7 - m)))) rfl (by rw [← HB.out]; simp) ?_; intro g5 cap5 w5 hrow5 hgr5)
          go_roundw
          case rel =>
            refine ⟨m + 1, g5, cap5, by omega, by go_num, by simp [be8_length]; omega, ?_⟩
            have h := hO.more _ hgr5 hrow5
            have e : l ++ [128] ++ List.replicate z 0 ++ (be8 (8 * l.length)).take m ++ [UInt8.ofNat (8 * l.length / 2 ^ (8 * (7 - m)))] = l ++ [128] ++ List.replicate z 0 ++ (be8 (8 * l.length)).take (m + 1) := by rw [HE.out]; simp
            rw [e] at h
            simpa using h
          case measure => simp [intOf]; omega
        · have HM := Lib.hid (show m = 8 by omega)
          have hP : Ow w wr (.slice (some ⟨g3, 0, none⟩) (l.length + 1 + z + m) cap3) (padded l) := by
            have e1 := HM.out
            have e2 := HZ.out
            subst e1
            have e : l ++ [128] ++ List.replicate z 0 ++ (be8 (8 * l.length)).take 8 = padded l := by
              unfold padded
              rw [← e2, List.take_of_length_le (by rw [be8_length]; exact Nat.le_refl _)]
            rw [e] at hO
            exact hO
          clear hO
          have HPL := Lib.hid (show (padded l).length = l.length + 1 + z + m by rw [padded_length, ← HZ.out, HM.out]; omega)
          go_wp2_with (fail)
          have hH : ∀ c, c = vals 8 (st6 iv) → Hw w (wr.alloc (.cells c 152)) (.slice (some ⟨g3, 0, none⟩) (l.length + 1 + z + m) cap3) (padded l) wr.heap.size iv := fun c hc => by
            have hs := hP.size
            refine ⟨⟨hP.below.alloc (by omega) _, by simp; omega, hP.res.alloc _, hP.row.alloc _⟩, row_alloc _ rfl hc, by omega, fun k hk => ?_⟩
            obtain ⟨g', cap', e, hb, hlt, _⟩ := hP.row.form
            injection e with e _ _
            simp [Value.ownBlock] at hk
            injection e with e
            injection e with e _ _
            omega
          refine gen_world (fun wx => Hw w wx (.slice (some ⟨g3, 0, none⟩) (l.length + 1 + z + m) cap3) (padded l) wr.heap.size iv) (hH _ (by kernel_rfl)) ?_
          have hgl : wr.heap.size = wr.heap.size := rfl
          clear hH hP hlt hm hgl
          intro wx hH
          generalize hgx : wr.heap.size = gx at hH ⊢
          obtain ⟨N, hN⟩ : ∃ N, (padded l).length = 64 * N := ⟨(padded l).length / 64, by have := padded_mod l; omega⟩
          have hNb : N < 10000 := by have := padded_length l; have := HQ.out; have := HLL.out; unfold zeros at *; omega
          have HN := Lib.hid hN
          have hpl := HPL.out
          rw [hN] at hpl
          have HPN := Lib.hid hpl
          clear hN hpl hgx
          go_loopw [7] (fun i wr => ∃ k : Nat, k ≤ N ∧ i = .int .i64 (64 * (k : Int)) ∧ Hw w wr (.slice (some ⟨g3, 0, none⟩) (l.length + 1 + z + m) cap3) (padded l) gx (blocks (byteAt (padded l)) k)) (fun i _ => 64 * N - (intOf i).toNat)
          case atStart => exact ⟨0, Nat.zero_le _, rfl, hH⟩
          case round =>
            clear hH
            obtain ⟨k, hk, rfl, hH⟩ := hrel
            have HT := Lib.hid (show blocks (byteAt (padded l)) (k + 1) = mixed (blocks (byteAt (padded l)) k) (fun j => byteAt (padded l) (64 * k + j)) from rfl)
            have HS := Lib.hid (show k = N → sumSt l = blocks (byteAt (padded l)) k from fun e => by unfold sumSt; rw [HN.out, e]; congr 1; omega)
            generalize blocks (byteAt (padded l)) k = s at HT HS hH ⊢
            by_cases hlt : k < N
            · obtain ⟨hln, hlc, hcell⟩ := hw_cells hH
              have hp := HPN.out
              have ht : 64 * (k : Int) < (l.length : Int) + 1 + (z : Int) + (m : Int) := by omega
              have e0 : IntKind.i64.wrap (64 * (k : Int) + 64) = 64 * (k : Int) + 64 := IntWalk.i64_in _ (by omega)
              have l0 : 0 ≤ 64 * (k : Int) := by omega
              have l1 : 64 * (k : Int) ≤ 64 * (k : Int) + 64 := by omega
              have l2 : 64 * (k : Int) + 64 ≤ (cap3 : Int) := by omega
              have n0 : (64 * (k : Int)).toNat = 64 * k := by omega
              have n1 : (64 * (k : Int) + 64).toNat = 64 * k + 64 := by omega
              have c0 : wr.cell? ⟨gx, 0, none⟩ = some (.int .u64 (t6 (zx s.a))) := hH.hrow.cell (i := 0) (by omega)
              have c1 : wr.cell? ⟨gx, 1, none⟩ = some (.int .u64 (t6 (zx s.b))) := hH.hrow.cell (i := 1) (by omega)
              have c2 : wr.cell? ⟨gx, 2, none⟩ = some (.int .u64 (t6 (zx s.c))) := hH.hrow.cell (i := 2) (by omega)
              have c3 : wr.cell? ⟨gx, 3, none⟩ = some (.int .u64 (t6 (zx s.d))) := hH.hrow.cell (i := 3) (by omega)
              have c4 : wr.cell? ⟨gx, 4, none⟩ = some (.int .u64 (t6 (zx s.e))) := hH.hrow.cell (i := 4) (by omega)
              have c5 : wr.cell? ⟨gx, 5, none⟩ = some (.int .u64 (t6 (zx s.f))) := hH.hrow.cell (i := 5) (by omega)
              have c6 : wr.cell? ⟨gx, 6, none⟩ = some (.int .u64 (t6 (zx s.g))) := hH.hrow.cell (i := 6) (by omega)
              have c7 : wr.cell? ⟨gx, 7, none⟩ = some (.int .u64 (t6 (zx s.h))) := hH.hrow.cell (i := 7) (by omega)
              have hconv : ∀ c, (convert 92 9 (.slice (some ⟨g3, 64 * k, none⟩) 64 c)).run Tryz.prog wr.drew = .ok (.string (blk (padded l) k)) wr.drew := fun c =>
                run_bytes_string wr.drew ⟨g3, 64 * k, none⟩ 64 c (fun j => byteAt (padded l) (64 * k + j)) (fun j hj => by rw [Addr.add_lit]; exact hcell _ (by have := HN.out; omega))
              have hconv' := hconv
              unfold World.drew at hconv'
              have hne : ¬ cap3 = 64 * k := by omega
              clear hp hcell hln hlc
              go_wp2
              go_still_tail 7, (by kernel_rfl)
              change wpList _ _ _ _ _ wr.drew
              have hH2 := hH.drew
              clear hH hconv hconv' hne c0 c1 c2 c3 c4 c5 c6 c7 e0 l0 l1 l2 n0 n1
              generalize wr.drew = wb at hH2 ⊢
              go_wp2_with (fail)
              refine (block_any s (blk (padded l) k) _ (blk_size _ _)).mono ?_
              rintro e w5 ⟨rfl, hb5⟩
              have hH3 := hH2.below hb5
              clear hH2 hb5
              rw [blk_mixed, ← HT.out]
              have H1 := Lib.hid (row_block hH3.hrow)
              have HO := Lib.hid (st6_one (blocks (byteAt (padded l)) (k + 1)))
              have HZ8 := Lib.hid (show (vals 8 (st6 s)).size = (vals 8 (st6 (blocks (byteAt (padded l)) (k + 1)))).size by rw [vals_size, vals_size])
              have hH4 := hH3.put (blocks (byteAt (padded l)) (k + 1))
              have HH := Lib.hid hH4
              clear hH3 hH4
              go_wp2_with (with_reducible refine wpList_store_row rfl 152 _ _ rfl _ _ rfl rfl 152 _ H1.out (hi8 _) HZ8.out HO.out ?_)
              go_roundw
              case rel => exact ⟨k + 1, by omega, by go_num, HH.out⟩
              case measure => simp [intOf]; omega
            · have HE := Lib.hid (HS.out (show k = N by omega))
              have ht : (l.length : Int) + 1 + (z : Int) + (m : Int) ≤ 64 * (k : Int) := by have := HPN.out; omega
              have hz32 : (vals 32 fun _ => Value.int .u8 0).all (·.oneCell') = true := vals_one fun _ => rfl
              have HZ32 := Lib.hid hz32
              have HB32 := Lib.hid (show Tryz.prog.built 23 [] = some (vals 32 fun _ => .int .u8 0) by kernel_rfl)
              have HNW := Lib.hid (show ∀ o, (wr.alloc o).heap[wr.heap.size]? = some o from fun o => heap_alloc_new wr o)
              have hD : ∀ c, Od w ((wr.alloc (.cells c 23)).setRow wr.heap.size (vals 32 fun _ => .int .u8 0)) gx wr.heap.size s 0 := fun c => by
                have hs := hH.ow.size
                have hl := hH.hrow.lt
                have ha := hH.apart
                refine ⟨below_setRow' (hH.ow.below.alloc (by omega) _) (by omega) _, row_setRow_other (hH.ow.res.alloc _) (by omega), row_setRow_other (hH.hrow.alloc _) (by omega), (row_of_block (setRow_heap _ _ c _ _ _ (heap_alloc_new wr _))).congr fun j _ => ?_, by omega, hl⟩
                rw [if_neg (Nat.not_lt_zero j)]
              have HD := Lib.hid hD
              clear hD hz32
              go_wp2_with (first
                | (refine wpList_build_to rfl 23 #[] rfl [] rfl _ HB32.out ?_)
                | (with_reducible refine wpList_store_row rfl 23 _ _ rfl _ _ rfl rfl 23 _ (HNW.out _) (hi32 _) ?_ HZ32.out ?_))
              · rw [vals_size]; rfl
              refine gen_world (fun wx => Od w wx gx wr.heap.size s 0) (HD.out _) ?_
              clear HD HNW HB32 HZ32 hH ht
              intro wy hD
              generalize wr.heap.size = go at hD ⊢
              go_loopw [9] (fun i wx => ∃ n : Nat, n ≤ 32 ∧ i = .int .i64 n ∧ Od w wx gx go s n) (fun i _ => 32 - (intOf i).toNat)
              case atStart => exact ⟨0, by omega, rfl, hD⟩
              case round =>
                clear hD
                obtain ⟨n, hn, rfl, hD⟩ := hrel
                by_cases hlt : n < 32
                · have c0 : wr.cell? ⟨gx, n / 4, none⟩ = some (.int .u64 (t6 (zx (s.at (n / 4))))) := hD.hrow.cell (i := n / 4) (by omega)
                  have HB := Lib.hid (sum_byte6 s n)
                  have l0 : 0 ≤ (n : Int) / 4 := by omega
                  have m0 : (n : Int) / 4 < 8 := by omega
                  have n0 : ((n : Int) / 4).toNat = n / 4 := by omega
                  have e0 : IntKind.i64.wrap (8 * ((n : Int) % 4)) = 8 * ((n : Int) % 4) := IntWalk.i64_in _ (by omega)
                  have e1 : IntKind.i64.wrap (24 - 8 * ((n : Int) % 4)) = 24 - 8 * ((n : Int) % 4) := IntWalk.i64_in _ (by omega)
                  have l1 : 0 ≤ 24 - 8 * ((n : Int) % 4) := by omega
                  have m1 : 24 - 8 * ((n : Int) % 4) < 64 := by omega
                  have n1 : (24 - 8 * ((n : Int) % 4)).toNat = 24 - 8 * (n % 4) := by omega
                  have lk : 0 ≤ (n : Int) := by omega
                  have mk : (n : Int) < 32 := by omega
                  have r0 := hD.out.cell hlt
                  have f0 := hD.out.frozen n
                  go_wp2
                  go_roundw
                  case rel => exact ⟨n + 1, by omega, by go_num, hD.put HB.out⟩
                  case measure => simp [intOf]; omega
                · have HN32 := Lib.hid (show n = 32 by omega)
                  have hout : wr.rowIs go 23 32 (fun j => .int .u8 ((sumByte (sumSt l) j).toNat : Int)) := hD.out.congr fun j hj => by rw [if_pos (by have := HN32.out; omega), HE.out]
                  have hbl := below_setRow' hD.below (Nat.le_refl _) (vals 32 fun j => .int .u8 ((sumByte (sumSt l) j).toNat : Int))
                  have H1 := Lib.hid (row_block hout)
                  have H2 := Lib.hid (row_block hD.res)
                  have H3 := Lib.hid (row_block (row_setRow (g := fun j => .int .u8 ((sumByte (sumSt l) j).toNat : Int)) hD.res))
                  have HZo := Lib.hid (show (vals 32 fun _ => Value.int .u8 0).size = (vals 32 fun j => Value.int .u8 ((sumByte (sumSt l) j).toNat : Int)).size by rw [vals_size, vals_size])
                  have HO2 := Lib.hid (show (vals 32 fun j => Value.int .u8 ((sumByte (sumSt l) j).toNat : Int)).all (·.oneCell') = true from vals_one fun _ => rfl)
                  have HBL := Lib.hid hbl
                  clear hD hout hbl
                  go_wp2_with (first
                    | (with_reducible refine wpList_load_row rfl 23 _ rfl _ rfl 23 _ _ _ H1.out Tryz.underlying23 rfl (hi32 _) ?_)
                    | (with_reducible refine wpList_store_row rfl 23 _ _ rfl _ _ rfl rfl 23 _ H2.out (hi32 _) HZo.out HO2.out ?_))
                  refine bodyPost_ret (results_cell_row rfl _ _ _ 23 _ _ _ rfl H3.out Tryz.underlying23 rfl (hi32 _)) rfl ?_
                  exact ⟨rfl, HBL.out⟩
end Go.Proofs.YtlechjpaldpgnaaGreatDoor
namespace Go.Proofs.YtlechjpaldpgnaaGreatDoor
open Go.ChangeShapes Go.WideShapes Go.ChangeAt Go.RowKit Sh

theorem of_here (ss : List ByteArray) (l : List UInt8) (hl : flat ss = l) (w : World) (A : Option Addr) (n cap : Nat) (hn : n = ss.length) (hnb : n ≤ 1152921504606846976)
    (hA : 0 < n → ∃ pb po, A = some ⟨pb, po, none⟩ ∧ ∀ k, k < n → w.cell? ⟨pb, po + k, none⟩ = some (.string (ss.getD k ByteArray.empty)))
    (hF : FOn w) (hK : KOn w) (hM : l.length < 72057594037927936) :
    Calls Tryz.prog 62 #[.slice A n cap] w fun e w' => e = .returned (.agg (digF (sumF l))) ∧ Below w.heap.size w w' := by
  subst hl
  exact of_any ss w A n cap hn hnb hA hF hK hM
theorem hiDig : ∀ f, (Tryz.prog.info? 24).map (·.size) = some (vals 32 f).size := fun f => info_vals f (by kernel_rfl)
theorem hoDig (f : Nat → UInt8) : (digF f).all (·.oneCell') = true := vals_one fun _ => rfl
theorem hzDig (f : Nat → UInt8) : (vals 32 fun _ => Value.int .u8 0).size = (digF f).size := by unfold digF; rw [vals_size, vals_size]
theorem hiDigF (f : Nat → UInt8) : (Tryz.prog.info? 24).map (·.size) = some (digF f).size := hiDig _
end Go.Proofs.YtlechjpaldpgnaaGreatDoor
namespace Go.Proofs.YtlechjpaldpgnaaGreatDoor
open Go.ChangeShapes Go.WideShapes Go.ChangeAt Go.RowKit Sh

/-- A sum lies in the cells from this place on. -/
abbrev DigAt (w : World) (b o : Nat) (f : Nat → UInt8) : Prop := w.rangeAt b o (digF f).toList
end Go.Proofs.YtlechjpaldpgnaaGreatDoor
namespace Go.Proofs.YtlechjpaldpgnaaGreatDoor
open Go.ChangeShapes Go.WideShapes Go.ChangeAt Go.RowKit Sh

/-- A sum's 32 bytes. -/
def dig32 (f : Nat → UInt8) : List UInt8 := (List.range 32).map f
/-- What the pair of two sums is the sum of. -/
def pairL (f g : Nat → UInt8) : List UInt8 := 1 :: (dig32 f ++ dig32 g)

end Go.Proofs.YtlechjpaldpgnaaGreatDoor
