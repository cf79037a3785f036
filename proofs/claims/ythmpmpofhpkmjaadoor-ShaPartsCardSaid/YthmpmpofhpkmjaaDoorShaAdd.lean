/-
  The program's sums (package sha): parts go into the sum on its way. Conditions: the sum on its way, the constants and the parts stand where it looks; no more than 2^60 bytes in all.
-/
import Derived.Test.YthmpmpofhpkmjaaDoorShaMix
import Derived.Test.YthmpmpofhpkmjaaDoorShaCopy
namespace Go.Proofs.YthmpmpofhpkmjaaDoor
open Go.ChangeShapes Go.WideShapes Go.ChangeAt Go.RowKit Sh

/-- m bytes of L are in the sum on its way. -/
def Run (w : World) (b : Nat) (L : Nat → UInt8) (m : Nat) : Prop :=
  ∃ bt : Nat → UInt8, w.rowIs b 52 73 (runF (blocks L (m / 64)) bt (m : Int)) ∧ ∀ j, j < m % 64 → bt j = L (64 * (m / 64) + j)
/-- The next bytes of L are q's. -/
def Next (L : Nat → UInt8) (m : Nat) (q : ByteArray) : Prop := ∀ i, i < q.size → q.data.toList.getD i 0 = L (m + i)

def strSize : Value → Nat
  | .string q => q.size
  | _ => 0
theorem size_list (q : ByteArray) : q.data.toList.length = q.size := rfl

/-- The bytes of the block behind a copy. -/
def btSet (bt : Nat → UInt8) (c n : Nat) (q : ByteArray) : Nat → UInt8 := fun j => if c ≤ j ∧ j < c + n then q.data.toList.getD (j - c) 0 else bt j
theorem spliced_run (s : St) (bt : Nat → UInt8) (cnt : Int) (c n : Nat) (q : ByteArray) (hn : n ≤ q.size) (hc : c + n ≤ 64) (j : Nat) (_ : j < 73) :
    spliced (8 + c) ((q.data.toList.take n).map fun x => Value.int .u8 (x.toNat : Int)) (runF s bt cnt) j = runF s (btSet bt c n q) cnt j := by
  unfold spliced
  have hl : ((q.data.toList.take n).map fun x => Value.int .u8 (x.toNat : Int)).length = n := by simp; omega
  rw [hl]
  by_cases h : 8 + c ≤ j ∧ j < 8 + c + n
  · rw [if_pos h]
    unfold runF btSet
    rw [if_neg (by omega), if_pos (by omega), if_pos (by omega)]
    rw [List.getD_eq_getElem?_getD, List.getElem?_map, List.getElem?_take, if_pos (by omega), List.getElem?_eq_getElem (by rw [size_list]; omega), List.getD_eq_getElem?_getD, List.getElem?_eq_getElem (by rw [size_list]; omega)]
    simp only [Option.map_some, Option.getD_some]
    congr 3
    simp only [show j - (8 + c) = j - 8 - c by omega]
  · rw [if_neg h]
    unfold runF btSet
    by_cases h8 : j < 8
    · rw [if_pos h8, if_pos h8]
    · rw [if_neg h8, if_neg h8]
      by_cases h72 : j < 72
      · rw [if_pos h72, if_pos h72, if_neg (by omega)]
      · rw [if_neg h72, if_neg h72]
theorem runF_count (s : St) (bt : Nat → UInt8) (cnt cnt' : Int) (j : Nat) (h : j < 73) : (if j = 72 then Value.int .u64 cnt' else runF s bt cnt j) = runF s bt cnt' j := by
  unfold runF
  by_cases e : j = 72
  · subst e; simp
  · rw [if_neg e]
    by_cases h8 : j < 8
    · rw [if_pos h8, if_pos h8]
    · rw [if_neg h8, if_neg h8, if_pos (by omega), if_pos (by omega)]

/-- The state of the inner loop: so many bytes are in, the part that is left comes next. -/
structure In (w wr : World) (b : Nat) (L : Nat → UInt8) (M : Nat) (q : ByteArray) (m : Nat) : Prop where
  only : Only w wr b
  run : Run wr b L m
  next : Next L m q
  all : m + q.size = M
  kon : KOn wr

theorem bt_set (L : Nat → UInt8) (bt : Nat → UInt8) (m n : Nat) (q : ByteArray) (_ : n ≤ q.size) (_ : m % 64 + n ≤ 64) (hbt : ∀ j, j < m % 64 → bt j = L (64 * (m / 64) + j)) (hq : Next L m q) (j : Nat) (hj : j < m % 64 + n) :
    btSet bt (m % 64) n q j = L (64 * (m / 64) + j) := by
  unfold btSet
  by_cases h : m % 64 ≤ j ∧ j < m % 64 + n
  · rw [if_pos h, hq (j - m % 64) (by omega)]
    congr 1
    omega
  · rw [if_neg h]
    exact hbt j (by omega)
theorem run_part {w : World} {b : Nat} {L : Nat → UInt8} {bt : Nat → UInt8} {m n : Nat} {q : ByteArray} (hn : n ≤ q.size) (hc : m % 64 + n < 64) (hbt : ∀ j, j < m % 64 → bt j = L (64 * (m / 64) + j)) (hq : Next L m q)
    (hr : w.rowIs b 52 73 (runF (blocks L (m / 64)) (btSet bt (m % 64) n q) ((m + n : Nat) : Int))) : Run w b L (m + n) := by
  refine ⟨btSet bt (m % 64) n q, ?_, fun j hj => ?_⟩
  · rw [show (m + n) / 64 = m / 64 by omega]; exact hr
  · rw [show (m + n) / 64 = m / 64 by omega]; exact bt_set L bt m n q hn (by omega) hbt hq j (by omega)
theorem run_full {w : World} {b : Nat} {L : Nat → UInt8} {bt : Nat → UInt8} {m n : Nat} {q : ByteArray} (hn : n ≤ q.size) (hc : m % 64 + n = 64) (hbt : ∀ j, j < m % 64 → bt j = L (64 * (m / 64) + j)) (hq : Next L m q)
    (hr : w.rowIs b 52 73 (runF (mixed (blocks L (m / 64)) (btSet bt (m % 64) n q)) (btSet bt (m % 64) n q) ((m + n : Nat) : Int))) : Run w b L (m + n) := by
  refine ⟨btSet bt (m % 64) n q, ?_, fun j hj => by omega⟩
  rw [show (m + n) / 64 = m / 64 + 1 by omega]
  have e : mixed (blocks L (m / 64)) (btSet bt (m % 64) n q) = blocks L (m / 64 + 1) := by
    simp only [blocks]
    exact mixed_congr _ _ _ fun j hj => bt_set L bt m n q hn (by omega) hbt hq j (by omega)
  rw [← e]; exact hr
theorem next_rest {L : Nat → UInt8} {m n : Nat} {q : ByteArray} (hq : Next L m q) : Next L (m + n) (q.extract n q.size) := by
  intro i hi
  rw [ByteArray.size_extract] at hi
  have h := hq (n + i) (by omega)
  rw [← Nat.add_assoc] at h
  rw [← h]
  simp only [List.getD_eq_getElem?_getD, ByteArray.data_extract, Array.getElem?_toList]
  rw [Array.getElem?_extract]
  simp only [ByteArray.size] at hi ⊢
  rw [if_pos (by omega)]
theorem copy_step {w wx : World} {b : Nat} {s : St} {bt : Nat → UInt8} {cnt : Int} {c n : Nat} {q : ByteArray} (ho : Only w wx b) (hr : wx.rowIs b 52 73 (runF s bt cnt)) (hk : KOn wx) (hb : 1 ≠ b)
    (hn : n = min q.size (64 - c)) (hc : c < 64) :
    ∃ wy, (∀ ty, (Builtin.copy_ #[55, 9] ty #[.slice (some ⟨b, 8 + c, none⟩) (64 - c) (64 - c), .string q]).run Tryd.prog wx = .ok (goInt n) wy) ∧
      wy.rowIs b 52 73 (runF s (btSet bt c n q) cnt) ∧ Only w wy b ∧ KOn wy := by
  have hl : ((q.data.toList.take n).map fun x => Value.int .u8 (x.toNat : Int)).length = n := by simp; omega
  have hy := Only.setRow (.refl wx b) (g := b) (.inl rfl) (vals 73 (spliced (8 + c) ((q.data.toList.take n).map fun x => Value.int .u8 (x.toNat : Int)) (runF s bt cnt)))
  refine ⟨_, fun ty => run_copy_str wx _ _ ty 5 b (8 + c) (64 - c) (64 - c) q ((q.data.toList.take n).map fun x => Value.int .u8 (x.toNat : Int)) _ 73 _ Tryd.underlying55 (fun _ => by kernel_rfl) hr (by rw [hn]) (by rw [hl]; omega) n hn, ?_, ho.trans hy, hk.only hy hb⟩
  exact (row_setRow hr).congr fun j hj => spliced_run s bt cnt c n q (by omega) (by omega) j hj

/-- All bytes of these texts, one behind the other. -/
def flat (ss : List ByteArray) : List UInt8 := ss.flatMap fun q => q.data.toList
theorem flat_next (ss : List ByteArray) (k : Nat) (h : k < ss.length) : flat (ss.take (k + 1)) = flat (ss.take k) ++ (ss.getD k ByteArray.empty).data.toList := by
  unfold flat
  rw [List.take_succ_eq_append_getElem h, List.flatMap_append]
  simp [List.getD_eq_getElem?_getD, h]
theorem flat_step (ss : List ByteArray) (k : Nat) (h : k < ss.length) : (flat (ss.take (k + 1))).length = (flat (ss.take k)).length + (ss.getD k ByteArray.empty).size := by
  rw [flat_next ss k h, List.length_append]; rfl
theorem flat_take_le (ss : List ByteArray) (k : Nat) : (flat (ss.take k)).length ≤ (flat ss).length := by
  have e : flat ss = flat (ss.take k) ++ flat (ss.drop k) := by unfold flat; rw [← List.flatMap_append, List.take_append_drop]
  rw [e, List.length_append]; omega
/-- The next bytes of L are these texts'. -/
def Feeds (L : Nat → UInt8) (m : Nat) (l : List UInt8) : Prop := ∀ i, i < l.length → l.getD i 0 = L (m + i)
theorem feeds_part {L : Nat → UInt8} {m : Nat} {ss : List ByteArray} (h : Feeds L m (flat ss)) (k : Nat) (hk : k < ss.length) : Next L (m + (flat (ss.take k)).length) (ss.getD k ByteArray.empty) := by
  have e : flat ss = flat (ss.take (k + 1)) ++ flat (ss.drop (k + 1)) := by unfold flat; rw [← List.flatMap_append, List.take_append_drop]
  rw [flat_next ss k hk] at e
  generalize ss.getD k ByteArray.empty = q at e
  intro i hi
  have hl : i < q.data.toList.length := hi
  have h1 := h ((flat (ss.take k)).length + i) (by rw [e]; simp only [List.length_append]; omega)
  have h2 : (flat ss)[(flat (ss.take k)).length + i]? = q.data.toList[i]? := by
    rw [e, List.append_assoc, List.getElem?_append_right (by omega), Nat.add_sub_cancel_left, List.getElem?_append_left hl]
  rw [Nat.add_assoc, ← h1, List.getD_eq_getElem?_getD, List.getD_eq_getElem?_getD, h2]

set_option maxHeartbeats 1600000 in
theorem add_any (b : Nat) (L : Nat → UInt8) (m0 : Nat) (ss : List ByteArray) (w : World) (A : Option Addr) (n cap : Nat) (hn : n = ss.length) (hnb : n ≤ 1152921504606846976)
    (hA : 0 < n → ∃ pb po, A = some ⟨pb, po, none⟩ ∧ pb ≠ b ∧ ∀ k, k < n → w.cell? ⟨pb, po + k, none⟩ = some (.string (ss.getD k ByteArray.empty)))
    (hrun : Run w b L m0) (hkon : KOn w) (hb : 1 ≠ b) (hM : m0 + (flat ss).length < 1152921504606846976) (hF : Feeds L m0 (flat ss)) :
    Calls Tryd.prog 20 #[.pointer (some ⟨b, 0, none⟩), .slice A n cap] w fun e w' => e = .returned (.tuple #[]) ∧ Run w' b L (m0 + (flat ss).length) ∧ Only w w' b := by
  have HN := Lib.hid hn
  have HA := Lib.hid hA
  have HF := Lib.hid hF
  clear hn hA hF
  go_enter Tryd.func20, Tryd.ntmps20
  go_wp2
  go_loopw [9] (fun i wr => ∃ k : Nat, k ≤ n ∧ i = .int .i64 k ∧ Only w wr b ∧ KOn wr ∧ Run wr b L (m0 + (flat (ss.take k)).length)) (fun i _ => n - (intOf i).toNat)
  case atStart => exact ⟨0, Nat.zero_le _, rfl, .refl _ _, hkon, by simpa [flat] using hrun⟩
  case round =>
    clear hrun hkon
    obtain ⟨k, hk, rfl, ho, hkn, hrun⟩ := hrel
    by_cases hlt1 : k < n
    · obtain ⟨pb, po, rfl, hpb, hcell⟩ := HA.out (by omega)
      have hlt0 : b < wr.heap.size := by obtain ⟨bt, h, _⟩ := hrun; exact h.lt
      have hq := (ho.cell (a := ⟨pb, po + k, none⟩) (block_lt_of_cell (hcell k hlt1)) hpb).trans (hcell k hlt1)
      have hst := flat_step ss k (by have := HN.out; omega)
      have hle := flat_take_le ss (k + 1)
      have hnext := feeds_part HF.out k (by have := HN.out; omega)
      generalize ss.getD k ByteArray.empty = q at hq hst hnext
      have hIn : In w wr b L (m0 + (flat (ss.take (k + 1))).length) q (m0 + (flat (ss.take k)).length) := ⟨ho, hrun, hnext, by omega, hkn⟩
      have hMM : m0 + (flat (ss.take (k + 1))).length < 1152921504606846976 := by omega
      obtain ⟨M, hM2⟩ : ∃ M, M = m0 + (flat (ss.take (k + 1))).length := ⟨_, rfl⟩
      rw [← hM2] at hIn hMM
      have HM := Lib.hid hM2
      clear hM2
      clear hcell hst hle hnext HA
      go_wp2
      go_loopw [5] (fun v wr => ∃ q m, v = .string q ∧ In w wr b L M q m) (fun v _ => strSize v)
      case atStart => exact ⟨q, _, rfl, hIn⟩
      case round =>
        clear ho hkn hq hIn hrun
        obtain ⟨q, m, rfl, hIn⟩ := hrel
        obtain ⟨bt, hrow, hbt⟩ := hIn.run
        by_cases h0 : 0 < q.size
        · obtain ⟨c, hc⟩ : ∃ c, c = m % 64 := ⟨_, rfl⟩
          have hcm : ((m : Int) % 64) = (c : Int) := by omega
          have htm : (m : Int).tmod 64 = (c : Int) := by rw [Int.tmod_eq_emod_of_nonneg (by omega)]; exact hcm
          have hc64 : c < 64 := by omega
          have hn64 : ¬ 64 = c := by omega
          have cc : wr.cell? ⟨b, 72, none⟩ = some (.int .u64 (m : Int)) := hrow.cell (i := 72) (by omega)
          have lm : 0 ≤ (m : Int) := by omega
          have lc : 0 ≤ (c : Int) := by omega
          have lc64 : (c : Int) ≤ 64 := by omega
          have lc65 : (c : Int) < 64 := by omega
          have HC := Lib.hid hc
          clear hc
          go_wp2
          go_still_tail 10, (by kernel_rfl)
          refine gen_list (fun wx => In w wx b L M q m ∧ wx.rowIs b 52 73 (runF (blocks L (m / 64)) bt (m : Int))) ⟨⟨hIn.only.drew, ⟨bt, hrow, hbt⟩, hIn.next, hIn.all, hIn.kon⟩, hrow⟩ ?_
          clear cc hrow hIn lc lc64 lc65 htm hcm
          intro wx hx
          obtain ⟨hIn, hrow⟩ := hx
          obtain ⟨d, hd⟩ : ∃ d, d = min q.size (64 - c) := ⟨_, rfl⟩
          obtain ⟨wy, hcopy, hyrow, hyonly, hykon⟩ := copy_step hIn.only hrow hIn.kon hb hd hc64
          have cy : wy.cell? ⟨b, 72, none⟩ = some (.int .u64 (m : Int)) := hyrow.cell (i := 72) (by omega)
          have fy := hyrow.frozen 72
          have hall := hIn.all
          have d1 : 1 ≤ d := by omega
          have d2 : d ≤ q.size := by omega
          have d3 : c + d ≤ 64 := by omega
          have d4 : m + d ≤ M := by omega
          have HD := Lib.hid hd
          have HA2 := Lib.hid hall
          clear hd hall
          by_cases hB : c + d = 64
          · have ht : (((m : Int) + (d : Int)) % 64 == 0) = true := by have := HC.out; rw [beq_iff_eq]; omega
            have HB := Lib.hid hB
            clear hB
            go_wp2_with (fail)
            have hr2 : (wy.setCell ⟨b, 72, none⟩ (.int .u64 ((m : Int) + (d : Int)))).rowIs b 52 73 (runF (blocks L (m / 64)) (btSet bt c d q) ((m : Int) + (d : Int))) := (hyrow.set 72 _).congr fun j hj => runF_count _ _ _ _ j hj
            have ho2 := hyonly.setCell (a := ⟨b, 72, none⟩) (.inl rfl) (.int .u64 ((m : Int) + (d : Int)))
            have hk2 := hykon.only (Only.setCell (.refl wy b) (a := ⟨b, 72, none⟩) (.inl rfl) (.int .u64 ((m : Int) + (d : Int)))) hb
            refine (mix_any b _ _ _ _ hr2 hk2 hb).mono ?_
            rintro e w3 ⟨rfl, hr3, ho3⟩
            clear hr2 cy fy hcopy hyrow hrow
            go_wp2
            go_roundw
            case rel =>
              have e1 := HC.out
              have e2 := HB.out
              subst e1
              exact ⟨_, m + d, rfl, ho2.trans ho3, run_full d2 (by omega) hbt hIn.next (by rw [Int.natCast_add]; exact hr3), next_rest hIn.next, by have := HA2.out; rw [ByteArray.size_extract]; omega, hk2.only ho3 hb⟩
            case measure => simp [strSize, ByteArray.size_extract]; omega
          · have ht : (((m : Int) + (d : Int)) % 64 == 0) = false := by have := HC.out; rw [beq_eq_false_iff_ne]; omega
            have HB := Lib.hid hB
            clear hB
            have hr2 : (wy.setCell ⟨b, 72, none⟩ (.int .u64 ((m : Int) + (d : Int)))).rowIs b 52 73 (runF (blocks L (m / 64)) (btSet bt c d q) ((m : Int) + (d : Int))) := (hyrow.set 72 _).congr fun j hj => runF_count _ _ _ _ j hj
            have ho2 := hyonly.setCell (a := ⟨b, 72, none⟩) (.inl rfl) (.int .u64 ((m : Int) + (d : Int)))
            have hk2 := hykon.only (Only.setCell (.refl wy b) (a := ⟨b, 72, none⟩) (.inl rfl) (.int .u64 ((m : Int) + (d : Int)))) hb
            clear hyrow hrow
            go_wp2
            go_roundw
            case rel =>
              have e1 := HC.out
              have e2 := HB.out
              subst e1
              exact ⟨_, m + d, rfl, ho2, run_part d2 (by omega) hbt hIn.next (by rw [Int.natCast_add]; exact hr2), next_rest hIn.next, by have := HA2.out; rw [ByteArray.size_extract]; omega, hk2⟩
            case measure => simp [strSize, ByteArray.size_extract]; omega
        · have HZ := Lib.hid (show q.size = 0 by omega)
          go_wp2
          go_roundw
          case rel =>
            have e1 := HZ.out
            have e2 := hIn.all
            have e3 := HM.out
            exact ⟨k + 1, by omega, by go_num, hIn.only, hIn.kon, by rw [← e3, ← e2, e1]; exact hIn.run⟩
          case measure => simp [intOf]; omega
    · go_wp2
      go_end0
      have e1 := HN.out
      have e2 : ss.take k = ss := List.take_of_length_le (by omega)
      rw [e2] at hrun
      exact ⟨rfl, hrun, ho⟩
end Go.Proofs.YthmpmpofhpkmjaaDoor
