/-
  The document's own answer for sealed texts: Size, Bytes. Condition: texts of at most 100000 bytes.
-/
import Derived.Test.YtnmgkkjnjllpbaaGreatDoorMg8
import Derived.Test.YtnmgkkjnjllpbaaGreatDoorMg27
import Derived.Test.YtnmgkkjnjllpbaaGreatDoorMg28
import Derived.Test.YtnmgkkjnjllpbaaGreatDoorMg7
set_option maxRecDepth 100000
namespace Go.Proofs.YtnmgkkjnjllpbaaGreatDoor
open Go.ChangeShapes Go.WideShapes Go.ChangeAt Go.RowKit Pn Dk Sl

/-- A part of a text, by both its ends. -/
theorem run_cut (q : ByteArray) (i j : Nat) (I J : Int) (hI : I = (i : Int)) (hJ : J = (j : Int)) (h1 : i ≤ j) (h2 : j ≤ q.size) (W : World) : (Instr.slice 9 (.string q) (some (.int .i64 I)) (some (.int .i64 J)) none).run Tryz.prog W = .ok (.string (q.extract i j)) W := by
  subst hI hJ
  have := run_slice_string (P := Tryz.prog) W 9 q .i64 .i64 (i : Int) (j : Int) Tryz.underlying9 (by omega) (by omega) (by omega)
  simpa using this
theorem run_cut0 (q : ByteArray) (j : Nat) (J : Int) (hJ : J = (j : Int)) (h2 : j ≤ q.size) (W : World) : (Instr.slice 9 (.string q) none (some (.int .i64 J)) none).run Tryz.prog W = .ok (.string (q.extract 0 j)) W := by
  subst hJ
  have := run_slice_string_to_if (P := Tryz.prog) W 9 q .i64 (j : Int) Tryz.underlying9
  rw [if_pos ⟨by omega, by omega⟩] at this
  simpa using this
theorem retI6 {a b : Int} (h : a = b) : Ending.returned (.int .i64 a) = .returned (.int .i64 b) := by rw [h]
theorem ref6_size (w : World) (s : ByteArray) (hs : s.size ≤ 1099511627776) :
    Calls Tryz.prog 14 #[.string s] w fun e w' => e = .returned (.int .i64 (szN s.size : Int)) ∧ w = w' := by
  have l0 : 0 ≤ (s.size : Int) := by omega
  have l1 : (s.size : Int) ≤ 1099511627776 := by omega
  go_enter Tryz.func14, Tryz.ntmps14
  go_wp2
  go_ret
  exact ⟨retI6 (by unfold szN; omega), rfl⟩
namespace Sl
/-- Sectors, one behind the other. -/
def catB (n : Nat) (L : List UInt8) : Nat → ByteArray
  | 0 => ⟨#[]⟩
  | k + 1 => catB n L k ++ secS (secF n L k)
theorem catB_size (n : Nat) (L : List UInt8) : ∀ k, (catB n L k).size = 32 * k
  | 0 => rfl
  | k + 1 => by
    unfold catB
    rw [ByteArray.size_append, catB_size n L k, secS_size]
    omega
theorem catB_next (n : Nat) (L : List UInt8) (k sz : Nat) (hL : L.length = 28 * sz) (hk : k < sz) : catB n L k ++ (⟨L.toArray⟩ : ByteArray).extract (28 * k) (28 * k + 28) ++ ⟨(numL (n : Int)).toArray⟩ = catB n L (k + 1) := by
  have e : (⟨L.toArray⟩ : ByteArray).extract (28 * k) (28 * k + 28) ++ ⟨(numL (n : Int)).toArray⟩ = secS (secF n L k) := by
    apply ByteArray.ext
    apply Array.toList_inj.1
    rw [ByteArray.data_append, Array.toList_append, ByteArray.data_extract, Array.toList_extract, List.extract_eq_take_drop]
    show List.take (28 * k + 28 - 28 * k) (List.drop (28 * k) L) ++ numL (n : Int) = (List.range 32).map (secF n L k)
    rw [Nat.add_sub_cancel_left]
    apply List.ext_getElem?
    intro j
    have hl : ((L.drop (28 * k)).take 28).length = 28 := by rw [List.length_take, List.length_drop]; omega
    by_cases h28 : j < 28
    · rw [List.getElem?_append_left (by omega), List.getElem?_take_of_lt h28, List.getElem?_drop, List.getElem?_map, List.getElem?_range (by omega)]
      show _ = some (secF n L k j)
      unfold secF
      rw [if_pos h28, List.getD_eq_getElem?_getD, List.getElem?_eq_getElem (by omega)]
      rfl
    · rw [List.getElem?_append_right (by omega), hl]
      by_cases h32 : j < 32
      · rw [List.getElem?_map, List.getElem?_range h32]
        show _ = some (secF n L k j)
        unfold secF numL
        rw [if_neg h28, List.getElem?_map, List.getElem?_range (by omega)]
        rfl
      · rw [List.getElem?_eq_none (by rw [numL_length]; omega), List.getElem?_eq_none (by rw [List.length_map, List.length_range]; omega)]
  rw [ByteArray.append_assoc, e]
  rfl
/-- A text with bytes 0 behind it. -/
def padB (s : ByteArray) (z : Nat) : ByteArray := ⟨(textL s ++ List.replicate z 0).toArray⟩
theorem padB_zero (s : ByteArray) : padB s 0 = ⟨(textL s).toArray⟩ := by unfold padB; simp
theorem padB_next (s : ByteArray) (z : Nat) : padB s z ++ ⟨#[0]⟩ = padB s (z + 1) := by
  apply ByteArray.ext
  unfold padB
  rw [ByteArray.data_append, List.replicate_succ']
  simp
theorem padB_size (s : ByteArray) (z : Nat) : (padB s z).size = 4 + s.size + z := by
  unfold padB
  show (textL s ++ List.replicate z 0).toArray.size = _
  rw [List.size_toArray, List.length_append, textL_length, List.length_replicate]
theorem padB_body (s : ByteArray) : (padB s (28 * szN s.size - 36 - s.size)).data.toList = bodyL s := rfl
theorem ref_seal (s : ByteArray) : (⟨(digL (sumF (bodyL s))).toArray⟩ : ByteArray) ++ padB s (28 * szN s.size - 36 - s.size) = ⟨(sealL s).toArray⟩ := by
  apply ByteArray.ext
  unfold padB sealL
  rw [ByteArray.data_append]
  show (digL _).toArray ++ (bodyL s).toArray = _
  rw [List.append_toArray]
end Sl
theorem ref6_bytes_not (w : World) (n : Int) (s : ByteArray) (hs : s.size ≤ maxLen) (h : (decide (1 ≤ n) && (decide (n ≤ 2147483647) && decide (s.size ≤ 1024))) = false) :
    Calls Tryz.prog 15 #[.int .i64 n, .string s] w fun e w' => e = .returned (.tuple #[.string ⟨#[]⟩, .bool false]) ∧ w = w' := by
  unfold maxLen at hs
  by_cases h1 : n < 1
  · have t1 : decide (n < 1) = true := decide_eq_true h1
    go_enter Tryz.func15, Tryz.ntmps15
    go_wp2
    refine bodyPost_ret (results_tmp2 rfl _ _ _) rfl ?_
    exact ⟨rfl, rfl⟩
  have t1 : decide (n < 1) = false := decide_eq_false h1
  by_cases h2 : 2147483647 < n
  · have t2 : decide (2147483647 < n) = true := decide_eq_true h2
    go_enter Tryz.func15, Tryz.ntmps15
    go_wp2
    refine bodyPost_ret (results_tmp2 rfl _ _ _) rfl ?_
    exact ⟨rfl, rfl⟩
  have t2 : decide (2147483647 < n) = false := decide_eq_false h2
  have h3 : 1024 < s.size := by
    rw [decide_eq_true (show 1 ≤ n by omega), decide_eq_true (show n ≤ 2147483647 by omega), Bool.true_and, Bool.true_and, decide_eq_false_iff_not] at h
    omega
  have h3i : (1024 : Int) < (s.size : Int) := by omega
  have t3 : decide ((1024 : Int) < (s.size : Int)) = true := decide_eq_true h3i
  clear h
  go_enter Tryz.func15, Tryz.ntmps15
  go_wp2
  refine bodyPost_ret (results_tmp2 rfl _ _ _) rfl ?_
  exact ⟨rfl, rfl⟩
set_option maxRecDepth 100000 in
set_option maxHeartbeats 3200000 in
theorem ref6_bytes (w : World) (n : Nat) (s : ByteArray) (h1 : 1 ≤ n) (h2 : n ≤ 2147483647) (hs : s.size ≤ 1024) :
    Calls Tryz.prog 15 #[.int .i64 (n : Int), .string s] w fun e w' => e = .returned (.tuple #[.string (catB n (sealL s) (szN s.size)), .bool true]) ∧ Below w.heap.size w w' := by
  obtain ⟨N, hN⟩ : ∃ N, N = 28 * szN s.size - 36 - s.size := ⟨_, rfl⟩
  have hle := szN_le s.size
  have hlt := szN_lt s.size
  have hmx := szN_max s.size hs
  have hL := sealL_length s
  have y1 : ¬ (n : Int) < 1 := by omega
  have y2 : ¬ (2147483647 : Int) < (n : Int) := by omega
  have y3 : ¬ (1024 : Int) < (s.size : Int) := by omega
  have t1 : decide ((n : Int) < 1) = false := decide_eq_false y1
  have t2 : decide ((2147483647 : Int) < (n : Int)) = false := decide_eq_false y2
  have t3 : decide ((1024 : Int) < (s.size : Int)) = false := decide_eq_false y3
  have HTX := Lib.hid (refw_text · s (by omega))
  have HOF := Lib.hid (show ∀ W, Calls Tryz.prog 46 #[.string (padB s N)] W fun e w' => e = .returned (.agg (dgV (sumF (bodyL s)))) ∧ Below W.heap.size W w' from fun W => by
    have := refOf_any (padB s N) W (by rw [padB_size]; omega)
    rw [hN, padB_body] at this
    rw [hN]
    exact this)
  have HNU := Lib.hid (refw_num · (n : Int) (by omega) (by omega))
  have HCAT := Lib.hid (show (⟨(digL (sumF (bodyL s))).toArray⟩ : ByteArray) ++ padB s N = ⟨(sealL s).toArray⟩ by rw [hN]; exact ref_seal s)
  have HSL := Lib.hid hL
  have HSZ := Lib.hid (And.intro hle (And.intro hlt (And.intro hmx hN)))
  have HSS := Lib.hid hs
  clear h1 h2 hL hN hle hlt hmx y1 y2 y3
  go_enter Tryz.func15, Tryz.ntmps15
  go_wp2_with (fail)
  clear t1 t2 t3
  refine (HTX.out w).mono ?_
  rintro e w1 ⟨rfl, b1⟩
  rw [← padB_zero]
  have B1 := Lib.hid b1
  clear b1 HTX
  go_wp2_with (fail)
  go_loopw [6] (fun v wr => ∃ z : Nat, z ≤ N ∧ v = .string (padB s z) ∧ Below w.heap.size w wr) (fun v _ => match v with | .string q => N + 4 + s.size - q.size | _ => 0)
  case atStart => exact ⟨0, Nat.zero_le _, rfl, B1.out⟩
  case round =>
    clear B1
    obtain ⟨z, hz, rfl, hb⟩ := hrel
    have HB := Lib.hid hb
    clear hb
    have hps := padB_size s z
    have hps1 := padB_size s (z + 1)
    have HNX := Lib.hid (padB_next s z)
    obtain ⟨hle, hlt, hmx, hN⟩ := HSZ.out
    by_cases hzn : z < N
    · have e1 : (((padB s z).size : Int) + 32).tmod 28 = ((((padB s z).size + 32) % 28 : Nat) : Int) := by
        rw [Int.tmod_eq_emod_of_nonneg (by omega)]; omega
      have e2 : ((((padB s z).size : Int) + 32) % 28 != 0) = true := bne_iff_ne.2 (by rw [hps]; omega)
      have bz : ((padB s z).size : Int) ≤ 2000 := by rw [hps]; have := HSS.out; omega
      have ns : ¬ 9223372036854775807 < (padB s z).size + (⟨#[0]⟩ : ByteArray).size := by rw [hps, show (⟨#[0]⟩ : ByteArray).size = 1 from rfl]; have := HSS.out; omega
      have HME := Lib.hid (show N + 4 + s.size - (padB s (z + 1)).size < N + 4 + s.size - (padB s z).size by rw [hps, hps1]; omega)
      clear hle hlt hmx hN hps hps1 e1
      generalize padB s z = q at e2 bz ns HNX HME ⊢
      go_wp2_with (fail)
      rw [HNX.out]
      exact ⟨⟨z + 1, by omega, rfl, HB.out⟩, HME.out⟩
    · have hze : z = N := by omega
      subst hze
      have e2 : ((((padB s z).size : Int) + 32) % 28 != 0) = false := by
        rw [bne_eq_false_iff_eq, hps]; omega
      have bz : ((padB s z).size : Int) ≤ 2000 := by rw [hps]; have := HSS.out; omega
      have HPS := Lib.hid (show (padB s z).size ≤ 2000 by rw [hps]; have := HSS.out; omega)
      have HBL := Lib.hid (show (digL (sumF (bodyL s))).length = 32 from digL_length _)
      clear hle hlt hmx hN hps hps1 HNX hz hzn
      generalize padB s z = q at e2 bz HCAT HOF HPS ⊢
      generalize bodyL s = bl at HCAT HOF HBL
      generalize hLL : sealL s = L at HCAT HSL
      have HLL := Lib.hid hLL
      clear hLL
      generalize sumF bl = F at HCAT HOF HBL
      go_wp2_with (fail)
      refine (HOF.out wr).mono ?_
      rintro e w3 ⟨rfl, b3⟩
      have B3 := Lib.hid (HB.out.trans (b3.mono HB.out.size))
      clear b3 HB HOF
      have HX0 := Lib.hid (show ∀ old, (w3.alloc (.cells old 72)).heap[w3.heap.size]? = some (.cells old 72 (0, 0)) from fun old => heap_alloc_new w3 _)
      have HIF := Lib.hid (show (Tryz.prog.info? 72).map (·.size) = some (dgV F).size from hi32 _)
      have HOo := Lib.hid (dgO F)
      have hcv : ∀ W : World, W.heap[w3.heap.size]? = some (.cells (dgV F) 72 (0, 0)) → (convert 40 9 (.slice (some ⟨w3.heap.size, 0, none⟩) 32 32)).run Tryz.prog W = .ok (.string ⟨(digL F).toArray⟩) W := fun W hW => run_text W _ 32 32 (digL F) (digL_length F).symm fun j u hj => by
        rw [Addr.add_lit, Nat.zero_add, cell_of_row _ _ _ _ _ _ hW, ← hj, dig_cells, Array.getElem?_toList]
      have HCV := Lib.hid hcv
      clear hcv
      go_upto_region 7 with (with_reducible refine wpList_store_row rfl 72 _ _ rfl _ (dgV F) rfl rfl 72 _ (HX0.out _) HIF.out ?_ HOo.out ?_)
      · unfold dgV
        rw [vals_size]
        rfl
      refine gen_world (fun W => W.heap[w3.heap.size]? = some (.cells (dgV F) 72 (0, 0)) ∧ Below w.heap.size w W) ⟨setRow_heap _ _ _ _ _ _ (HX0.out _), below_setRow' (B3.out.alloc B3.out.size _) B3.out.size _⟩ ?_
      rintro w4 ⟨h4, b4⟩
      have hcv := HCV.out w4 h4
      have B4 := Lib.hid b4
      have ns : ¬ 9223372036854775807 < (⟨(digL F).toArray⟩ : ByteArray).size + q.size := by
        have h32 : (⟨(digL F).toArray⟩ : ByteArray).size = 32 := by show (digL F).toArray.size = 32; rw [List.size_toArray, digL_length]
        rw [h32]
        have := HPS.out
        omega
      clear h4 b4 B3 HCV HX0 HIF HOo
      generalize (⟨(digL F).toArray⟩ : ByteArray) = dd at hcv ns HCAT
      go_wp2_with (fail)
      rw [HCAT.out]
      refine (HNU.out w4).mono ?_
      rintro e w5 ⟨rfl, b5⟩
      have B5 := Lib.hid (B4.out.trans (b5.mono B4.out.size))
      clear b5 B4 hcv ns HCAT e2 bz HNU HPS
      obtain ⟨_, _, hmx, _⟩ := HSZ.out
      clear HSZ HSS
      generalize hZZ : szN s.size = sz at HSL hmx
      have HZZ := Lib.hid hZZ
      clear hZZ
      have HLS := Lib.hid (show (⟨L.toArray⟩ : ByteArray).size = 28 * sz by rw [← HSL.out]; exact List.size_toArray ..)
      have HC := Lib.hid (fun k (hk : k < sz) => catB_next n L k sz HSL.out hk)
      have HCS := Lib.hid (catB_size n L)
      have hn4 : (⟨(numL (n : Int)).toArray⟩ : ByteArray).size = 4 := by show (numL (n : Int)).toArray.size = 4; rw [List.size_toArray, numL_length]
      have HN4 := Lib.hid hn4
      clear hn4
      generalize (⟨(numL (n : Int)).toArray⟩ : ByteArray) = nm at HC HN4 ⊢
      generalize (⟨L.toArray⟩ : ByteArray) = al at HLS HC ⊢
      go_wp2_with (fail)
      go_loopw [10, 11] (fun v i wr => ∃ k j : Nat, j = 28 * k ∧ k ≤ sz ∧ v = .string (catB n L k) ∧ i = .int .i64 (j : Int) ∧ Below w.heap.size w wr) (fun _ i _ => match i with | .int _ k => 28 * sz - k.toNat | _ => 0)
      case atStart => exact ⟨0, 0, rfl, Nat.zero_le _, rfl, rfl, B5.out⟩
      case round =>
        clear B5
        obtain ⟨k, j, hj, hk, rfl, rfl, hb⟩ := hrel
        have HB := Lib.hid hb
        clear hb
        have hls := HLS.out
        by_cases hlt : k < sz
        · have z0 : (j : Int) < (al.size : Int) := by omega
          have z1 : decide ((j : Int) < (al.size : Int)) = true := decide_eq_true z0
          have z2 : 0 ≤ (j : Int) := by omega
          have z3 : (j : Int) + 28 ≤ (al.size : Int) := by omega
          have z4 : (j : Int) ≤ 2000 := by omega
          have hcs := HCS.out k
          have ex : (al.extract j (j + 28)).size = 28 := by rw [ByteArray.size_extract]; omega
          have s1 : ¬ 9223372036854775807 < (catB n L k).size + (al.extract j (j + 28)).size := by omega
          have s2 : ¬ 9223372036854775807 < (catB n L k).size + (al.extract j (j + 28)).size + nm.size := by have := HN4.out; omega
          have HCK := Lib.hid (show catB n L k ++ al.extract j (j + 28) ++ nm = catB n L (k + 1) by rw [hj]; exact HC.out k hlt)
          have HJ := Lib.hid hj
          have HLT := Lib.hid hlt
          have hcut := run_cut al j (j + 28) (j : Int) ((j : Int) + 28) rfl rfl (by omega) (by omega)
          clear hls hcs ex hlt hj hk HC HCS HLS
          generalize al.extract j (j + 28) = pc at hcut s1 s2 HCK
          generalize hq : catB n L k = q at s1 s2 HCK ⊢
          clear hq
          go_wp2_with (fail)
          rw [HCK.out]
          exact ⟨⟨k + 1, j + 28, by have := HJ.out; omega, HLT.out, rfl, by rw [show ((j + 28 : Nat) : Int) = (j : Int) + 28 by omega], HB.out⟩, by show 28 * sz - ((j : Int) + 28).toNat < 28 * sz - ((j : Int)).toNat; have := HLT.out; have := HJ.out; omega⟩
        · have hke : k = sz := by omega
          subst hke
          have z0 : ¬ (j : Int) < (al.size : Int) := by omega
          have z1 : decide ((j : Int) < (al.size : Int)) = false := decide_eq_false z0
          have z5 : decide (j < al.size) = false := decide_eq_false (by omega)
          have z6 : ¬ j < al.size := by omega
          clear hls HC HCS HLS hlt hj z0
          generalize hq : catB n L k = q
          have HQ := Lib.hid hq
          clear hq
          go_wp2_with (fail)
          refine bodyPost_ret (results_tmp2 rfl _ _ _) rfl ?_
          exact ⟨by rw [HLL.out, HZZ.out, HQ.out]; rfl, HB.out⟩
end Go.Proofs.YtnmgkkjnjllpbaaGreatDoor
