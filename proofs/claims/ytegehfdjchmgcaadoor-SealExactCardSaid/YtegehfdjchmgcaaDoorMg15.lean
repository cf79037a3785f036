/-
  SealExact: what it asks, in plain words: what is got of a part of an image, and what was laid, as bytes. No program's function here but the law's own join. No conditions.
  SealExact's walk, where there are no sectors of the number and the text. Condition: both tables of sums lie as the program's text lays them.
-/
import Derived.Test.YtegehfdjchmgcaaDoorMg12
import Derived.Test.YtegehfdjchmgcaaDoorMg11
import Derived.Test.YtegehfdjchmgcaaDoorMg14
import Derived.Test.YtegehfdjchmgcaaDoorMg7
set_option maxRecDepth 100000
namespace Go.Proofs.YtegehfdjchmgcaaDoor.sealExact
open Go.ChangeShapes Go.WideShapes Go.ChangeAt Go.RowKit Dk Sl

theorem getR_shift {rd rd' : Nat → Nat → UInt8} {n n' p : Nat} (h : ∀ i j, j < 32 → rd (p + i) j = rd' (0 + i) j) (hn : ∀ i, p + i < n ↔ 0 + i < n') : getR rd n p = getR rd' n' 0 := by
  have h0 : numG (rd p) = numG (rd' 0) := numG_congr fun j hj => h 0 j hj
  have hl : Sl.lenV rd p = Sl.lenV rd' 0 := by
    unfold Sl.lenV
    rw [h 1 4 (by omega), h 1 5 (by omega), h 1 6 (by omega), h 1 7 (by omega)]
  have hj : ∀ num k, jnOk rd n p num k = jnOk rd' n' 0 num k := fun num k => jnOk_congr hn k fun i _ _ j hj => h i j hj
  have ha : allG rd p = allG rd' 0 := by
    unfold allG
    rw [hl]
    exact jnL_congr _ fun i _ j hj => h i j hj
  have ht : textG rd p = textG rd' 0 := by
    unfold textG
    rw [ha, hl]
  have ho : okG rd n p = okG rd' n' 0 := by
    unfold okG
    rw [h0, hl, hj, hj]
  unfold getR
  rw [ho, ha, ht, h0]
theorem img_tail (n p : Nat) (F : Nat → UInt8) (h : p ≤ n) : (imgS n F).extract (p * 32) (imgS n F).size = imgS (n - p) fun j => F (p * 32 + j) := by
  have e := img_cut n F (p * 32) ((n - p) * 32) (by omega)
  rw [show p * 32 + (n - p) * 32 = n * 32 by omega] at e
  rw [imgS_size, e]
  rfl
theorem cat_cut (m N sz p : Nat) (F : Nat → UInt8) (L : List UInt8) (hp : p + sz ≤ m) (h : ∀ i, i < sz → ∀ j, j < 32 → F ((p + i) * 32 + j) = secF N L i j) : (imgS m F).extract (p * 32) (p * 32 + 32 * sz) = catB N L sz := by
  have key : ∀ k, k ≤ sz → catB N L k = ⟨((List.range (k * 32)).map fun j => F (p * 32 + j)).toArray⟩ := by
    intro k
    induction k with
    | zero =>
      intro _
      rw [Nat.zero_mul]
      rfl
    | succ k ih =>
      intro hk
      unfold catB
      rw [ih (by omega), secS_congr (f := secF N L k) (g := fun j => F ((p + k) * 32 + j)) fun j hj => (h k (by omega) j hj).symm]
      apply ByteArray.ext
      apply Array.toList_inj.1
      rw [ByteArray.data_append, Array.toList_append]
      show ((List.range (k * 32)).map fun j => F (p * 32 + j)) ++ (List.range 32).map (fun j => F ((p + k) * 32 + j)) = (List.range ((k + 1) * 32)).map fun j => F (p * 32 + j)
      rw [Nat.succ_mul, List.range_add, List.map_append, List.map_map]
      congr 1
      exact List.map_congr_left fun j _ => by show F ((p + k) * 32 + j) = F (p * 32 + (k * 32 + j)); rw [show (p + k) * 32 + j = p * 32 + (k * 32 + j) by omega]
  rw [img_cut m F (p * 32) (32 * sz) (by omega), key sz (Nat.le_refl _), Nat.mul_comm 32 sz]
def secsB (N : Nat) (L : List UInt8) (sz : Nat) : List ByteArray := (List.range sz).map fun i => secS (secF N L i)
theorem secsB_get (N : Nat) (L : List UInt8) (sz i : Nat) (h : i < sz) : (secsB N L sz).getD i ByteArray.empty = secS (secF N L i) := by
  unfold secsB
  rw [List.getD_eq_getElem?_getD, List.getElem?_map, List.getElem?_range h]
  rfl
theorem join_secs (N : Nat) (L : List UInt8) (sz : Nat) : ∀ k, k ≤ sz → joinB (secsB N L sz) k = catB N L k
  | 0, _ => rfl
  | k + 1, h => by
    unfold joinB catB
    rw [join_secs N L sz k (by omega), secsB_get N L sz k (by omega)]
theorem joined_secs (W : World) (g cap N : Nat) (L : List UInt8) (sz : Nat) (hz : sz ≤ 38) (hc : ∀ i, i < sz → W.cell? ⟨g, i, none⟩ = some (.string (secS (secF N L i)))) :
    Calls Tryd.prog 8 #[.slice (some ⟨g, 0, none⟩) sz cap] W fun e w' => e = .returned (.string (catB N L sz)) ∧ W = w' := by
  rw [← join_secs N L sz sz (Nat.le_refl _)]
  exact joined_any (secsB N L sz) W _ sz cap (by omega) (fun k hk => by rw [secsB_get N L sz k hk, secS_size]; omega) (fun _ => ⟨g, 0, rfl, fun k hk => by rw [Nat.zero_add, secsB_get N L sz k hk]; exact hc k hk⟩)
theorem joined_none (W : World) : Calls Tryd.prog 8 #[.slice none 0 0] W fun e w' => e = .returned (.string ⟨#[]⟩) ∧ W = w' :=
  joined_any [] W none 0 0 (by omega) (fun k hk => by omega) (fun h => by omega)
/-- The image's part, as the reference reads it. -/
theorem get_part (n P : Nat) (q : ByteArray) (hP : P < n) : getR (rdZ (freshSt n (bs q)) 0) n P = getR (sect fun j => bs q (P * 32 + j)) (n - P) 0 :=
  getR_shift (fun i j _ => by
    show bs q ((0 + (P + i)) * 32 + j) = bs q (P * 32 + ((0 + i) * 32 + j))
    rw [show (0 + (P + i)) * 32 + j = P * 32 + ((0 + i) * 32 + j) by omega]) (fun i => by omega)
theorem cut_from (q : ByteArray) (i : Nat) (I : Int) (hI : I = (i : Int)) (h : i ≤ q.size) (W : World) : (Instr.slice 9 (.string q) (some (.int .i64 I)) none none).run Tryd.prog W = .ok (.string (q.extract i q.size)) W := by
  subst hI
  have := run_slice_string_from_if (P := Tryd.prog) W 9 q .i64 (i : Int) Tryd.underlying9
  rw [if_pos ⟨by omega, by omega⟩] at this
  simpa using this
theorem cut_none (w0 : World) : ∀ W : World, (∀ j, j < w0.heap.size → W.heap[j]? = w0.heap[j]?) → BoolsAt W (.slice none 0 0) [] := fun _ _ => .inl ⟨rfl, none, 0, rfl⟩
end Go.Proofs.YtegehfdjchmgcaaDoor.sealExact
namespace Go.Proofs.YtegehfdjchmgcaaDoor.sealExact
open Go.ChangeShapes Go.WideShapes Go.ChangeAt Go.RowKit Dk Sl

set_option maxRecDepth 100000 in
set_option maxHeartbeats 6400000 in
theorem walk_no (w : World) (nn : Int) (s q : ByteArray) (p : Int) (hs : s.size ≤ 1100) (hq1 : 32 ≤ q.size) (hq2 : q.size ≤ 640) (hlb : layB nn s = false) (hT : Tabs w) :
    Calls Tryd.prog 3 #[.int .i64 nn, .string s, .string q, .int .i64 p] w fun e w' => e = .returned (.bool true) ∧ Below w.heap.size w w' := by
  have HAW := Lib.hid (awake06 w hT)
  have t1 : decide ((1100 : Int) < (s.size : Int)) = false := decide_eq_false (by omega)
  have t2 : decide ((640 : Int) < (q.size : Int)) = false := decide_eq_false (by omega)
  have t3 : decide ((q.size : Int) < 32) = false := decide_eq_false (by omega)
  have bs1 : (s.size : Int) ≤ 1100 := by omega
  have bq1 : (q.size : Int) ≤ 640 := by omega
  obtain ⟨n, hn⟩ : ∃ n, n = min (q.size / 32) 4096 := ⟨_, rfl⟩
  have hn1 : 1 ≤ n := by omega
  have hn2 : n ≤ 20 := by omega
  have hs3 : q.size ≤ 1099511627776 := by omega
  have HOF := Lib.hid (fun (W : World) => disk_Of (fun i => W.heap.size ≤ i) W q n hn hs3 (fun _ h => h))
  have HSZ := Lib.hid (seal_size · s (by omega))
  have HRZ := Lib.hid (ref6_size · s (by omega))
  have HT := Lib.hid hT
  clear hT hs3 hn
  have HLY := Lib.hid (seal_lay_not · nn s (by unfold maxLen; omega) hlb)
  have HBY := Lib.hid (ref6_bytes_not · nn s (by unfold maxLen; omega) hlb)
  rcases (show p < 0 ∨ (n : Int) ≤ p ∨ ∃ P : Nat, p = (P : Int) ∧ P < n from by
    by_cases h0 : p < 0
    · exact .inl h0
    · by_cases h1 : (n : Int) ≤ p
      · exact .inr (.inl h1)
      · exact .inr (.inr ⟨p.toNat, by omega, by omega⟩)) with hp | hp | ⟨P, rfl, hP⟩
  · have p1 : decide (p < 0) = true := decide_eq_true hp
    clear hq1 hq2 hlb
    go_enter Tryd.func3, Tryd.ntmps3
    go_wp2_with (fail)
    refine HAW.out.mono ?_
    rintro e w1 ⟨rfl, b1⟩
    have B1 := Lib.hid b1
    have T1 := Lib.hid (HT.out.below b1)
    clear b1 HAW HT
    go_wp2_with (fail)
    clear t1 t2 t3
    refine (HLY.out w1).mono ?_
    rintro e w2 ⟨rfl, rfl⟩
    go_wp2_with (fail)
    refine (HBY.out w1).mono ?_
    rintro e w2 ⟨rfl, rfl⟩
    go_wp2_with (fail)
    refine (joined_none w1).mono ?_
    rintro e w2 ⟨rfl, rfl⟩
    go_wp2_with (fail)
    refine (HSZ.out w1).mono ?_
    rintro e w2 ⟨rfl, rfl⟩
    go_wp2_with (fail)
    refine (HRZ.out w1).mono ?_
    rintro e w2 ⟨rfl, rfl⟩
    go_wp2_with (fail)
    refine (HOF.out w1).mono ?_
    rintro e w4 ⟨D, rfl, g1, g2, g3⟩
    have H4 := Lib.hid (show Zn w1 w4 D (freshSt n (bs q)) [] from Zn.of_at ⟨g2, g3⟩)
    clear g1 g2 g3 HOF
    go_wp2_with (fail)
    refine (disk_len _ w4 D _ H4.out.disk).mono ?_
    rintro e w5 ⟨rfl, rfl⟩
    rw [show ((freshSt n (bs q)).n : Int) = (n : Int) from rfl]
    go_wp2_with (fail)
    refine (H4.out.news 0 n hn1 (by show 0 + n ≤ n; omega)).mono ?_
    rintro e w5 ⟨Z, rfl, h5⟩
    have H5 := Lib.hid h5
    clear h5 H4
    go_wp2_with (fail)
    refine (seal_get_out w5 Z n _ (H5.out.reads (Z := Z) (f := 0) (nz := n) (List.mem_cons_self ..) rfl (by show 0 + n ≤ n; omega)) p (.inl hp)).mono ?_
    rintro e w6 ⟨rfl, rfl⟩
    go_wp2_with (fail)
    refine bodyPost_ret (results_tmp rfl _ _ _) rfl ?_
    exact ⟨rfl, B1.out.trans (H5.out.below.mono B1.out.size)⟩
  · have p0 : ¬ p < 0 := by omega
    have p1 : decide (p < 0) = false := decide_eq_false p0
    have p3 : decide ((n : Int) ≤ p) = true := decide_eq_true hp
    clear hq1 hq2 hlb
    go_enter Tryd.func3, Tryd.ntmps3
    go_wp2_with (fail)
    refine HAW.out.mono ?_
    rintro e w1 ⟨rfl, b1⟩
    have B1 := Lib.hid b1
    have T1 := Lib.hid (HT.out.below b1)
    clear b1 HAW HT
    go_wp2_with (fail)
    clear t1 t2 t3
    refine (HLY.out w1).mono ?_
    rintro e w2 ⟨rfl, rfl⟩
    go_wp2_with (fail)
    refine (HBY.out w1).mono ?_
    rintro e w2 ⟨rfl, rfl⟩
    go_wp2_with (fail)
    refine (joined_none w1).mono ?_
    rintro e w2 ⟨rfl, rfl⟩
    go_wp2_with (fail)
    refine (HSZ.out w1).mono ?_
    rintro e w2 ⟨rfl, rfl⟩
    go_wp2_with (fail)
    refine (HRZ.out w1).mono ?_
    rintro e w2 ⟨rfl, rfl⟩
    go_wp2_with (fail)
    refine (HOF.out w1).mono ?_
    rintro e w4 ⟨D, rfl, g1, g2, g3⟩
    have H4 := Lib.hid (show Zn w1 w4 D (freshSt n (bs q)) [] from Zn.of_at ⟨g2, g3⟩)
    clear g1 g2 g3 HOF
    go_wp2_with (fail)
    refine (disk_len _ w4 D _ H4.out.disk).mono ?_
    rintro e w5 ⟨rfl, rfl⟩
    rw [show ((freshSt n (bs q)).n : Int) = (n : Int) from rfl]
    go_wp2_with (fail)
    refine (H4.out.news 0 n hn1 (by show 0 + n ≤ n; omega)).mono ?_
    rintro e w5 ⟨Z, rfl, h5⟩
    have H5 := Lib.hid h5
    clear h5 H4
    go_wp2_with (fail)
    refine (seal_get_out w5 Z n _ (H5.out.reads (Z := Z) (f := 0) (nz := n) (List.mem_cons_self ..) rfl (by show 0 + n ≤ n; omega)) p (.inr hp)).mono ?_
    rintro e w6 ⟨rfl, rfl⟩
    go_wp2_with (fail)
    refine (disk_len _ w5 D _ H5.out.disk).mono ?_
    rintro e w6 ⟨rfl, rfl⟩
    rw [show ((freshSt n (bs q)).n : Int) = (n : Int) from rfl]
    go_wp2_with (fail)
    refine bodyPost_ret (results_tmp rfl _ _ _) rfl ?_
    exact ⟨rfl, B1.out.trans (H5.out.below.mono B1.out.size)⟩
  · have HPA := Lib.hid (fun W Z => seal_put_arg W Z (P : Int) nn s (by unfold maxLen; omega) hlb)
    clear hq1 hq2 hlb
    obtain ⟨gs, gm, ge, hg⟩ : ∃ gs gm ge, getR (rdZ (freshSt n (bs q)) 0) n P = (gs, gm, ge) := ⟨_, _, _, rfl⟩
    have HG := Lib.hid hg
    have HCF := Lib.hid (show ∀ W, (Instr.slice 9 (.string (imgS n (bs q))) (some (.int .i64 ((P : Int) * 32))) none none).run Tryd.prog W = .ok (.string (imgS (n - P) fun j => bs q (P * 32 + j))) W from fun W => by
      rw [← img_tail n P (bs q) (by omega)]
      exact cut_from _ (P * 32) _ (by omega) (by rw [imgS_size]; omega) W)
    have HRG := Lib.hid (show ∀ W, Calls Tryd.prog 15 #[.string (imgS (n - P) fun j => bs q (P * 32 + j))] W fun e w' => e = .returned (.tuple #[.string gs, .int .i64 (gm : Int), .int .i64 (ge : Int)]) ∧ Below W.heap.size W w' from fun W => by
      have := ref6_get W (n - P) (fun j => bs q (P * 32 + j)) (by omega) (by omega)
      rw [← get_part n P q hP, hg] at this
      exact this)
    have p0 : ¬ (P : Int) < 0 := by omega
    have p1 : decide ((P : Int) < 0) = false := decide_eq_false p0
    have p2 : ¬ n ≤ P := by omega
    have p3 : decide (n ≤ P) = false := decide_eq_false p2
    have p4 : (P : Int) ≤ 20 := by omega
    have p5 : 0 ≤ (P : Int) := by omega
    clear hg
    generalize (imgS (n - P) fun j => bs q (P * 32 + j)) = part at HCF HRG
    go_enter Tryd.func3, Tryd.ntmps3
    go_wp2_with (fail)
    refine HAW.out.mono ?_
    rintro e w1 ⟨rfl, b1⟩
    have B1 := Lib.hid b1
    have T1 := Lib.hid (HT.out.below b1)
    clear b1 HAW HT
    go_wp2_with (fail)
    clear t1 t2 t3
    refine (HLY.out w1).mono ?_
    rintro e w2 ⟨rfl, rfl⟩
    go_wp2_with (fail)
    refine (HBY.out w1).mono ?_
    rintro e w2 ⟨rfl, rfl⟩
    go_wp2_with (fail)
    refine (joined_none w1).mono ?_
    rintro e w2 ⟨rfl, rfl⟩
    go_wp2_with (fail)
    refine (HSZ.out w1).mono ?_
    rintro e w2 ⟨rfl, rfl⟩
    go_wp2_with (fail)
    refine (HRZ.out w1).mono ?_
    rintro e w2 ⟨rfl, rfl⟩
    go_wp2_with (fail)
    refine (HOF.out w1).mono ?_
    rintro e w4 ⟨D, rfl, g1, g2, g3⟩
    have H4 := Lib.hid (show Zn w1 w4 D (freshSt n (bs q)) [] from Zn.of_at ⟨g2, g3⟩)
    clear g1 g2 g3 HOF
    go_wp2_with (fail)
    refine (disk_len _ w4 D _ H4.out.disk).mono ?_
    rintro e w5 ⟨rfl, rfl⟩
    rw [show ((freshSt n (bs q)).n : Int) = (n : Int) from rfl]
    go_wp2_with (fail)
    refine (H4.out.news 0 n hn1 (by show 0 + n ≤ n; omega)).mono ?_
    rintro e w5 ⟨Z, rfl, h5⟩
    have H5 := Lib.hid h5
    clear h5 H4
    go_wp2_with (fail)
    refine (H5.out.get (Z := Z) (f := 0) (nz := n) (List.mem_cons_self ..) T1.out rfl (by show 0 + n ≤ n; omega) P hP (s := gs) (m := gm) (e0 := ge) HG.out).mono ?_
    rintro e w6 ⟨rfl, h6⟩
    have H6 := Lib.hid h6
    clear h6 H5 HG
    go_wp2_with (fail)
    refine (disk_len _ w6 D _ H6.out.disk).mono ?_
    rintro e w7 ⟨rfl, rfl⟩
    rw [show ((freshSt n (bs q)).n : Int) = (n : Int) from rfl]
    go_wp2_with (fail)
    refine (disk_image _ w6 D _ H6.out.disk).mono ?_
    rintro e w7 ⟨rfl, b7⟩
    have H7 := Lib.hid (H6.out.step b7)
    rw [show imgS (freshSt n (bs q)).n (freshSt n (bs q)).safe = imgS n (bs q) from rfl]
    clear b7 H6
    have hcf := HCF.out
    generalize imgS n (bs q) = im at hcf ⊢
    go_wp2_with (fail)
    refine (HRG.out w7).mono ?_
    rintro e w8 ⟨rfl, b8⟩
    have H8 := Lib.hid (H7.out.step b8)
    clear b8 H7 hcf HRG
    go_wp2_with (fail)
    refine (HPA.out w8 Z).mono ?_
    rintro e w9 ⟨rfl, rfl⟩
    go_wp2_with (fail)
    refine bodyPost_ret (results_tmp rfl _ _ _) rfl ?_
    exact ⟨rfl, B1.out.trans (H8.out.below.mono B1.out.size)⟩
end Go.Proofs.YtegehfdjchmgcaaDoor.sealExact
