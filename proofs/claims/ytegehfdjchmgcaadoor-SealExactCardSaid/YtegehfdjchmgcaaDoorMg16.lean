/-
  SealExact's walk, where there are sectors of the number and the text. Condition: both tables of sums lie as the program's text lays them.
  SealExact's walk. Condition: both tables of sums lie as the program's text lays them.
-/
import Derived.Test.YtegehfdjchmgcaaDoorMg15
set_option maxRecDepth 100000
namespace Go.Proofs.YtegehfdjchmgcaaDoor.sealExact
open Go.ChangeShapes Go.WideShapes Go.ChangeAt Go.RowKit Dk Sl

set_option maxRecDepth 100000 in
set_option maxHeartbeats 12800000 in
theorem walk_yes (w : World) (N : Nat) (s q : ByteArray) (p : Int) (h1 : 1 ≤ N) (h2 : N ≤ 2147483647) (hs : s.size ≤ 1024) (hq1 : 32 ≤ q.size) (hq2 : q.size ≤ 640) (hT : Tabs w) :
    Calls Tryd.prog 3 #[.int .i64 (N : Int), .string s, .string q, .int .i64 p] w fun e w' => e = .returned (.bool true) ∧ Below w.heap.size w w' := by
  have HAW := Lib.hid (awake06 w hT)
  have t1 : decide ((1100 : Int) < (s.size : Int)) = false := decide_eq_false (by omega)
  have t2 : decide ((640 : Int) < (q.size : Int)) = false := decide_eq_false (by omega)
  have t3 : decide ((q.size : Int) < 32) = false := decide_eq_false (by omega)
  have bs1 : (s.size : Int) ≤ 1100 := by omega
  have bq1 : (q.size : Int) ≤ 640 := by omega
  obtain ⟨n, hn⟩ : ∃ n, n = min (q.size / 32) 4096 := ⟨_, rfl⟩
  have hn1 : 1 ≤ n := by omega
  have hn2 : n ≤ 20 := by omega
  have hs3 : q.size ≤ 1099511627776 := by omega
  have HOF := Lib.hid (fun (W : World) => disk_Of (fun i => W.heap.size ≤ i) W q n hn hs3 (fun _ h => h))
  have hsz1 := fun W => seal_size W s (by omega)
  have hrz1 := fun W => ref6_size W s (by omega)
  have hly := fun W (hW : Tabs W) => seal_lay W N s h1 h2 hs hW
  have hby := fun W => ref6_bytes W N s h1 h2 hs
  have hmx : szN s.size ≤ 38 := szN_max s.size hs
  have h2z : 2 ≤ szN s.size := szN_two s.size
  obtain ⟨sz, hsz⟩ : ∃ sz, szN s.size = sz := ⟨_, rfl⟩
  simp only [hsz] at hsz1 hrz1 hly hby hmx h2z
  obtain ⟨cat, hcat⟩ : ∃ cat, catB N (sealL s) sz = cat := ⟨_, rfl⟩
  simp only [hcat] at hby
  have HCS := Lib.hid (show cat.size = 32 * sz by rw [← hcat]; exact catB_size _ _ _)
  have HSZ := Lib.hid hsz1
  have HRZ := Lib.hid hrz1
  have HLY := Lib.hid hly
  have HBY := Lib.hid hby
  have HCAT := Lib.hid hcat
  have HCAT2 := Lib.hid hcat
  have HSS := Lib.hid hsz
  clear hsz1 hrz1 hly hby hsz hcat
  have HT := Lib.hid hT
  clear hT hs3 hn
  rcases (show p < 0 ∨ (n : Int) ≤ p ∨ ∃ P : Nat, p = (P : Int) ∧ P < n from by
    by_cases h0 : p < 0
    · exact .inl h0
    · by_cases h1 : (n : Int) ≤ p
      · exact .inr (.inl h1)
      · exact .inr (.inr ⟨p.toNat, by omega, by omega⟩)) with hp | hp | ⟨P, rfl, hP⟩
  · have p1 : decide (p < 0) = true := decide_eq_true hp
    clear hq1 hq2 h1 h2 hs HCS HCAT2 HSS
    go_enter Tryd.func3, Tryd.ntmps3
    go_wp2_with (fail)
    refine HAW.out.mono ?_
    rintro e w1 ⟨rfl, b1⟩
    have B1 := Lib.hid b1
    have T1 := Lib.hid (HT.out.below b1)
    clear b1 HAW HT
    go_wp2_with (fail)
    clear t1 t2 t3
    refine (HLY.out w1 T1.out).mono ?_
    rintro e wa ⟨g, c, rfl, hg, hc, hcell, b2⟩
    have HJ := Lib.hid (show ∀ W, Below wa.heap.size wa W → Calls Tryd.prog 8 #[.slice (some ⟨g, 0, none⟩) sz c] W fun e w' => e = .returned (.string cat) ∧ W = w' from fun W hW => by
      rw [← HCAT.out]
      exact joined_secs W g c N _ sz hmx fun i hi => (World.cell?_of_block (w := wa) (hW.block g (block_lt_of_cell (hcell 0 (by omega))))).trans (hcell i hi))
    have BA := Lib.hid (B1.out.trans (b2.mono B1.out.size))
    have BW := Lib.hid b2
    clear hg hc hcell b2 HCAT HLY
    go_wp2_with (fail)
    refine (HBY.out wa).mono ?_
    rintro e wb ⟨rfl, b3⟩
    have BB := Lib.hid (BA.out.trans (b3.mono BA.out.size))
    have HJ2 := Lib.hid (HJ.out wb b3)
    have TB := Lib.hid ((T1.out.below BW.out).below b3)
    clear b3 BA BW HJ HBY T1 B1
    go_wp2_with (fail)
    refine HJ2.out.mono ?_
    rintro e w2 ⟨rfl, rfl⟩
    clear HJ2
    go_wp2_with (fail)
    refine (HSZ.out wb).mono ?_
    rintro e w2 ⟨rfl, rfl⟩
    go_wp2_with (fail)
    refine (HRZ.out wb).mono ?_
    rintro e w2 ⟨rfl, rfl⟩
    go_wp2_with (fail)
    refine (HSZ.out wb).mono ?_
    rintro e w2 ⟨rfl, rfl⟩
    go_wp2_with (fail)
    refine (HOF.out wb).mono ?_
    rintro e w4 ⟨D, rfl, g1, g2, g3⟩
    have H4 := Lib.hid (show Zn wb w4 D (freshSt n (bs q)) [] from Zn.of_at ⟨g2, g3⟩)
    clear g1 g2 g3 HOF
    go_wp2_with (fail)
    refine (disk_len _ w4 D _ H4.out.disk).mono ?_
    rintro e w5 ⟨rfl, rfl⟩
    rw [show ((freshSt n (bs q)).n : Int) = (n : Int) from rfl]
    go_wp2_with (fail)
    refine (H4.out.news 0 n hn1 (by show 0 + n ≤ n; omega)).mono ?_
    rintro e w5 ⟨Z, rfl, h5⟩
    have H5 := Lib.hid h5
    clear h5 H4
    go_wp2_with (fail)
    refine (seal_get_out w5 Z n _ (H5.out.reads (Z := Z) (f := 0) (nz := n) (List.mem_cons_self ..) rfl (by show 0 + n ≤ n; omega)) p (.inl hp)).mono ?_
    rintro e w6 ⟨rfl, rfl⟩
    go_wp2_with (fail)
    refine bodyPost_ret (results_tmp rfl _ _ _) rfl ?_
    exact ⟨rfl, BB.out.trans (H5.out.below.mono BB.out.size)⟩
  · have p0 : ¬ p < 0 := by omega
    have p1 : decide (p < 0) = false := decide_eq_false p0
    have p3 : decide ((n : Int) ≤ p) = true := decide_eq_true hp
    clear hq1 hq2 h1 h2 hs HCS HCAT2 HSS
    go_enter Tryd.func3, Tryd.ntmps3
    go_wp2_with (fail)
    refine HAW.out.mono ?_
    rintro e w1 ⟨rfl, b1⟩
    have B1 := Lib.hid b1
    have T1 := Lib.hid (HT.out.below b1)
    clear b1 HAW HT
    go_wp2_with (fail)
    clear t1 t2 t3
    refine (HLY.out w1 T1.out).mono ?_
    rintro e wa ⟨g, c, rfl, hg, hc, hcell, b2⟩
    have HJ := Lib.hid (show ∀ W, Below wa.heap.size wa W → Calls Tryd.prog 8 #[.slice (some ⟨g, 0, none⟩) sz c] W fun e w' => e = .returned (.string cat) ∧ W = w' from fun W hW => by
      rw [← HCAT.out]
      exact joined_secs W g c N _ sz hmx fun i hi => (World.cell?_of_block (w := wa) (hW.block g (block_lt_of_cell (hcell 0 (by omega))))).trans (hcell i hi))
    have BA := Lib.hid (B1.out.trans (b2.mono B1.out.size))
    have BW := Lib.hid b2
    clear hg hc hcell b2 HCAT HLY
    go_wp2_with (fail)
    refine (HBY.out wa).mono ?_
    rintro e wb ⟨rfl, b3⟩
    have BB := Lib.hid (BA.out.trans (b3.mono BA.out.size))
    have HJ2 := Lib.hid (HJ.out wb b3)
    have TB := Lib.hid ((T1.out.below BW.out).below b3)
    clear b3 BA BW HJ HBY T1 B1
    go_wp2_with (fail)
    refine HJ2.out.mono ?_
    rintro e w2 ⟨rfl, rfl⟩
    clear HJ2
    go_wp2_with (fail)
    refine (HSZ.out wb).mono ?_
    rintro e w2 ⟨rfl, rfl⟩
    go_wp2_with (fail)
    refine (HRZ.out wb).mono ?_
    rintro e w2 ⟨rfl, rfl⟩
    go_wp2_with (fail)
    refine (HSZ.out wb).mono ?_
    rintro e w2 ⟨rfl, rfl⟩
    go_wp2_with (fail)
    refine (HOF.out wb).mono ?_
    rintro e w4 ⟨D, rfl, g1, g2, g3⟩
    have H4 := Lib.hid (show Zn wb w4 D (freshSt n (bs q)) [] from Zn.of_at ⟨g2, g3⟩)
    clear g1 g2 g3 HOF
    go_wp2_with (fail)
    refine (disk_len _ w4 D _ H4.out.disk).mono ?_
    rintro e w5 ⟨rfl, rfl⟩
    rw [show ((freshSt n (bs q)).n : Int) = (n : Int) from rfl]
    go_wp2_with (fail)
    refine (H4.out.news 0 n hn1 (by show 0 + n ≤ n; omega)).mono ?_
    rintro e w5 ⟨Z, rfl, h5⟩
    have H5 := Lib.hid h5
    clear h5 H4
    go_wp2_with (fail)
    refine (seal_get_out w5 Z n _ (H5.out.reads (Z := Z) (f := 0) (nz := n) (List.mem_cons_self ..) rfl (by show 0 + n ≤ n; omega)) p (.inr hp)).mono ?_
    rintro e w6 ⟨rfl, rfl⟩
    go_wp2_with (fail)
    refine (disk_len _ w5 D _ H5.out.disk).mono ?_
    rintro e w6 ⟨rfl, rfl⟩
    rw [show ((freshSt n (bs q)).n : Int) = (n : Int) from rfl]
    go_wp2_with (fail)
    refine bodyPost_ret (results_tmp rfl _ _ _) rfl ?_
    exact ⟨rfl, BB.out.trans (H5.out.below.mono BB.out.size)⟩
  have b1 : IntKind.i64.wrap ((n : Int) - (P : Int)) = (n : Int) - (P : Int) := IntWalk.i64_in _ (by omega)
  have HNB := Lib.hid (And.intro h1 (And.intro h2 hs))
  by_cases hfit : n < P + sz
  · have f1 : (n : Int) - (P : Int) < (sz : Int) := by omega
    have f2 : decide ((n : Int) - (P : Int) < (sz : Int)) = true := decide_eq_true f1
    have HPR := Lib.hid (fun W Z D (hz : W.heap[Z]? = some (zobj D 0 n)) (hW : Tabs W) => seal_put_range W Z D 0 n hz (by omega) N s h1 h2 hs hW (P : Int) (by omega) (.inr (by rw [HSS.out]; omega)))
    clear hq1 hq2 h1 h2 hs HCS HCAT2 hfit
    obtain ⟨gs, gm, ge, hg⟩ : ∃ gs gm ge, getR (rdZ (freshSt n (bs q)) 0) n P = (gs, gm, ge) := ⟨_, _, _, rfl⟩
    have HG := Lib.hid hg
    have HCF := Lib.hid (show ∀ W, (Instr.slice 9 (.string (imgS n (bs q))) (some (.int .i64 ((P : Int) * 32))) none none).run Tryd.prog W = .ok (.string (imgS (n - P) fun j => bs q (P * 32 + j))) W from fun W => by
      rw [← img_tail n P (bs q) (by omega)]
      exact cut_from _ (P * 32) _ (by omega) (by rw [imgS_size]; omega) W)
    have HRG := Lib.hid (show ∀ W, Calls Tryd.prog 15 #[.string (imgS (n - P) fun j => bs q (P * 32 + j))] W fun e w' => e = .returned (.tuple #[.string gs, .int .i64 (gm : Int), .int .i64 (ge : Int)]) ∧ Below W.heap.size W w' from fun W => by
      have := ref6_get W (n - P) (fun j => bs q (P * 32 + j)) (by omega) (by omega)
      rw [← get_part n P q hP, hg] at this
      exact this)
    have p0 : ¬ (P : Int) < 0 := by omega
    have p1 : decide ((P : Int) < 0) = false := decide_eq_false p0
    have p2 : ¬ n ≤ P := by omega
    have p3 : decide (n ≤ P) = false := decide_eq_false p2
    have p4 : (P : Int) ≤ 20 := by omega
    have p5 : 0 ≤ (P : Int) := by omega
    clear hg
    generalize (imgS (n - P) fun j => bs q (P * 32 + j)) = part at HCF HRG
    go_enter Tryd.func3, Tryd.ntmps3
    go_wp2_with (fail)
    refine HAW.out.mono ?_
    rintro e w1 ⟨rfl, b1⟩
    have B1 := Lib.hid b1
    have T1 := Lib.hid (HT.out.below b1)
    clear b1 HAW HT
    go_wp2_with (fail)
    clear t1 t2 t3
    refine (HLY.out w1 T1.out).mono ?_
    rintro e wa ⟨g, c, rfl, hg, hc, hcell, b2⟩
    have HJ := Lib.hid (show ∀ W, Below wa.heap.size wa W → Calls Tryd.prog 8 #[.slice (some ⟨g, 0, none⟩) sz c] W fun e w' => e = .returned (.string cat) ∧ W = w' from fun W hW => by
      rw [← HCAT.out]
      exact joined_secs W g c N _ sz hmx fun i hi => (World.cell?_of_block (w := wa) (hW.block g (block_lt_of_cell (hcell 0 (by omega))))).trans (hcell i hi))
    have BA := Lib.hid (B1.out.trans (b2.mono B1.out.size))
    have BW := Lib.hid b2
    clear hg hc hcell b2 HCAT HLY
    go_wp2_with (fail)
    refine (HBY.out wa).mono ?_
    rintro e wb ⟨rfl, b3⟩
    have BB := Lib.hid (BA.out.trans (b3.mono BA.out.size))
    have HJ2 := Lib.hid (HJ.out wb b3)
    have TB := Lib.hid ((T1.out.below BW.out).below b3)
    clear b3 BA BW HJ HBY T1 B1
    go_wp2_with (fail)
    refine HJ2.out.mono ?_
    rintro e w2 ⟨rfl, rfl⟩
    clear HJ2
    go_wp2_with (fail)
    refine (HSZ.out wb).mono ?_
    rintro e w2 ⟨rfl, rfl⟩
    go_wp2_with (fail)
    refine (HRZ.out wb).mono ?_
    rintro e w2 ⟨rfl, rfl⟩
    go_wp2_with (fail)
    refine (HSZ.out wb).mono ?_
    rintro e w2 ⟨rfl, rfl⟩
    go_wp2_with (fail)
    refine (HOF.out wb).mono ?_
    rintro e w4 ⟨D, rfl, g1, g2, g3⟩
    have H4 := Lib.hid (show Zn wb w4 D (freshSt n (bs q)) [] from Zn.of_at ⟨g2, g3⟩)
    clear g1 g2 g3 HOF
    go_wp2_with (fail)
    refine (disk_len _ w4 D _ H4.out.disk).mono ?_
    rintro e w5 ⟨rfl, rfl⟩
    rw [show ((freshSt n (bs q)).n : Int) = (n : Int) from rfl]
    go_wp2_with (fail)
    refine (H4.out.news 0 n hn1 (by show 0 + n ≤ n; omega)).mono ?_
    rintro e w5 ⟨Z, rfl, h5⟩
    have H5 := Lib.hid h5
    clear h5 H4
    go_wp2_with (fail)
    refine (H5.out.get (Z := Z) (f := 0) (nz := n) (List.mem_cons_self ..) TB.out rfl (by show 0 + n ≤ n; omega) P hP (s := gs) (m := gm) (e0 := ge) HG.out).mono ?_
    rintro e w6 ⟨rfl, h6⟩
    have H6 := Lib.hid h6
    clear h6 H5 HG
    go_wp2_with (fail)
    refine (disk_len _ w6 D _ H6.out.disk).mono ?_
    rintro e w7 ⟨rfl, rfl⟩
    rw [show ((freshSt n (bs q)).n : Int) = (n : Int) from rfl]
    go_wp2_with (fail)
    refine (disk_image _ w6 D _ H6.out.disk).mono ?_
    rintro e w7 ⟨rfl, b7⟩
    have H7 := Lib.hid (H6.out.step b7)
    rw [show imgS (freshSt n (bs q)).n (freshSt n (bs q)).safe = imgS n (bs q) from rfl]
    clear b7 H6
    have hcf := HCF.out
    generalize imgS n (bs q) = im at hcf ⊢
    go_wp2_with (fail)
    refine (HRG.out w7).mono ?_
    rintro e w8 ⟨rfl, b8⟩
    have H8 := Lib.hid (H7.out.step b8)
    clear b8 H7 hcf HRG
    go_wp2_with (fail)
    refine (HPR.out w8 Z D (H8.out.fix (Z, zobj D 0 n) (List.mem_cons_self ..)) (H8.out.tabs TB.out)).mono ?_
    rintro e w9 ⟨rfl, b9⟩
    have H9 := Lib.hid (H8.out.step b9)
    have c9 := zone_c0 (H9.out.fix (Z, zobj D 0 n) (List.mem_cons_self ..))
    clear b9 H8 HPR
    go_wp2_with (fail)
    refine (HRZ.out w9).mono ?_
    rintro e wl ⟨rfl, rfl⟩
    go_wp2_with (fail)
    refine (disk_len _ w9 D _ H9.out.disk).mono ?_
    rintro e wl ⟨rfl, rfl⟩
    rw [show ((freshSt n (bs q)).n : Int) = (n : Int) from rfl]
    go_wp2_with (fail)
    refine (disk_loose _ w9 D _ H9.out.disk).mono ?_
    rintro e wl ⟨rfl, rfl⟩
    rw [show ((freshSt n (bs q)).loose.length : Int) = 0 from rfl]
    go_wp2_with (fail)
    refine bodyPost_ret (results_tmp rfl _ _ _) rfl ?_
    exact ⟨rfl, BB.out.trans (H9.out.below.mono BB.out.size)⟩
  · have f1 : ¬ (n : Int) - (P : Int) < (sz : Int) := by omega
    have f2 : decide ((n : Int) - (P : Int) < (sz : Int)) = false := decide_eq_false f1
    have hfit2 : P + szN s.size ≤ n := by rw [HSS.out]; omega
    obtain ⟨x1, hx1⟩ : ∃ x1, (freshSt n (bs q)).laid (0 + P) (secF N (sealL s)) (szN s.size) = x1 := ⟨_, rfl⟩
    have n1 : x1.n = n := by rw [← hx1]; exact laid_n _ _ _ _
    have a1 : x1.away = false := by rw [← hx1]; exact laid_away _ _ _ _
    have u1 : x1.fuse = none := by rw [← hx1]; exact laid_fuse _ _ _ rfl _
    have l1 : x1.loose.length ≤ 38 := by rw [← hx1, laid_len, HSS.out]; show 0 + sz ≤ 38; omega
    have d1 : x1.done ≤ 38 := by rw [← hx1, laid_done, HSS.out]; show 0 + sz ≤ 38; omega
    have m1 : x1.Full := by rw [← hx1]; exact laid_full _ _ _ (show (freshSt n (bs q)).Full from rfl) _
    have i1 : ∀ i, i < szN s.size → ∀ j, j < 32 → sect x1.now (P + i) j = secF N (sealL s) i j := fun i hi j hj => by
      have := laid_in (freshSt n (bs q)) (0 + P) (secF N (sealL s)) (szN s.size) i hi j hj
      rw [hx1, Nat.zero_add] at this
      exact this
    have HGOT := Lib.hid (show getR (rdZ x1 0) n P = (s, N, 0) from got h1 h2 hs hfit2 (fun i hi j hj => by show sect x1.now (0 + (P + i)) j = _; rw [Nat.zero_add]; exact i1 i hi j hj))
    have hcat2 : (imgS n x1.burnt.synced.safe).extract (P * 32) (P * 32 + 32 * sz) = cat := by
      rw [(full_synced (x := x1.burnt) m1).2, ← HCAT2.out, ← HSS.out]
      exact cat_cut n N _ P _ _ hfit2 i1
    have HCUT := Lib.hid (show ∀ W, (Instr.slice 9 (.string (imgS n x1.burnt.synced.safe)) (some (.int .i64 ((P : Int) * 32))) (some (.int .i64 ((P : Int) * 32 + (cat.size : Int)))) none).run Tryd.prog W = .ok (.string cat) W from fun W => by
      have := run_cut (imgS n x1.burnt.synced.safe) (P * 32) (P * 32 + 32 * sz) ((P : Int) * 32) ((P : Int) * 32 + (cat.size : Int)) (by omega) (by rw [HCS.out]; omega) (by omega) (by rw [imgS_size]; omega) W
      rw [hcat2] at this
      exact this)
    have HX1 := Lib.hid hx1
    have HL := Lib.hid (And.intro n1 (And.intro a1 (And.intro u1 (And.intro l1 d1))))
    have hcz : (cat.size : Int) ≤ 2000 := by rw [HCS.out]; omega
    have HFT := Lib.hid hfit2
    clear hq1 hq2 h1 h2 hs HCS HCAT2 hfit hx1 n1 a1 u1 l1 d1 m1 i1 hcat2 hfit2
    obtain ⟨gs, gm, ge, hg⟩ : ∃ gs gm ge, getR (rdZ (freshSt n (bs q)) 0) n P = (gs, gm, ge) := ⟨_, _, _, rfl⟩
    have HG := Lib.hid hg
    have HCF := Lib.hid (show ∀ W, (Instr.slice 9 (.string (imgS n (bs q))) (some (.int .i64 ((P : Int) * 32))) none none).run Tryd.prog W = .ok (.string (imgS (n - P) fun j => bs q (P * 32 + j))) W from fun W => by
      rw [← img_tail n P (bs q) (by omega)]
      exact cut_from _ (P * 32) _ (by omega) (by rw [imgS_size]; omega) W)
    have HRG := Lib.hid (show ∀ W, Calls Tryd.prog 15 #[.string (imgS (n - P) fun j => bs q (P * 32 + j))] W fun e w' => e = .returned (.tuple #[.string gs, .int .i64 (gm : Int), .int .i64 (ge : Int)]) ∧ Below W.heap.size W w' from fun W => by
      have := ref6_get W (n - P) (fun j => bs q (P * 32 + j)) (by omega) (by omega)
      rw [← get_part n P q hP, hg] at this
      exact this)
    have p0 : ¬ (P : Int) < 0 := by omega
    have p1 : decide ((P : Int) < 0) = false := decide_eq_false p0
    have p2 : ¬ n ≤ P := by omega
    have p3 : decide (n ≤ P) = false := decide_eq_false p2
    have p4 : (P : Int) ≤ 20 := by omega
    have p5 : 0 ≤ (P : Int) := by omega
    clear hg
    generalize (imgS (n - P) fun j => bs q (P * 32 + j)) = part at HCF HRG
    go_enter Tryd.func3, Tryd.ntmps3
    go_wp2_with (fail)
    refine HAW.out.mono ?_
    rintro e w1 ⟨rfl, b1⟩
    have B1 := Lib.hid b1
    have T1 := Lib.hid (HT.out.below b1)
    clear b1 HAW HT
    go_wp2_with (fail)
    clear t1 t2 t3
    refine (HLY.out w1 T1.out).mono ?_
    rintro e wa ⟨g, c, rfl, hg, hc, hcell, b2⟩
    have HJ := Lib.hid (show ∀ W, Below wa.heap.size wa W → Calls Tryd.prog 8 #[.slice (some ⟨g, 0, none⟩) sz c] W fun e w' => e = .returned (.string cat) ∧ W = w' from fun W hW => by
      rw [← HCAT.out]
      exact joined_secs W g c N _ sz hmx fun i hi => (World.cell?_of_block (w := wa) (hW.block g (block_lt_of_cell (hcell 0 (by omega))))).trans (hcell i hi))
    have BA := Lib.hid (B1.out.trans (b2.mono B1.out.size))
    have BW := Lib.hid b2
    clear hg hc hcell b2 HCAT HLY
    go_wp2_with (fail)
    refine (HBY.out wa).mono ?_
    rintro e wb ⟨rfl, b3⟩
    have BB := Lib.hid (BA.out.trans (b3.mono BA.out.size))
    have HJ2 := Lib.hid (HJ.out wb b3)
    have TB := Lib.hid ((T1.out.below BW.out).below b3)
    clear b3 BA BW HJ HBY T1 B1
    go_wp2_with (fail)
    refine HJ2.out.mono ?_
    rintro e w2 ⟨rfl, rfl⟩
    clear HJ2
    go_wp2_with (fail)
    refine (HSZ.out wb).mono ?_
    rintro e w2 ⟨rfl, rfl⟩
    go_wp2_with (fail)
    refine (HRZ.out wb).mono ?_
    rintro e w2 ⟨rfl, rfl⟩
    go_wp2_with (fail)
    refine (HSZ.out wb).mono ?_
    rintro e w2 ⟨rfl, rfl⟩
    go_wp2_with (fail)
    refine (HOF.out wb).mono ?_
    rintro e w4 ⟨D, rfl, g1, g2, g3⟩
    have H4 := Lib.hid (show Zn wb w4 D (freshSt n (bs q)) [] from Zn.of_at ⟨g2, g3⟩)
    clear g1 g2 g3 HOF
    go_wp2_with (fail)
    refine (disk_len _ w4 D _ H4.out.disk).mono ?_
    rintro e w5 ⟨rfl, rfl⟩
    rw [show ((freshSt n (bs q)).n : Int) = (n : Int) from rfl]
    go_wp2_with (fail)
    refine (H4.out.news 0 n hn1 (by show 0 + n ≤ n; omega)).mono ?_
    rintro e w5 ⟨Z, rfl, h5⟩
    have H5 := Lib.hid h5
    clear h5 H4
    go_wp2_with (fail)
    refine (H5.out.get (Z := Z) (f := 0) (nz := n) (List.mem_cons_self ..) TB.out rfl (by show 0 + n ≤ n; omega) P hP (s := gs) (m := gm) (e0 := ge) HG.out).mono ?_
    rintro e w6 ⟨rfl, h6⟩
    have H6 := Lib.hid h6
    clear h6 H5 HG
    go_wp2_with (fail)
    refine (disk_len _ w6 D _ H6.out.disk).mono ?_
    rintro e w7 ⟨rfl, rfl⟩
    rw [show ((freshSt n (bs q)).n : Int) = (n : Int) from rfl]
    go_wp2_with (fail)
    refine (disk_image _ w6 D _ H6.out.disk).mono ?_
    rintro e w7 ⟨rfl, b7⟩
    have H7 := Lib.hid (H6.out.step b7)
    rw [show imgS (freshSt n (bs q)).n (freshSt n (bs q)).safe = imgS n (bs q) from rfl]
    clear b7 H6
    have hcf := HCF.out
    generalize imgS n (bs q) = im at hcf ⊢
    go_wp2_with (fail)
    refine (HRG.out w7).mono ?_
    rintro e w8 ⟨rfl, b8⟩
    have H8 := Lib.hid (H7.out.step b8)
    clear b8 H7 hcf HRG
    go_wp2_with (fail)
    refine (H8.out.put (Z := Z) (f := 0) (nz := n) (List.mem_cons_self ..) TB.out rfl rfl (by show 0 ≤ _; omega) (by show 0 < _; omega) (by show 0 + n ≤ n; omega) N s HNB.out.1 HNB.out.2.1 HNB.out.2.2 P HFT.out).mono ?_
    rintro e w9 ⟨rfl, h9⟩
    rw [HX1.out] at h9
    have H9 := Lib.hid h9
    have c9 := zone_c0 (h9.fix (Z, zobj D 0 n) (List.mem_cons_self ..))
    clear h9 H8 HX1
    go_wp2_with (fail)
    refine (HRZ.out w9).mono ?_
    rintro e wl ⟨rfl, rfl⟩
    go_wp2_with (fail)
    refine (disk_len _ w9 D _ H9.out.disk).mono ?_
    rintro e wl ⟨rfl, rfl⟩
    rw [show (x1.n : Int) = (n : Int) from (by rw [HL.out.1])]
    go_wp2_with (fail)
    refine (H9.out.get (Z := Z) (f := 0) (nz := n) (List.mem_cons_self ..) TB.out HL.out.2.1 (by rw [HL.out.1]; omega) P hP HGOT.out).mono ?_
    rintro e wx ⟨rfl, hx⟩
    have HX := Lib.hid hx
    have cx := zone_c0 (hx.fix (Z, zobj D 0 n) (List.mem_cons_self ..))
    clear hx H9 c9 HGOT
    go_wp2_with (fail)
    refine (HX.out.sync HL.out.2.1 HL.out.2.2.1 (by have := HL.out.2.2.2.1; omega) (by have := HL.out.2.2.2.2; omega)).mono ?_
    rintro e wy ⟨rfl, hy⟩
    have HY := Lib.hid hy
    have cy := zone_c0 (hy.fix (Z, zobj D 0 n) (List.mem_cons_self ..))
    clear hy HX cx
    go_wp2_with (fail)
    refine (disk_image _ wy D _ HY.out.disk).mono ?_
    rintro e wz ⟨rfl, bz⟩
    have HZ := Lib.hid (HY.out.step bz)
    have cz := zone_c0 (HZ.out.fix (Z, zobj D 0 n) (List.mem_cons_self ..))
    rw [show x1.burnt.synced.n = n from HL.out.1]
    have hcut := HCUT.out
    clear bz HY cy HCUT
    generalize imgS n x1.burnt.synced.safe = im at hcut ⊢
    go_wp2_with (fail)
    clear hcut
    refine (HZ.out.cut HL.out.2.1 (by show 0 ≤ _; omega) (.slice none 0 0) [] (by decide) (cut_none _)).mono ?_
    rintro e wc ⟨rfl, hc⟩
    have HC := Lib.hid hc
    have HTI := Lib.hid (show x1.burnt.synced.fall [] = x1.burnt.synced.fall [] from rfl)
    clear hc HZ cz
    go_wp2_with (fail)
    refine (HC.out.getDown (Z := Z) (f := 0) (nz := n) (List.mem_cons_self ..) rfl (by show 0 + n ≤ x1.n; rw [HL.out.1]; omega) P hP).mono ?_
    rintro e wd ⟨rfl, hd⟩
    have HD := Lib.hid hd
    clear hd HC
    go_wp2_with (fail)
    refine (seal_get_nil wd 0).mono ?_
    rintro e we ⟨rfl, rfl⟩
    go_wp2_with (fail)
    refine (HD.out.putDown (Z := Z) (f := 0) (nz := n) (List.mem_cons_self ..) TB.out rfl (by show 0 + n ≤ x1.n; rw [HL.out.1]; omega) N s HNB.out.1 HNB.out.2.1 HNB.out.2.2 P HFT.out).mono ?_
    rintro e we ⟨rfl, he⟩
    have HE := Lib.hid he
    clear he HD
    go_wp2_with (fail)
    refine (seal_put_nil we 0 0 ⟨#[]⟩).mono ?_
    rintro e wf ⟨rfl, rfl⟩
    go_wp2_with (fail)
    refine bodyPost_ret (results_tmp rfl _ _ _) rfl ?_
    exact ⟨rfl, BB.out.trans (HE.out.below.mono BB.out.size)⟩
end Go.Proofs.YtegehfdjchmgcaaDoor.sealExact
namespace Go.Proofs.YtegehfdjchmgcaaDoor.sealExact
open Go.ChangeShapes Go.WideShapes Go.ChangeAt Go.RowKit Dk Sl

set_option maxRecDepth 100000 in
set_option maxHeartbeats 3200000 in
theorem walk (w : World) (nn : Int) (s q : ByteArray) (p : Int) (ws : s.size ≤ maxLen) (wq : q.size ≤ maxLen) (hT : Tabs w) :
    Calls Tryd.prog 3 #[.int .i64 nn, .string s, .string q, .int .i64 p] w fun e w' => e = .returned (.bool true) ∧ Below w.heap.size w w' := by
  have HAW := Lib.hid (awake06 w hT)
  unfold maxLen at ws wq
  have bs1 : (s.size : Int) ≤ 9223372036854775807 := by omega
  have bq1 : (q.size : Int) ≤ 9223372036854775807 := by omega
  by_cases c1 : 1100 < s.size
  · have t1 : decide ((1100 : Int) < (s.size : Int)) = true := decide_eq_true (by omega)
    have t1' : (1100 : Int) < (s.size : Int) := by omega
    go_enter Tryd.func3, Tryd.ntmps3
    go_wp2_with (fail)
    refine HAW.out.mono ?_
    rintro e w1 ⟨rfl, b1⟩
    have B1 := Lib.hid b1
    clear b1
    go_wp2_with (fail)
    exact bodyPost_ret (results_tmp rfl _ _ _) rfl ⟨rfl, B1.out⟩
  have t1 : decide ((1100 : Int) < (s.size : Int)) = false := decide_eq_false (by omega)
  by_cases c2 : 640 < q.size
  · have t2 : decide ((640 : Int) < (q.size : Int)) = true := decide_eq_true (by omega)
    have t2' : (640 : Int) < (q.size : Int) := by omega
    go_enter Tryd.func3, Tryd.ntmps3
    go_wp2_with (fail)
    refine HAW.out.mono ?_
    rintro e w1 ⟨rfl, b1⟩
    have B1 := Lib.hid b1
    clear b1
    go_wp2_with (fail)
    exact bodyPost_ret (results_tmp rfl _ _ _) rfl ⟨rfl, B1.out⟩
  have t2 : decide ((640 : Int) < (q.size : Int)) = false := decide_eq_false (by omega)
  by_cases c3 : q.size < 32
  · have t3 : decide ((q.size : Int) < 32) = true := decide_eq_true (by omega)
    have t3' : (q.size : Int) < 32 := by omega
    go_enter Tryd.func3, Tryd.ntmps3
    go_wp2_with (fail)
    refine HAW.out.mono ?_
    rintro e w1 ⟨rfl, b1⟩
    have B1 := Lib.hid b1
    clear b1
    go_wp2_with (fail)
    exact bodyPost_ret (results_tmp rfl _ _ _) rfl ⟨rfl, B1.out⟩
  cases hlb : layB nn s with
  | false => exact walk_no w nn s q p (by omega) (by omega) (by omega) hlb hT
  | true =>
    obtain ⟨h1, h2, h3⟩ := layB_true hlb
    obtain ⟨N, rfl⟩ : ∃ N : Nat, nn = (N : Int) := ⟨nn.toNat, by omega⟩
    exact walk_yes w N s q p (by omega) (by omega) h3 (by omega) (by omega) hT
end Go.Proofs.YtegehfdjchmgcaaDoor.sealExact
