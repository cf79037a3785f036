/-
  Proved: TwinExact: of all bytes of a zone the text that is opened, and behind every row of texts that are saved all bytes, are the document's; longer inputs are let pass. Condition: both tables of sums lie as the program's text lays them.
-/
import Derived.Test.YtblgabdlpobbjaaGreatDoorMg17
import Derived.Deep.LoopGhost
import Derived.Deep.CutBlock
import Derived.Deep.DeepCutAuto
set_option maxRecDepth 100000
namespace Go.Proofs.YtblgabdlpobbjaaGreatDoor.twinExact
open Go.ChangeShapes Go.WideShapes Go.ChangeAt Go.RowKit Pn Dk Sl Tw

/-- What Open answers, as one. -/
def Opened (w : World) (D Z n : Nat) (x : Dk.St) (p : Option Addr) (m : Int) (W : World) : Prop :=
  ((acc x 0 n 2).2.1 = 0 ∧ p = none ∧ m = 5 ∧ Zn w W D x [(Z, zobj D 0 n)]) ∨ ∃ T, p = some ⟨T, 0, none⟩ ∧ m = 0 ∧ Hold w W D Z T x (acc x 0 n 2).1 (acc x 0 n 2).2.1 (acc x 0 n 2).2.2 n 0
theorem opened (w wr : World) (D Z n : Nat) (x : Dk.St) (h : Zn w wr D x [(Z, zobj D 0 n)]) (hT : Tabs w) (hx : x.Full) (hn : x.n = n) (ha : x.away = false) (hf : x.fuse = none) (hl : x.loose = []) (hd : x.done = 0) (hc : canB n = true) :
    Calls Tryz.prog 9 #[.pointer (some ⟨Z, 0, none⟩)] wr fun e w' => ∃ p m, e = .returned (.tuple #[.pointer p, .int .i64 m]) ∧ Opened w D Z n x p m w' := by
  refine (h.open_ (Z := Z) (f := 0) (n := n) (List.mem_cons_self ..) hT ha (by rw [hn]; omega) hc).mono ?_
  rintro e w' (⟨h0, rfl, h1⟩ | ⟨T, h0, rfl, h1, h2, h3⟩)
  · exact ⟨none, 5, rfl, .inl ⟨h0, rfl, rfl, h1⟩⟩
  · exact ⟨some ⟨T, 0, none⟩, 0, rfl, .inr ⟨T, rfl, rfl, h3, h1, h2, ha, hf, hn, hl, hx, by rw [hd]; exact Nat.le_refl 0, rfl, h0⟩⟩
theorem Opened.step {w : World} {D Z n : Nat} {x : Dk.St} {p : Option Addr} {m : Int} {W V : World} (h : Opened w D Z n x p m W) (hb : Below W.heap.size W V) : Opened w D Z n x p m V := by
  rcases h with ⟨h0, h1, h2, h3⟩ | ⟨T, h1, h2, h3⟩
  · exact .inl ⟨h0, h1, h2, h3.step hb⟩
  · exact .inr ⟨T, h1, h2, h3.step hb⟩
theorem Opened.disk {w : World} {D Z n : Nat} {x : Dk.St} {p : Option Addr} {m : Int} {W : World} (h : Opened w D Z n x p m W) : Zn w W D x [(Z, zobj D 0 n)] := by
  rcases h with ⟨_, _, _, h3⟩ | ⟨T, _, _, h3⟩
  · exact h3
  · exact h3.zn.less (by simp)
set_option maxRecDepth 100000 in
set_option maxHeartbeats 6400000 in
theorem walk (w : World) (q : ByteArray) (A : Option Addr) (len cap : Nat) (ss : Nat → ByteArray) (hq : q.size ≤ maxLen) (hlc : len ≤ cap) (hcm : cap ≤ maxLen) (hX : 0 < len → ∃ pb po, A = some ⟨pb, po, none⟩ ∧ ∀ k, k < len → w.cell? ⟨pb, po + k, none⟩ = some (.string (ss k))) (hT : Tabs w) :
    Calls Tryz.prog 3 #[.string q, .slice A len cap] w fun e w' => e = .returned (.bool true) ∧ Below w.heap.size w w' := by
  have HAW := Lib.hid (awake07 w hT)
  unfold maxLen at hq hcm
  have bl : (len : Int) ≤ 9223372036854775807 := by omega
  have bq : (q.size : Int) ≤ 9223372036854775807 := by omega
  by_cases c1 : 768 < q.size
  · have t1 : decide ((768 : Int) < (q.size : Int)) = true := decide_eq_true (by omega)
    have t1' : (768 : Int) < (q.size : Int) := by omega
    go_enter Tryz.func3, Tryz.ntmps3
    go_wp2_with (fail)
    refine HAW.out.mono ?_
    rintro e w1 ⟨rfl, b1⟩
    have B1 := Lib.hid b1
    clear b1
    go_wp2_with (fail)
    exact bodyPost_ret (results_tmp rfl _ _ _) rfl ⟨rfl, B1.out⟩
  have t1 : decide ((768 : Int) < (q.size : Int)) = false := decide_eq_false (by omega)
  by_cases c2 : 10 < len
  · have t2 : decide ((10 : Int) < (len : Int)) = true := decide_eq_true (by omega)
    have t2' : (10 : Int) < (len : Int) := by omega
    go_enter Tryz.func3, Tryz.ntmps3
    go_wp2_with (fail)
    refine HAW.out.mono ?_
    rintro e w1 ⟨rfl, b1⟩
    have B1 := Lib.hid b1
    clear b1
    go_wp2_with (fail)
    exact bodyPost_ret (results_tmp rfl _ _ _) rfl ⟨rfl, B1.out⟩
  have t2 : decide ((10 : Int) < (len : Int)) = false := decide_eq_false (by omega)
  obtain ⟨n, hn⟩ : ∃ n, n = min (q.size / 32) 4096 := ⟨_, rfl⟩
  have hn24 : n ≤ 24 := by omega
  have hq3 : q.size ≤ 1099511627776 := by omega
  have HL10 := Lib.hid (show len ≤ 10 by omega)
  have HX := Lib.hid hX
  have HT := Lib.hid hT
  have HOF := Lib.hid (fun (W : World) (hb : Below w.heap.size w W) => disk_Of (fun i => w.heap.size ≤ i) W q n hn hq3 (fun i hi => Nat.le_trans hb.size hi))
  generalize hx0 : freshSt n (bs q) = x0 at HOF
  have E0 : x0.n = n ∧ x0.safe = bs q ∧ x0.now = bs q ∧ x0.loose = [] ∧ x0.fuse = none ∧ x0.away = false ∧ x0.done = 0 ∧ x0.Full := by
    subst hx0
    exact ⟨rfl, rfl, rfl, rfl, rfl, rfl, rfl, rfl⟩
  obtain ⟨en, es, eno, el, ef, ea, ed, eF⟩ := E0
  have HE := Lib.hid (And.intro en (And.intro es (And.intro eno (And.intro el (And.intro ef (And.intro ea (And.intro ed eF)))))))
  clear hT hX c1 c2 hlc hcm hn hq hq3 hx0 en es eno el ef ea ed eF
  by_cases hn0 : n = 0
  · have u1 : ((n : Int) == 0) = true := by rw [hn0]; rfl
    have HNW0 := Lib.hid (fun (W : World) (D : Nat) (g2 : DiskAt (fun i => w.heap.size ≤ i) W D x0) => zone_new_not _ W D x0 g2 0 (n : Int) (by omega) (by rw [hn0]; rfl))
    clear hn0
    go_enter Tryz.func3, Tryz.ntmps3
    go_wp2_with (fail)
    refine HAW.out.mono ?_
    rintro e w1 ⟨rfl, b1⟩
    have HO := Lib.hid (HOF.out w1 b1)
    have B1 := Lib.hid b1
    clear b1 HAW HOF
    go_wp2_with (fail)
    clear t1 t2
    refine HO.out.mono ?_
    rintro e w2 ⟨D, rfl, g1, g2, g3⟩
    have HD := Lib.hid g2
    have B2 := Lib.hid (B1.out.trans (g3.mono B1.out.size))
    have HLN := Lib.hid (show Calls Tryz.prog 7 #[.pointer (some ⟨D, 0, none⟩)] w2 fun e w' => e = .returned (.int .i64 (n : Int)) ∧ w2 = w' from by
      have := disk_len _ w2 D x0 g2
      rw [HE.out.1] at this
      exact this)
    have HNW := Lib.hid (HNW0.out w2 D g2)
    clear g1 g2 g3 HO
    go_wp2_with (fail)
    refine HLN.out.mono ?_
    rintro e w3 ⟨rfl, rfl⟩
    go_wp2_with (fail)
    refine HNW.out.mono ?_
    rintro e w3 ⟨rfl, rfl⟩
    go_wp2_with (fail)
    refine HLN.out.mono ?_
    rintro e w3 ⟨rfl, rfl⟩
    go_wp2_with (fail)
    refine bodyPost_ret (results_tmp rfl _ _ _) rfl ?_
    exact ⟨rfl, B2.out⟩
  have HLNn := Lib.hid (fun (W : World) (D : Nat) (g2 : DiskAt (fun i => w.heap.size ≤ i) W D x0) => (show Calls Tryz.prog 7 #[.pointer (some ⟨D, 0, none⟩)] W fun e w' => e = .returned (.int .i64 (n : Int)) ∧ W = w' from by
    have := disk_len _ W D x0 g2
    rw [HE.out.1] at this
    exact this))
  have HLNz := Lib.hid (fun (W : World) (D Z : Nat) (h : Zn w W D x0 [(Z, zobj D 0 n)]) => (show Calls Tryz.prog 7 #[.pointer (some ⟨D, 0, none⟩)] W fun e w' => e = .returned (.int .i64 (n : Int)) ∧ W = w' from by
    have := disk_len _ W D x0 h.disk
    rw [HE.out.1] at this
    exact this))
  have HIM := Lib.hid (fun (W : World) (D Z : Nat) (h : Zn w W D x0 [(Z, zobj D 0 n)]) => (show Calls Tryz.prog 8 #[.pointer (some ⟨D, 0, none⟩)] W fun e w' => e = .returned (.string (imgS n (bs q))) ∧ Below W.heap.size W w' from by
    have := disk_image _ W D x0 h.disk
    rw [HE.out.1, HE.out.2.1] at this
    exact this))
  have v1 : 0 ≤ (n : Int) := by omega
  have v2 : (n : Int) ≤ 24 := by omega
  by_cases hcb : canB n = false
  · have HZF := Lib.hid (fun (W : World) (D Z : Nat) (h : Zn w W D x0 [(Z, zobj D 0 n)]) => twin_open_cant W Z D 0 n (h.fix (Z, zobj D 0 n) (by simp)) (by omega) hcb)
    have HZG := Lib.hid (fun (W : World) (D Z : Nat) (h : Zn w W D x0 [(Z, zobj D 0 n)]) => twin_format_cant W Z D 0 n (h.fix (Z, zobj D 0 n) (by simp)) (by omega) hcb ⟨#[]⟩)
    have hor : n < 4 ∨ (¬ n < 4 ∧ n % 2 = 1) := by
      by_cases h : n < 4
      · exact .inl h
      · refine .inr ⟨h, ?_⟩
        by_cases h2 : n % 2 = 0
        · exact absurd (canB_iff.2 ⟨by omega, h2⟩) (by rw [hcb]; exact Bool.false_ne_true)
        · omega
    clear hcb
    go_enter Tryz.func3, Tryz.ntmps3
    go_wp2_with (fail)
    refine HAW.out.mono ?_
    rintro e w1 ⟨rfl, b1⟩
    have HO := Lib.hid (HOF.out w1 b1)
    have B1 := Lib.hid b1
    clear b1 HAW HOF
    go_wp2_with (fail)
    clear t1 t2
    refine HO.out.mono ?_
    rintro e w2 ⟨D, rfl, g1, g2, g3⟩
    have H2 := Lib.hid (show Zn w w2 D x0 [] from Zn.of_at ⟨g2, B1.out.trans (g3.mono B1.out.size)⟩)
    have HLN := Lib.hid (HLNn.out w2 D g2)
    clear g1 g2 g3 HO B1 HLNn
    go_wp2_with (fail)
    refine HLN.out.mono ?_
    rintro e w3 ⟨rfl, rfl⟩
    go_wp2_with (fail)
    refine (H2.out.news 0 n (by omega) (by rw [HE.out.1]; omega)).mono ?_
    rintro e w3 ⟨Z, rfl, h3⟩
    have H3 := Lib.hid h3
    clear h3 H2 HLN
    go_wp2_with (fail)
    refine (HIM.out w3 D Z H3.out).mono ?_
    rintro e w4 ⟨rfl, b4⟩
    have H4 := Lib.hid (H3.out.step b4)
    clear b4 H3 HIM
    go_wp2_with (fail)
    refine (HZF.out w4 D Z H4.out).mono ?_
    rintro e w5 ⟨rfl, rfl⟩
    go_wp2_with (fail)
    have HLZ := Lib.hid (HLNz.out w4 D Z H4.out)
    have HFG := Lib.hid (HZG.out w4 D Z H4.out)
    clear HZF HZG HLNz
    refine HLZ.out.mono ?_
    rintro e w5 ⟨rfl, rfl⟩
    rcases hor with hor | ⟨hor, hodd⟩
    · have u1 : (n : Int) < 4 := by omega
      have u2 : decide ((n : Int) < 4) = true := decide_eq_true u1
      clear hor
      go_wp2_with (fail)
      refine HFG.out.mono ?_
      rintro e w5 ⟨rfl, rfl⟩
      go_wp2_with (fail)
      refine bodyPost_ret (results_tmp rfl _ _ _) rfl ?_
      exact ⟨rfl, H4.out.below⟩
    · have u1 : ¬ (n : Int) < 4 := by omega
      have u2 : decide ((n : Int) < 4) = false := decide_eq_false u1
      have u3 : ((n : Int) % 2 != 0) = true := bne_iff_ne.2 (by omega)
      clear hor hodd
      go_wp2_with (fail)
      refine HLZ.out.mono ?_
      rintro e w5 ⟨rfl, rfl⟩
      go_wp2_with (fail)
      refine HFG.out.mono ?_
      rintro e w5 ⟨rfl, rfl⟩
      go_wp2_with (fail)
      refine bodyPost_ret (results_tmp rfl _ _ _) rfl ?_
      exact ⟨rfl, H4.out.below⟩
  have hc : canB n = true := by simpa using hcb
  obtain ⟨h4, he⟩ := canB_iff.1 hc
  have u1 : ¬ (n : Int) < 4 := by omega
  have u2 : decide ((n : Int) < 4) = false := decide_eq_false u1
  have u3 : ((n : Int) % 2 != 0) = false := by rw [bne_eq_false_iff_eq]; omega
  have HOPN := Lib.hid (fun (W : World) (D Z : Nat) (h : Zn w W D x0 [(Z, zobj D 0 n)]) => opened w W D Z n x0 h HT.out HE.out.2.2.2.2.2.2.2 HE.out.1 HE.out.2.2.2.2.2.1 HE.out.2.2.2.2.1 HE.out.2.2.2.1 HE.out.2.2.2.2.2.2.1 hc)
  have HLA := Lib.hid (fun W => ref7_last W n (bs q) h4 hn24 he)
  have HRA := Lib.hid (racc_eq HE.out.2.2.1 h4 he 2 (Nat.le_refl 2))
  have HC := Lib.hid (And.intro hc (And.intro h4 he))
  clear hcb hc h4 he hn0
  go_enter Tryz.func3, Tryz.ntmps3
  go_wp2_with (fail)
  refine HAW.out.mono ?_
  rintro e w1 ⟨rfl, b1⟩
  have HO := Lib.hid (HOF.out w1 b1)
  have B1 := Lib.hid b1
  clear b1 HAW HOF
  go_wp2_with (fail)
  clear t1 t2
  refine HO.out.mono ?_
  rintro e w2 ⟨D, rfl, g1, g2, g3⟩
  have H2 := Lib.hid (show Zn w w2 D x0 [] from Zn.of_at ⟨g2, B1.out.trans (g3.mono B1.out.size)⟩)
  have HLN := Lib.hid (HLNn.out w2 D g2)
  clear g1 g2 g3 HO B1 HLNn
  go_wp2_with (fail)
  refine HLN.out.mono ?_
  rintro e w3 ⟨rfl, rfl⟩
  go_wp2_with (fail)
  refine (H2.out.news 0 n (by omega) (by rw [HE.out.1]; omega)).mono ?_
  rintro e w3 ⟨Z, rfl, h3⟩
  have H3 := Lib.hid h3
  clear h3 H2 HLN
  go_wp2_with (fail)
  refine (HIM.out w3 D Z H3.out).mono ?_
  rintro e w4 ⟨rfl, b4⟩
  have H4 := Lib.hid (H3.out.step b4)
  clear b4 H3 HIM
  go_wp2_with (fail)
  refine (HOPN.out w4 D Z H4.out).mono ?_
  rintro e w5 ⟨p, m, rfl, h5⟩
  have H5 := Lib.hid h5
  have HLZ := Lib.hid (HLNz.out w5 D Z h5.disk)
  clear h5 HOPN H4 HLNz
  go_wp2_with (fail)
  refine HLZ.out.mono ?_
  rintro e w6 ⟨rfl, rfl⟩
  go_wp2_with (fail)
  refine HLZ.out.mono ?_
  rintro e w6 ⟨rfl, rfl⟩
  clear HLZ
  go_wp2_with (fail)
  refine (HLA.out w5).mono ?_
  rintro e w6 ⟨rfl, b6⟩
  have H6 := Lib.hid (H5.out.step b6)
  clear b6 H5 HLA u1 u2 u3
  generalize (racc (bs q) n 2).1 = rt
  generalize (racc (bs q) n 2).2.1 = rg
  have HSI := Lib.hid (show (racc (bs q) n 2).2.2 = if (acc x0 0 n 2).2.1 = 0 then (-1 : Int) else ((acc x0 0 n 2).2.2 : Int) from congrArg (fun r => r.2.2) HRA.out)
  clear HRA
  generalize (racc (bs q) n 2).2.2 = si at HSI ⊢
  go_upto_if 92 with (fail)
  go_cut [8, 9, 10, 16, 17] (fun va vt vf vb v7 wx => ∃ (T : Nat) (x : Dk.St) (t : ByteArray) (g k : Nat), va = .string (imgS n x.safe) ∧ vt = .pointer (some ⟨T, 0, none⟩) ∧ vf = .int .i64 0 ∧ Hold w wx D Z T x t g k n 100)
  case first =>
    rcases H6.out with ⟨a0, rfl, rfl, hz⟩ | ⟨T, rfl, rfl, hh⟩
    · have hsi : si = -1 := by rw [HSI.out, if_pos a0]
      subst hsi
      have hz2 : szN sFirst.size = 2 := by decide
      have hfz : szN sFirst.size ≤ n / 2 := by rw [hz2]; have := HC.out.2.1; omega
      have HFM := Lib.hid (hz.formatOn (Z := Z) (f := 0) (n := n) (List.mem_cons_self ..) HT.out HE.out.2.2.2.2.2.1 HE.out.2.2.2.2.1 (by rw [HE.out.2.2.2.1]; decide) (by rw [HE.out.2.2.2.2.2.2.1]; decide) (by rw [HE.out.1]; omega) HC.out.1 sFirst (by decide) hfz)
      clear a0 hz H6 HSI hz2 hfz
      go_wp2_with (fail)
      refine HFM.out.mono ?_
      rintro e w7 ⟨T, rfl, g1, g2, g3⟩
      obtain ⟨hh, him⟩ := hold_first HE.out.2.2.2.2.2.2.2 HE.out.1 HE.out.2.2.2.2.2.1 HE.out.2.2.2.2.1 HE.out.2.2.2.2.2.2.1 HC.out.2.1 hn24 g1 g2 g3
      have H7 := Lib.hid hh
      have HIG := Lib.hid him
      clear hh him g1 g2 g3 HFM
      have HBY := Lib.hid (show Calls Tryz.prog 12 #[.int .i64 1, .string sFirst] w7 fun e w' => e = .returned (.tuple #[.string (catB 1 (sealL sFirst) 2), .bool true]) ∧ Below w7.heap.size w7 w' from by
        have h2 : szN sFirst.size = 2 := by decide
        have := ref6_bytes w7 1 sFirst (Nat.le_refl 1) (by decide) (by decide)
        rw [h2] at this
        exact this)
      go_wp2_with (fail)
      refine HBY.out.mono ?_
      rintro e w8 ⟨rfl, b8⟩
      have H8 := Lib.hid (H7.out.step b8)
      clear b8 H7 HBY
      have k1 : ((catB 1 (sealL sFirst) 2).size : Int) = 64 := by rw [catB_size]; rfl
      have k2 : ((imgS n (bs q)).size : Int) = ((n * 32 : Nat) : Int) := by rw [imgS_size]
      have k3 : ((n * 32 : Nat) : Int) - 64 = (((n - 2) * 32 : Nat) : Int) := by have := HC.out.2.1; omega
      have k4 : wrap64 (((n - 2) * 32 : Nat) : Int) = (((n - 2) * 32 : Nat) : Int) := IntWalk.wrap64_in _ (by omega)
      have k5 : IntKind.i64.wrap (((n - 2) * 32 : Nat) : Int) = (((n - 2) * 32 : Nat) : Int) := IntWalk.i64_in _ (by omega)
      have k6 : (0 : Int) ≤ ((n * 32 : Nat) : Int) := by omega
      have k7 : ((n * 32 : Nat) : Int) ≤ 768 := by omega
      have ns : ¬ 9223372036854775807 < (catB 1 (sealL sFirst) 2).size + (imgS (n - 2) fun _ => 0).size := by rw [catB_size, imgS_size]; omega
      have hmk := run_make_row' (P := Tryz.prog) 40 5 (.int .u8 0) 1 Tryz.underlying40 infoU rfl .i64 .i64 ((n - 2) * 32) (by omega) (by omega) w8
      have hcv := made_zeros7 (n - 2) w8.heap.size (w8.alloc (.cells (madeCells #[.int .u8 0] ((n - 2) * 32)) 5)) (heap_alloc_new w8 _)
      have H9 := Lib.hid (H8.out.step ((Below.refl w8.heap.size w8).alloc (Nat.le_refl _) (.cells (madeCells #[.int .u8 0] ((n - 2) * 32)) 5)))
      clear H8
      generalize ((n * 32 : Nat) : Int) = N32 at k2 k3 k6 k7
      generalize (n - 2) * 32 = NZ at k3 k4 k5 hmk hcv H9
      generalize (imgS (n - 2) fun _ => 0) = zs at hcv ns HIG
      generalize catB 1 (sealL sFirst) 2 = cb at k1 ns HIG ⊢
      generalize imgS n (bs q) = all at k2 ⊢
      go_wp2_with (fail)
      go_meet
      exact ⟨T, _, sFirst, 1, 0, by rw [HIG.out], rfl, rfl, H9.out⟩
    · have hsi : si = ((acc x0 0 n 2).2.2 : Int) := by
        have := hh.one
        rw [HSI.out, if_neg (by omega)]
      have s1 : ¬ si < 0 := by omega
      have s2 : decide (si < 0) = false := decide_eq_false s1
      have HH := Lib.hid (hh.mono (C := 100) (by omega))
      have HSF := Lib.hid HE.out.2.1
      clear hh hsi HSI H6
      go_wp2_with (fail)
      go_meet
      exact ⟨T, x0, _, _, _, by rw [HSF.out], rfl, rfl, HH.out⟩
  case rest =>
    clear H6 HSI
    obtain ⟨T, x, t, g, k, rfl, rfl, rfl, hh⟩ := hcut
    have H8 := Lib.hid hh
    clear hh
    go_wp2_with (fail)
    clear HE
    go_loopg [8, 18] 12 (fun gk va vi wr => ∃ (i g k : Nat) (t : ByteArray) (x : Dk.St), gk = 12 - i ∧ i ≤ len ∧ vi = .int .i64 (i : Int) ∧ va = .string (imgS n x.safe) ∧ Hold w wr D Z T x t g k n (100 + 40 * i))
    case atStart => exact ⟨0, g, k, t, x, rfl, Nat.zero_le _, rfl, rfl, H8.out⟩
    case round =>
      clear H8
      obtain ⟨i, g, k, t, x, hgk, hil, rfl, rfl, hh⟩ := hrel
      have HH := Lib.hid hh
      have HGK := Lib.hid hgk
      have HIL := Lib.hid hil
      have HRC := Lib.hid (hh.racc HC.out.2.1 HC.out.2.2)
      have hla := ref7_last wr n x.safe HC.out.2.1 hn24 HC.out.2.2
      rw [HRC.out] at hla
      have HLA := Lib.hid hla
      have HTX := Lib.hid (fun (W : World) (h : Hold w W D Z T x t g k n (100 + 40 * i)) => twin_text W T Z g k t false h.tfix)
      have HGN := Lib.hid (fun (W : World) (h : Hold w W D Z T x t g k n (100 + 40 * i)) => twin_gen W T Z g k t false h.tfix)
      have HSD := Lib.hid (fun (W : World) (h : Hold w W D Z T x t g k n (100 + 40 * i)) => twin_side W T Z g k t false h.tfix)
      have HIM := Lib.hid (fun (W : World) (h : Hold w W D Z T x t g k n (100 + 40 * i)) => (show Calls Tryz.prog 8 #[.pointer (some ⟨D, 0, none⟩)] W fun e w' => e = .returned (.string (imgS n x.safe)) ∧ Below W.heap.size W w' from by
        have := disk_image _ W D x h.zn.disk
        rw [h.cnt] at this
        exact this))
      have HSV := Lib.hid (fun (W : World) (h : Hold w W D Z T x t g k n (100 + 40 * i)) (u : ByteArray) (hu : u.size ≤ 300) => h.save HT.out HC.out.2.1 hn24 HC.out.2.2 (by have := HL10.out; omega) u hu)
      have HR1 := Lib.hid (fun (W : World) (u : ByteArray) (hu : u.size ≤ 300) (hk : k < 2) (hg : g ≤ 2147483647) (hp : szN u.size ≤ n / 2) (hgm : g < 2147483647) => ref7_save W n x.safe u t g k HC.out.2.1 hn24 HC.out.2.2 HRC.out (by omega) hg hk hp hgm)
      have HR2 := Lib.hid (fun (W : World) (u : ByteArray) (hu : u.size ≤ 300) (hg : g ≤ 2147483647) (hn : ¬ (szN u.size ≤ n / 2 ∧ g < 2147483647)) => ref7_save_not W n x.safe u t g k HC.out.2.1 hn24 HC.out.2.2 HRC.out (by omega) hg hn)
      have HIV := Lib.hid (show k < 2 ∧ g ≤ 2147483647 from ⟨hh.inv.1, hh.inv.2.2⟩)
      have x2 : 0 ≤ (i : Int) := by omega
      have x0' : (i : Int) ≤ (len : Int) := by omega
      have x1 : decide ((i : Int) ≤ (len : Int)) = true := decide_eq_true x0'
      have d1 : (t.toList != t.toList) = false := bne_self_eq_false _
      have d2 : ((g : Int) != (g : Int)) = false := bne_self_eq_false _
      have d3 : ((k : Int) != (k : Int)) = false := bne_self_eq_false _
      have d4 : ((imgS n x.safe).toList != (imgS n x.safe).toList) = false := bne_self_eq_false _
      obtain ⟨all, hall⟩ : ∃ all, imgS n x.safe = all := ⟨_, rfl⟩
      have HALL := Lib.hid hall
      rw [hall] at HLA HIM HR1 HR2 d4
      rw [hall]
      clear hh hgk hil HRC hla hall
      go_wp2_with (fail)
      refine HLA.out.mono ?_
      rintro e w5 ⟨rfl, b5⟩
      have H5 := Lib.hid (HH.out.step b5)
      clear b5 HLA HH
      go_wp2_with (fail)
      refine (HTX.out w5 H5.out).mono ?_
      rintro e w6 ⟨rfl, rfl⟩
      go_wp2_with (fail)
      refine (HGN.out w5 H5.out).mono ?_
      rintro e w6 ⟨rfl, rfl⟩
      go_wp2_with (fail)
      refine (HSD.out w5 H5.out).mono ?_
      rintro e w6 ⟨rfl, rfl⟩
      go_wp2_with (fail)
      refine (HIM.out w5 H5.out).mono ?_
      rintro e w6 ⟨rfl, b6⟩
      have H6 := Lib.hid (H5.out.step b6)
      clear b6 H5 HTX HGN HSD HIM d1 d2 d3
      by_cases hlen : i = len
      · have e1 : ((i : Int) == (len : Int)) = true := by rw [hlen]; exact beq_self_eq_true _
        clear hlen HSV HR1 HR2
        go_wp2_with (fail)
        clear x0' x1 e1 d4
        refine (twin_open_nil w6).mono ?_
        rintro e w7 ⟨rfl, rfl⟩
        go_wp2_with (fail)
        refine (twin_format_nil w6 ⟨#[]⟩).mono ?_
        rintro e w7 ⟨rfl, rfl⟩
        go_wp2_with (fail)
        refine (twin_save_nil w6 ⟨#[]⟩).mono ?_
        rintro e w7 ⟨rfl, rfl⟩
        go_wp2_with (fail)
        refine (twin_text_nil w6).mono ?_
        rintro e w7 ⟨rfl, rfl⟩
        go_wp2_with (fail)
        refine (twin_gen_nil w6).mono ?_
        rintro e w7 ⟨rfl, rfl⟩
        go_wp2_with (fail)
        refine (twin_side_nil w6).mono ?_
        rintro e w7 ⟨rfl, rfl⟩
        go_wp2_with (fail)
        refine bodyPost_ret (results_tmp rfl _ _ _) rfl ?_
        exact ⟨rfl, H6.out.zn.below⟩
      · have hlt : i < len := by have := HIL.out; omega
        have e1 : ((i : Int) == (len : Int)) = false := beq_eq_false_iff_ne.2 (by omega)
        have e2 : (i : Int) < (len : Int) := by omega
        obtain ⟨pb, po, rfl, hc⟩ := HX.out (by omega)
        have hci := hc i hlt
        have HCI := Lib.hid (show ∀ W : World, Below w.heap.size w W → W.cell? ⟨pb, po + i, none⟩ = some (.string (ss i)) from fun W hW => (World.cell?_of_block (w := w) (a := ⟨pb, po + i, none⟩) (hW.block pb (block_lt_of_cell hci))).trans hci)
        clear hc hci hlen
        generalize ss i = u at HCI
        have cs := HCI.out _ H6.out.zn.below
        by_cases h300 : 300 < u.size
        · have f0 : (300 : Int) < (u.size : Int) := by omega
          have f1 : decide ((300 : Int) < (u.size : Int)) = true := decide_eq_true f0
          go_wp2_with (fail)
          refine bodyPost_ret (results_tmp rfl _ _ _) rfl ?_
          exact ⟨rfl, H6.out.zn.below⟩
        · have f0 : ¬ (300 : Int) < (u.size : Int) := by omega
          have f1 : decide ((300 : Int) < (u.size : Int)) = false := decide_eq_false f0
          have hu : u.size ≤ 300 := by omega
          have HS := Lib.hid (HSV.out w6 H6.out u hu)
          have HU := Lib.hid hu
          clear h300 hu HSV
          go_wp2_with (fail)
          refine HS.out.mono ?_
          rintro e w7 ⟨m, rfl, ⟨hp, hgm, rfl, y, hy, himg⟩ | ⟨hno, rfl, hm⟩⟩
          · have H7 := Lib.hid hy
            have HR := Lib.hid (HR1.out w7 u HU.out HIV.out.1 HIV.out.2 hp hgm)
            have HIG := Lib.hid himg
            have cs7 := HCI.out _ hy.zn.below
            clear hy himg hp hgm HS HR1 HR2 cs H6
            go_wp2_with (fail)
            refine HR.out.mono ?_
            rintro e w8 ⟨rfl, b8⟩
            have H8 := Lib.hid (H7.out.step b8)
            clear b8 H7 HR cs7
            go_wp2_with (fail)
            go_roundg (12 - (i + 1))
            case measure => have := HGK.out; have := HL10.out; omega
            case rel => exact ⟨i + 1, g + 1, 1 - k, u, y, rfl, by omega, rfl, by rw [HIG.out], H8.out.mono (by omega)⟩
          · have HR := Lib.hid (HR2.out w6 u HU.out HIV.out.2 hno)
            clear hno HS HR1 HR2
            rcases hm with rfl | ⟨rfl, hg9⟩
            · go_wp2_with (fail)
              refine HR.out.mono ?_
              rintro e w8 ⟨rfl, b8⟩
              have H8 := Lib.hid (H6.out.step b8)
              clear b8 H6 HR cs
              go_wp2_with (fail)
              go_roundg (12 - (i + 1))
              case measure => have := HGK.out; have := HL10.out; omega
              case rel => exact ⟨i + 1, g, k, t, x, rfl, by omega, rfl, by rw [HALL.out], H8.out.mono (by omega)⟩
            · have g1 : ¬ (g : Int) < 2147483647 := by omega
              have g2 : decide ((g : Int) < 2147483647) = false := decide_eq_false g1
              clear hg9
              go_wp2_with (fail)
              refine HR.out.mono ?_
              rintro e w8 ⟨rfl, b8⟩
              have H8 := Lib.hid (H6.out.step b8)
              clear b8 H6 HR cs
              go_wp2_with (fail)
              go_roundg (12 - (i + 1))
              case measure => have := HGK.out; have := HL10.out; omega
              case rel => exact ⟨i + 1, g, k, t, x, rfl, by omega, rfl, by rw [HALL.out], H8.out.mono (by omega)⟩
end Go.Proofs.YtblgabdlpobbjaaGreatDoor.twinExact
