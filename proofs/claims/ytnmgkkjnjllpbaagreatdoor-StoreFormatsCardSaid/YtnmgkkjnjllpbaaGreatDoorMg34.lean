/-
  StoreFormats: of every layout how many sectors it has, whether a disk can be laid out so, and all bytes then, are the document's. The walk. Condition: both tables of sums lie as the program's text lays them.
-/
import Derived.Test.YtnmgkkjnjllpbaaGreatDoorMg18
import Derived.Test.YtnmgkkjnjllpbaaGreatDoorMg31
import Derived.Test.YtnmgkkjnjllpbaaGreatDoorMg32
import Derived.Test.YtnmgkkjnjllpbaaGreatDoorMg33
import Derived.Deep.OwnRows
set_option maxRecDepth 100000
namespace Go.Proofs.YtnmgkkjnjllpbaaGreatDoor
open Go.ChangeShapes Go.WideShapes Go.ChangeAt Go.RowKit Pn Dk Sl Ly Tw

namespace storeFormats
theorem arith (nd sz : Nat) (h : 2 + sz ≤ nd) (h2 : nd ≤ 1538) : wrap64 ((nd * 32 : Nat) : Int) = ((nd * 32 : Nat) : Int) ∧ ((nd * 32 : Nat) : Int) - 64 = ((nd * 32 - 64 : Nat) : Int) ∧ wrap64 ((nd * 32 - 64 : Nat) : Int) = ((nd * 32 - 64 : Nat) : Int) ∧
    ((nd * 32 - 64 : Nat) : Int) - ((32 * sz : Nat) : Int) = (((nd - 2 - sz) * 32 : Nat) : Int) ∧ wrap64 (((nd - 2 - sz) * 32 : Nat) : Int) = (((nd - 2 - sz) * 32 : Nat) : Int) ∧ IntKind.i64.wrap ((nd * 32 : Nat) : Int) = ((nd * 32 : Nat) : Int) :=
  ⟨IntWalk.wrap64_in _ (by omega), by omega, IntWalk.wrap64_in _ (by omega), by omega, IntWalk.wrap64_in _ (by omega), IntWalk.i64_in _ (by omega)⟩
theorem bounds (a b c d : ByteArray) (h1 : a.size ≤ 2000) (h2 : b.size ≤ 2000) (h3 : c.size ≤ 100000) (h4 : d.size ≤ 2000) : ¬ 9223372036854775807 < a.size + b.size ∧ ¬ 9223372036854775807 < (a ++ b).size + c.size ∧ ¬ 9223372036854775807 < a.size + b.size + c.size ∧ ¬ 9223372036854775807 < (a ++ b ++ c).size + d.size ∧ ¬ 9223372036854775807 < a.size + b.size + c.size + d.size := by
  rw [ByteArray.size_append, ByteArray.size_append, ByteArray.size_append]
  omega
/-- What both of store.Need and the document's answer. -/
theorem needs (r k c : Int) : ∃ m : Int, (∀ W, Calls Tryz.prog 12 #[lyV r k c] W fun e w' => e = .returned (.int .i64 m) ∧ Below W.heap.size W w') ∧ (∀ W, Calls Tryz.prog 9 #[lyV r k c] W fun e w' => e = .returned (.int .i64 m) ∧ Below W.heap.size W w') ∧
    ((okZ r k c = false ∧ m = 0) ∨ ∃ r' k' c' : Nat, r = (r' : Int) ∧ k = (k' : Int) ∧ c = (c' : Int) ∧ LyOk r' k' c' ∧ m = (needN r' k' c' : Int) ∧ 2 + r' + 4 ≤ needN r' k' c' ∧ needN r' k' c' ≤ 1538) := by
  cases ho : okZ r k c with
  | false => exact ⟨0, fun W => store_need_not W r k c ho, fun W => ref10_need_not W r k c ho, .inl ⟨rfl, rfl⟩⟩
  | true =>
    obtain ⟨r', k', c', rfl, rfl, rfl, hl⟩ := okZ_nat ho
    have h1 := szN_two k'
    have h2 := hl.c1
    have h3 : 2 * 1 * 2 ≤ 2 * c' * szN k' := Nat.mul_le_mul (Nat.mul_le_mul_left _ h2) h1
    exact ⟨_, fun W => store_need W r' k' c' hl, fun W => ref10_need W r' k' c' hl, .inr ⟨r', k', c', rfl, rfl, rfl, hl, rfl, by unfold needN fromN; omega, (fromN_le hl (Nat.le_refl _)).2.2⟩⟩
set_option maxRecDepth 100000 in
set_option maxHeartbeats 6400000 in
theorem walk (w : World) (r k c : Int) (q : ByteArray) (hqm : q.size ≤ maxLen) (s : ByteArray) (hsm : s.size ≤ maxLen) (hT : Tabs w) :
    Calls Tryz.prog 3 #[lyV r k c, .string q, .string s] w fun e w' => e = .returned (.bool true) ∧ Below w.heap.size w w' := by
  have HB0 := Lib.hid ((Below.refl w.heap.size w).alloc (Nat.le_refl _) (.cells #[.int .i64 r, .int .i64 k, .int .i64 c] 23))
  have HL0 := Lib.hid (show (w.alloc (.cells #[.int .i64 r, .int .i64 k, .int .i64 c] 23)).heap[w.heap.size]? = some (lyO r k c) from heap_alloc_new w _)
  have HT0 := Lib.hid (hT.below HB0.out)
  have HAW := Lib.hid (awake10 _ HT0.out)
  have HS0 := Lib.hid (show (w.alloc (.cells #[.int .i64 r, .int .i64 k, .int .i64 c] 23)).heap.size = w.heap.size + 1 by simp)
  unfold maxLen at hsm hqm
  have bs1 : (s.size : Int) ≤ 9223372036854775807 := by omega
  have bq : (q.size : Int) ≤ 9223372036854775807 := by omega
  unfold lyV lyA
  by_cases c1 : 1920 < q.size
  · have t1' : (1920 : Int) < (q.size : Int) := by omega
    have t1 : decide ((1920 : Int) < (q.size : Int)) = true := decide_eq_true t1'
    clear hT
    go_enter Tryz.func3, Tryz.ntmps3
    go_wp2_with (fail)
    refine HAW.out.mono ?_
    rintro e w1 ⟨rfl, b1⟩
    have B1 := Lib.hid (HB0.out.trans (b1.mono HB0.out.size))
    clear b1
    go_wp2_with (fail)
    exact bodyPost_ret (results_tmp rfl _ _ _) rfl ⟨rfl, B1.out⟩
  have t1' : ¬ (1920 : Int) < (q.size : Int) := by omega
  have t1 : decide ((1920 : Int) < (q.size : Int)) = false := decide_eq_false t1'
  by_cases c2 : 100 < s.size
  · have t2' : (100 : Int) < (s.size : Int) := by omega
    have t2 : decide ((100 : Int) < (s.size : Int)) = true := decide_eq_true t2'
    clear hT
    go_enter Tryz.func3, Tryz.ntmps3
    go_wp2_with (fail)
    refine HAW.out.mono ?_
    rintro e w1 ⟨rfl, b1⟩
    have B1 := Lib.hid (HB0.out.trans (b1.mono HB0.out.size))
    clear b1
    go_wp2_with (fail)
    exact bodyPost_ret (results_tmp rfl _ _ _) rfl ⟨rfl, B1.out⟩
  have t2' : ¬ (100 : Int) < (s.size : Int) := by omega
  have t2 : decide ((100 : Int) < (s.size : Int)) = false := decide_eq_false t2'
  have HQ := Lib.hid (show q.size ≤ 1920 by omega)
  have HSZ := Lib.hid (show s.size ≤ 100 by omega)
  obtain ⟨m, hm1, hm2, hm3⟩ := needs r k c
  have HN1 := Lib.hid hm1
  have HN2 := Lib.hid hm2
  have HN3 := Lib.hid hm3
  have HFM := Lib.hid (fun W => law_form W r k c)
  unfold lyV lyA at HN1 HN2 HFM
  clear hT c1 c2 hm1 hm2 hm3 hqm hsm
  obtain ⟨n, hn⟩ : ∃ n, n = q.size / 32 := ⟨_, rfl⟩
  have HNN := Lib.hid hn
  clear hn
  go_enter Tryz.func3, Tryz.ntmps3
  go_wp2_with (fail)
  generalize w.alloc (.cells #[.int .i64 r, .int .i64 k, .int .i64 c] 23) = w0 at HB0 HL0 HT0 HAW HS0 ⊢
  refine HAW.out.mono ?_
  rintro e w1 ⟨rfl, b1⟩
  have HB1 := Lib.hid (HB0.out.trans (b1.mono HB0.out.size))
  have HL1 := Lib.hid ((b1.block w.heap.size (by rw [HS0.out]; omega)).trans HL0.out)
  have HT1 := Lib.hid (HT0.out.below b1)
  have HC := Lib.hid (fun (W : World) (hW : Below w1.heap.size w1 W) => show W.heap[w.heap.size]? = some (lyO r k c) from (hW.block w.heap.size (Array.getElem?_eq_some_iff.1 HL1.out).1).trans HL1.out)
  clear b1 HAW HB0 HL0 HT0 HS0
  go_wp2_with (fail)
  refine (disk_Of (fun i => w1.heap.size ≤ i) w1 q n (by have := HQ.out; have := HNN.out; omega) (by have := HQ.out; omega) (fun _ h => h)).mono ?_
  rintro e w2 ⟨D, rfl, _, h2, b2⟩
  have H2 := Lib.hid (show Zn w1 w2 D (freshSt n (bs q)) [] from Zn.of_at ⟨h2, b2⟩)
  clear h2 b2
  clear t1 t2
  go_wp2_with (fail)
  refine (disk_image _ _ D _ H2.out.disk).mono ?_
  rintro e w3 ⟨rfl, b3⟩
  have H3 := Lib.hid (H2.out.step b3)
  have d0 := ly0 (HC.out w3 H3.out.below)
  have d1 := ly1 (HC.out w3 H3.out.below)
  have d2 := ly2 (HC.out w3 H3.out.below)
  clear b3 H2
  obtain ⟨ws, hws⟩ : ∃ ws, ws = imgS n (bs q) := ⟨_, rfl⟩
  have HWS := Lib.hid hws
  rw [show imgS (freshSt n (bs q)).n (freshSt n (bs q)).safe = ws from hws.symm]
  clear hws
  go_wp2_with (fail)
  refine (HFM.out w3).mono ?_
  rintro e w4 ⟨rfl, b4⟩
  have H4 := Lib.hid (H3.out.step b4)
  clear b4 H3 d0 d1 d2 HFM
  go_wp2_with (fail)
  refine (HN2.out w4).mono ?_
  rintro e w5 ⟨rfl, b5⟩
  have H5 := Lib.hid (H4.out.step b5)
  have d0 := ly0 (HC.out w5 H5.out.below)
  have d1 := ly1 (HC.out w5 H5.out.below)
  have d2 := ly2 (HC.out w5 H5.out.below)
  clear b5 H4 HN2
  go_wp2_with (fail)
  rcases HN3.out with ⟨ho, hm⟩ | ⟨r', k', c', hr, hk, hc, hl, hm, hnd, hnd2⟩
  · refine (H5.out.sformat_cant (.inl ho) s).mono ?_
    rintro e w6 ⟨rfl, h6⟩
    have H6 := Lib.hid h6
    have e0 := ly0 (HC.out w6 h6.below)
    have e1 := ly1 (HC.out w6 h6.below)
    have e2 := ly2 (HC.out w6 h6.below)
    have m0 : (m == 0) = true := by rw [hm]; rfl
    clear h6 H5 d0 d1 d2 hm ho HN3
    go_wp2_with (fail)
    refine (HN1.out w6).mono ?_
    rintro e w7 ⟨rfl, b7⟩
    have H7 := Lib.hid (H6.out.step b7)
    have e0 := ly0 (HC.out w7 H7.out.below)
    have mm : (m != m) = false := bne_self_eq_false _
    clear b7 H6 HN1
    go_wp2_with (fail)
    have HLN := Lib.hid (fun i => disk_len _ (w7.drewN i) D _ (H7.out.disk.drewN i))
    have HSI := Lib.hid (fun W => ref6_size W s (by have := HSZ.out; omega))
    rw [show (freshSt n (bs q)).n = n from rfl] at HLN
    have HIM := Lib.hid (fun i => disk_image _ (w7.drewN i) D _ (H7.out.disk.drewN i))
    have HB7 := Lib.hid (fun (i : Nat) W (hW : Below (w7.drewN i).heap.size (w7.drewN i) W) => HB1.out.trans (((H7.out.drewN i).step hW).below.mono HB1.out.size))
    rw [show imgS (freshSt n (bs q)).n (freshSt n (bs q)).safe = ws from HWS.out.symm] at HIM
    have sa : (ws.toList == ws.toList) = true := beq_self_eq_true _
    generalize (szN s.size : Int) = szi at HSI
    go_quiet ((first | (go_at_call 13; exact quiet_here (HLN.out _)) | (go_at_call 14; exact quiet_here (HSI.out _))))
    go_wp2_with (fail)
    refine (HIM.out _).mono ?_
    rintro e w8 ⟨rfl, b8⟩
    have B8 := Lib.hid (HB7.out _ w8 b8)
    clear b8
    go_wp2_with (fail)
    refine bodyPost_ret (results_tmp rfl _ _ _) rfl ?_
    exact ⟨rfl, B8.out⟩
  by_cases hn : n < needN r' k' c'
  · refine (H5.out.sformat_cant (.inr ⟨r', k', c', hr, hk, hc, hl, hn⟩) s).mono ?_
    rintro e w6 ⟨rfl, h6⟩
    have H6 := Lib.hid h6
    have e0 := ly0 (HC.out w6 h6.below)
    have e1 := ly1 (HC.out w6 h6.below)
    have e2 := ly2 (HC.out w6 h6.below)
    have m0 : (m == 0) = false := beq_eq_false_iff_ne.2 (by omega)
    have m1' : (n : Int) < m := by omega
    have m1 : decide ((n : Int) < m) = true := decide_eq_true m1'
    clear h6 H5 d0 d1 d2 hm hl HN3 hnd hnd2 hn hr hk hc
    go_wp2_with (fail)
    refine (HN1.out w6).mono ?_
    rintro e w7 ⟨rfl, b7⟩
    have H7 := Lib.hid (H6.out.step b7)
    have e0 := ly0 (HC.out w7 H7.out.below)
    have mm : (m != m) = false := bne_self_eq_false _
    clear b7 H6 HN1
    go_wp2_with (fail)
    have HLN := Lib.hid (fun i => disk_len _ (w7.drewN i) D _ (H7.out.disk.drewN i))
    have HSI := Lib.hid (fun W => ref6_size W s (by have := HSZ.out; omega))
    rw [show (freshSt n (bs q)).n = n from rfl] at HLN
    have HIM := Lib.hid (fun i => disk_image _ (w7.drewN i) D _ (H7.out.disk.drewN i))
    have HB7 := Lib.hid (fun (i : Nat) W (hW : Below (w7.drewN i).heap.size (w7.drewN i) W) => HB1.out.trans (((H7.out.drewN i).step hW).below.mono HB1.out.size))
    rw [show imgS (freshSt n (bs q)).n (freshSt n (bs q)).safe = ws from HWS.out.symm] at HIM
    have sa : (ws.toList == ws.toList) = true := beq_self_eq_true _
    generalize (szN s.size : Int) = szi at HSI
    go_quiet ((first | (go_at_call 13; exact quiet_here (HLN.out _)) | (go_at_call 14; exact quiet_here (HSI.out _))))
    go_wp2_with (fail)
    refine (HIM.out _).mono ?_
    rintro e w8 ⟨rfl, b8⟩
    have B8 := Lib.hid (HB7.out _ w8 b8)
    clear b8
    go_wp2_with (fail)
    refine bodyPost_ret (results_tmp rfl _ _ _) rfl ?_
    exact ⟨rfl, B8.out⟩
  subst hr hk hc
  cases hf : fitB r' s with
  | false =>
    refine (H5.out.sformat_long hl (by show _ ≤ n; omega) s (by have := HSZ.out; unfold maxLen; omega) hf).mono ?_
    rintro e w6 ⟨rfl, h6⟩
    have H6 := Lib.hid h6
    have e0 := ly0 (HC.out w6 h6.below)
    have e1 := ly1 (HC.out w6 h6.below)
    have e2 := ly2 (HC.out w6 h6.below)
    have m0 : (m == 0) = false := beq_eq_false_iff_ne.2 (by omega)
    have m1' : ¬ (n : Int) < m := by omega
    have m1 : decide ((n : Int) < m) = false := decide_eq_false m1'
    have hr := hl.r128
    have f0 : ((r' / 2 : Nat) : Int) < (szN s.size : Int) := by
      have hq := HSZ.out
      have : ¬ szN s.size ≤ r' / 2 := fun h => by rw [fitB_true (by omega) h] at hf; cases hf
      omega
    have f1 : decide (((r' / 2 : Nat) : Int) < (szN s.size : Int)) = true := decide_eq_true f0
    have f2 : (r' : Int).tdiv 2 = ((r' / 2 : Nat) : Int) := by rw [Int.tdiv_eq_ediv_of_nonneg (by omega)]; omega
    have f3 : wrap64 ((r' / 2 : Nat) : Int) = ((r' / 2 : Nat) : Int) := IntWalk.wrap64_in _ (by omega)
    clear h6 H5 d0 d1 d2 hm hl HN3 hnd hnd2 hn hf hr
    generalize ((r' / 2 : Nat) : Int) = hf at f0 f1 f2 f3
    generalize (r' : Int) = r at f2 e0 HC HN1 HL1 ⊢
    go_wp2_with (fail)
    refine (HN1.out w6).mono ?_
    rintro e w7 ⟨rfl, b7⟩
    have H7 := Lib.hid (H6.out.step b7)
    have e0 := ly0 (HC.out w7 H7.out.below)
    have mm : (m != m) = false := bne_self_eq_false _
    clear b7 H6 HN1
    go_wp2_with (fail)
    have HLN := Lib.hid (fun i => disk_len _ (w7.drewN i) D _ (H7.out.disk.drewN i))
    have HSI := Lib.hid (fun W => ref6_size W s (by have := HSZ.out; omega))
    rw [show (freshSt n (bs q)).n = n from rfl] at HLN
    have HIM := Lib.hid (fun i => disk_image _ (w7.drewN i) D _ (H7.out.disk.drewN i))
    have HB7 := Lib.hid (fun (i : Nat) W (hW : Below (w7.drewN i).heap.size (w7.drewN i) W) => HB1.out.trans (((H7.out.drewN i).step hW).below.mono HB1.out.size))
    rw [show imgS (freshSt n (bs q)).n (freshSt n (bs q)).safe = ws from HWS.out.symm] at HIM
    have sa : (ws.toList == ws.toList) = true := beq_self_eq_true _
    generalize (szN s.size : Int) = szi at HSI f0 f1
    go_quiet ((first | (go_at_call 13; exact quiet_here (HLN.out _)) | (go_at_call 14; exact quiet_here (HSI.out _))))
    go_wp2_with (fail)
    refine (HIM.out _).mono ?_
    rintro e w8 ⟨rfl, b8⟩
    have B8 := Lib.hid (HB7.out _ w8 b8)
    clear b8
    go_wp2_with (fail)
    refine bodyPost_ret (results_tmp rfl _ _ _) rfl ?_
    exact ⟨rfl, B8.out⟩
  | true =>
    have hsz := (fitB_iff.1 hf).1
    have hp := (fitB_iff.1 hf).2
    have h2z := szN_two s.size
    have hr4 := hl.r4
    have hr128 := hl.r128
    have supz : szN (superB r' k' c').size = 2 := by rw [superB_size]; rfl
    have h2s : 2 + szN s.size ≤ needN r' k' c' := by omega
    have h64 : 32 * szN s.size ≤ 2000 := by have := HSZ.out; unfold szN; omega
    have h65 : (needN r' k' c' - 2 - szN s.size) * 32 ≤ 100000 := by omega
    have hWR := fmt_img (freshSt n (bs q)) rfl (needN r' k' c') r' n s (superB r' k' c') supz hr4 hp (by omega) (by omega)
    rw [show imgS n (freshSt n (bs q)).now = ws from HWS.out.symm] at hWR
    have hF := H5.out.sformat HT1.out rfl (St.Fz.of_none rfl) (Nat.zero_le _) (show 0 < 4611686018427000000 by decide) hl (show needN r' k' c' ≤ n by omega) s hsz hp
    have hfx : (freshSt n (bs q)).fuse = none := rfl
    refine hF.mono ?_
    clear hF d0 d1 d2 H5 HN3
    rintro e w6 (h6 | ⟨_, y, hy, _⟩)
    case inr => exact absurd hfx (FmtFell.fuse _ _ _ _ _ hy)
    obtain ⟨b, T, rfl, h6⟩ := h6
    have hfn : ((freshSt n (bs q)).fmt (needN r' k' c') r' s (superB r' k' c')).n = n := fmt_n _ _ _ _ _
    have hfl : ((freshSt n (bs q)).fmt (needN r' k' c') r' s (superB r' k' c')).loose = [] := rfl
    have hwz : ws.size = n * 32 := by rw [HWS.out, imgS_size]
    have H6 := Lib.hid h6
    clear h6
    generalize hX : (freshSt n (bs q)).fmt (needN r' k' c') r' s (superB r' k' c') = X at H6 hfn hfl hWR
    clear hX
    have hSU : ∀ W, Calls Tryz.prog 18 #[lyV r' k' c'] W fun e w' => e = .returned (.string (catB 1 (sealL (superB r' k' c')) 2)) ∧ Below W.heap.size W w' := fun W => ref10_super W r' k' c' hl
    have hBY : ∀ W, Calls Tryz.prog 15 #[.int .i64 1, .string s] W fun e w' => e = .returned (.tuple #[.string (catB 1 (sealL s) (szN s.size)), .bool true]) ∧ Below W.heap.size W w' := fun W => ref6_bytes W 1 s (by decide) (by decide) hsz
    have hFM := fun W => law_form W r' k' c'
    have hNL := fun W => store_format_nil W r' k' c' ⟨m, HN1.out⟩ s
    have hc1 : (catB 1 (sealL (superB r' k' c')) 2).size = 64 := catB_size _ _ _
    have hc2 : (catB 1 (sealL s) (szN s.size)).size = 32 * szN s.size := catB_size _ _ _
    have hc3 : (imgS (needN r' k' c' - 2 - szN s.size) fun _ => 0).size = (needN r' k' c' - 2 - szN s.size) * 32 := imgS_size _ _
    have hMK := fun W => run_make_row' (P := Tryz.prog) 40 5 (.int .u8 0) 1 Tryz.underlying40 infoU rfl .i64 .i64 ((needN r' k' c' - 2 - szN s.size) * 32) (by omega) (by omega) W
    have hCV := fun bb V hV => made_zeros7 (needN r' k' c' - 2 - szN s.size) bb V hV
    have hCT : ∀ J, J = ((needN r' k' c' * 32 : Nat) : Int) → ∀ W, (Instr.slice 9 (.string ws) (some (.int .i64 J)) none none).run Tryz.prog W = .ok (.string (ws.extract (needN r' k' c' * 32) ws.size)) W := fun J hJ W => cut_tail ws (needN r' k' c' * 32) J hJ (by rw [hwz]; omega) W
    have hc4 : (ws.extract (needN r' k' c' * 32) ws.size).size ≤ 2000 := by rw [ByteArray.size_extract, hwz]; have := HNN.out; have := HQ.out; omega
    have m0 : (m == 0) = false := beq_eq_false_iff_ne.2 (by omega)
    have m1' : ¬ (n : Int) < m := by omega
    have m1 : decide ((n : Int) < m) = false := decide_eq_false m1'
    have f0 : ¬ ((r' / 2 : Nat) : Int) < (szN s.size : Int) := by omega
    have f1 : decide (((r' / 2 : Nat) : Int) < (szN s.size : Int)) = false := decide_eq_false f0
    have f2 : (r' : Int).tdiv 2 = ((r' / 2 : Nat) : Int) := by rw [Int.tdiv_eq_ediv_of_nonneg (by omega)]; omega
    have f3 : wrap64 ((r' / 2 : Nat) : Int) = ((r' / 2 : Nat) : Int) := IntWalk.wrap64_in _ (by omega)
    have a0 : ((catB 1 (sealL s) (szN s.size)).size : Int) = ((32 * szN s.size : Nat) : Int) := by rw [hc2]
    have a1 : 32 * m = ((needN r' k' c' * 32 : Nat) : Int) := by omega
    have hAR := arith (needN r' k' c') (szN s.size) h2s hnd2
    have hBD := bounds (catB 1 (sealL (superB r' k' c')) 2) (catB 1 (sealL s) (szN s.size)) (imgS (needN r' k' c' - 2 - szN s.size) fun _ => 0) (ws.extract (needN r' k' c' * 32) ws.size) (by rw [hc1]; decide) (by rw [hc2]; exact h64) (by rw [hc3]; exact h65) hc4
    have HNS := Lib.hid hBD
    have HA := Lib.hid (And.intro a1 hAR)
    have HSU := Lib.hid hSU
    have HBY := Lib.hid hBY
    have HFM := Lib.hid hFM
    have HNL := Lib.hid hNL
    have HMK := Lib.hid hMK
    have HCV := Lib.hid hCV
    have HCT := Lib.hid hCT
    have HWR := Lib.hid hWR
    clear hSU hBY hFM hNL hMK hCV hCT hWR hBD hAR a1 hc1 hc2 hc3 hc4 h2s h64 h65 hm hnd hnd2 hn hf hsz hp h2z hr4 hr128 supz hl hwz hfx
    unfold lyV lyA at HSU HFM HNL
    generalize catB 1 (sealL (superB r' k' c')) 2 = cs at HSU HWR HNS
    generalize catB 1 (sealL s) (szN s.size) = cb at HBY HWR HNS a0
    generalize (imgS (needN r' k' c' - 2 - szN s.size) fun _ => 0) = zs at HCV HWR HNS
    generalize (needN r' k' c' - 2 - szN s.size) * 32 = NZ at HMK HCV HA
    generalize ws.extract (needN r' k' c' * 32) ws.size = pt at HCT HWR HNS
    generalize ((needN r' k' c' * 32 - 64 : Nat) : Int) = M2 at HA
    generalize ((needN r' k' c' * 32 : Nat) : Int) = M1 at HCT HA
    generalize ((32 * szN s.size : Nat) : Int) = cbz at HA a0
    generalize ((r' / 2 : Nat) : Int) = hf at f0 f1 f2 f3
    have e0 := ly0 (HC.out w6 H6.out.zn.below)
    have e1 := ly1 (HC.out w6 H6.out.zn.below)
    have e2 := ly2 (HC.out w6 H6.out.zn.below)
    go_wp2_with (fail)
    refine (HN1.out w6).mono ?_
    rintro e w7 ⟨rfl, b7⟩
    have H7 := Lib.hid (H6.out.step b7)
    clear b7 H6 e0 e1 e2
    have e0 := ly0 (HC.out w7 H7.out.zn.below)
    have mm : (m != m) = false := bne_self_eq_false _
    go_wp2_with (fail)
    have HLN := Lib.hid (fun i => disk_len _ (w7.drewN i) D _ (H7.out.zn.disk.drewN i))
    rw [hfn] at HLN
    have HSI := Lib.hid (fun W => ref6_size W s (by have := HSZ.out; omega))
    generalize (szN s.size : Int) = szi at HSI f0 f1
    go_quiet ((first | (go_at_call 13; exact quiet_here (HLN.out _)) | (go_at_call 14; exact quiet_here (HSI.out _))))
    have H8 := Lib.hid (H7.out.step (below_drewN (Below.refl _ _) nq))
    generalize w7.drewN nq = w8 at H8 ⊢
    clear H7 e0 mm HLN HSI f0 f1 f2 f3 m0 m1
    go_wp2_with (fail)
    refine (HBY.out _).mono ?_
    rintro e w9 ⟨rfl, b9⟩
    have H9 := Lib.hid (H8.out.step b9)
    clear b9 H8 HBY
    have hmk := HMK.out w9
    have hcv := HCV.out w9.heap.size (w9.alloc (.cells (madeCells #[.int .u8 0] NZ) 5)) (heap_alloc_new w9 _)
    obtain ⟨a1, a2, a3, a4, a5, a6, a7⟩ := HA.out
    have Ha := Lib.hid (H9.out.step ((Below.refl w9.heap.size w9).alloc (Nat.le_refl _) (.cells (madeCells #[.int .u8 0] NZ) 5)))
    have e0 := ly0 (HC.out _ Ha.out.zn.below)
    have e1 := ly1 (HC.out _ Ha.out.zn.below)
    have e2 := ly2 (HC.out _ Ha.out.zn.below)
    clear H9
    go_wp2_with (fail)
    refine (HNL.out _).mono ?_
    rintro e wb ⟨rfl, bb⟩
    have Hb := Lib.hid (Ha.out.step bb)
    clear bb Ha HNL e0 e1 e2 hmk hcv HMK HCV a3 a4 a5 a6
    have HTX := Lib.hid (fun (W : World) (hW : Below wb.heap.size wb W) => twin_text W T b.Zr 1 0 s false (Hb.out.step hW).stT)
    have HGN := Lib.hid (fun (W : World) (hW : Below wb.heap.size wb W) => twin_gen W T b.Zr 1 0 s false (Hb.out.step hW).stT)
    have HIM := Lib.hid (fun (W : World) (hW : Below wb.heap.size wb W) => show Calls Tryz.prog 8 #[.pointer (some ⟨D, 0, none⟩)] W fun e w' => e = .returned (.string (imgS n X.safe)) ∧ Below W.heap.size W w' from by
      have hq := disk_image _ W D X (Hb.out.step hW).zn.disk
      rw [hfn] at hq
      exact hq)
    have HLS := Lib.hid (fun (W : World) (hW : Below wb.heap.size wb W) => show Calls Tryz.prog 19 #[.pointer (some ⟨D, 0, none⟩)] W fun e w' => e = .returned (.int .i64 0) ∧ W = w' from by
      have hq := disk_loose _ W D X (Hb.out.step hW).zn.disk
      rw [hfl] at hq
      exact hq)
    have HK := Lib.hid (fun (W : World) (hW : Below wb.heap.size wb W) => show W.cell? ⟨w.heap.size, 0, none⟩ = some (.int .i64 (r' : Int)) ∧ W.cell? ⟨w.heap.size, 1, none⟩ = some (.int .i64 (k' : Int)) ∧ W.cell? ⟨w.heap.size, 2, none⟩ = some (.int .i64 (c' : Int)) ∧ W.cell? ⟨b.B, 0, none⟩ = some (.pointer (some ⟨T, 0, none⟩)) from by
      have hl := HC.out W (Hb.out.step hW).zn.below
      exact ⟨ly0 hl, ly1 hl, ly2 hl, st_c0 (Hb.out.step hW).stB⟩)
    have B0 := Lib.hid (show Below wb.heap.size wb wb.drew from below_drewN (Below.refl _ _) 1)
    have k0 := HK.out _ B0.out
    have sa : (s.toList == s.toList) = true := beq_self_eq_true _
    have sb : ((imgS n X.safe).toList == (cs ++ cb ++ zs ++ pt).toList) = true := by rw [HWR.out]; exact beq_self_eq_true _
    have ct := HCT.out M1 rfl
    have ct2 := HCT.out (wrap64 M1) a2
    have ct3 := HCT.out (IntKind.i64.wrap M1) a7
    have ct5 := HCT.out (IntKind.i64.wrap (32 * m)) (by rw [a1]; exact a7)
    have ct4 := HCT.out (wrap64 (32 * m)) (by rw [a1]; exact a2)
    obtain ⟨n1, n2, n2', n3, n3'⟩ := HNS.out
    generalize imgS n X.safe = out at HIM sb
    clear HWR HCT HNS hfn hfl
    go_wp2_with (fail)
    go_region_held3 (fun W : World => W.cell? ⟨w.heap.size, 0, none⟩ = some (.int .i64 (r' : Int)) ∧ W.cell? ⟨w.heap.size, 1, none⟩ = some (.int .i64 (k' : Int)) ∧ W.cell? ⟨w.heap.size, 2, none⟩ = some (.int .i64 (c' : Int)) ∧ W.cell? ⟨b.B, 0, none⟩ = some (.pointer (some ⟨T, 0, none⟩))) (first | exact k0 | assumption) (first
      | (go_at_call 16; (with_reducible refine (HTX.out _ B0.out).mono ?_); rintro e wc ⟨rfl, rfl⟩)
      | (go_at_call 17; (with_reducible refine (HGN.out _ B0.out).mono ?_); rintro e wc ⟨rfl, rfl⟩)
      | (go_at_call 8; (with_reducible refine (HIM.out _ B0.out).mono ?_); rintro e wd ⟨rfl, bd⟩; have Bd := Lib.hid (B0.out.trans (bd.mono B0.out.size)); have hsd := HK.out _ Bd.out; clear bd)
      | (go_at_call 10; (with_reducible refine (HFM.out _).mono ?_); rintro e we ⟨rfl, be⟩; have Be := Lib.hid (Bd.out.trans (be.mono Bd.out.size)); have hse := HK.out _ Be.out; clear be)
      | (go_at_call 18; (with_reducible refine (HSU.out _).mono ?_); rintro e wf ⟨rfl, bf⟩; have Bf := Lib.hid (Be.out.trans (bf.mono Be.out.size)); have hsf := HK.out _ Bf.out; clear bf)
      | (go_at_call 19; (with_reducible refine (HLS.out _ Bf.out).mono ?_); rintro e wg ⟨rfl, rfl⟩))
    go_wp2_with (fail)
    refine bodyPost_ret (results_tmp rfl _ _ _) rfl ?_
    exact ⟨rfl, HB1.out.trans (((Hb.out.step Bf.out).zn.below).mono HB1.out.size)⟩
end storeFormats
end Go.Proofs.YtnmgkkjnjllpbaaGreatDoor
