/-
  StoreCut: when the power goes in a format of a new disk, whatever is kept, nothing is opened, or all was formatted. The walk. Condition: both tables of sums lie as the program's text lays them.
-/
import Derived.Test.YtnmgkkjnjllpbaaGreatDoorMg18
import Derived.Test.YtnmgkkjnjllpbaaGreatDoorMg19
import Derived.Test.YtnmgkkjnjllpbaaGreatDoorMg22
import Derived.Test.YtnmgkkjnjllpbaaGreatDoorMg2
set_option maxRecDepth 100000
namespace Go.Proofs.YtnmgkkjnjllpbaaGreatDoor
open Go.ChangeShapes Go.WideShapes Go.ChangeAt Go.RowKit Pn Dk Sl Ly Tw

namespace storeCut
def sup : ByteArray := superB (6 : Nat) (30 : Nat) (2 : Nat)
theorem ok : LyOk 6 30 2 := ⟨by decide, by decide, by decide, by decide, by decide, by decide, by decide⟩
theorem need : needN 6 30 2 = 20 := by decide
theorem supz : szN sup.size = 2 := by unfold sup; rw [superB_size]; rfl
theorem sups : sup.size ≤ 1024 := by unfold sup; rw [superB_size]; decide
def f0 (n : Nat) (kl : List Bool) : Dk.St := { freshSt 20 (fun _ => 0) with fuse := some (n, kl) }
theorem f0_n (n : Nat) (kl : List Bool) : (f0 n kl).n = 20 := rfl
theorem come_n (x : Dk.St) : x.come.n = x.n := rfl
theorem come_away (x : Dk.St) : x.come.away = false := rfl
theorem fall_n (x : Dk.St) (kl : List Bool) : (x.fall kl).n = x.n := rfl
theorem u64_rem (x : Int) : ∃ i : Nat, i < 12 ∧ (IntKind.u64.wrap x).tmod 12 = (i : Int) := by
  have h0 : 0 ≤ IntKind.u64.wrap x := by
    simp [IntKind.wrap, IntKind.bits, IntKind.signed]
    omega
  rw [Int.tmod_eq_emod_of_nonneg h0]
  exact ⟨(IntKind.u64.wrap x % 12).toNat, by omega, by omega⟩
set_option maxRecDepth 100000 in
set_option maxHeartbeats 6400000 in
theorem walk (w : World) (s : ByteArray) (hsm : s.size ≤ maxLen) (fz : Int) (K : Option Addr) (klen kcap : Nat) (Y : Nat → Bool) (hkc : klen ≤ kcap) (hkm : kcap ≤ maxLen) (hY : 0 < klen → ∃ pb po, K = some ⟨pb, po, none⟩ ∧ ∀ k, k < klen → w.cell? ⟨pb, po + k, none⟩ = some (.bool (Y k))) (hT : Tabs w) :
    Calls Tryz.prog 5 #[.string s, .int .i64 fz, .slice K klen kcap] w fun e w' => e = .returned (.bool true) ∧ Below w.heap.size w w' := by
  have HAW := Lib.hid (awake10 w hT)
  unfold maxLen at hsm hkm
  have bs : (s.size : Int) ≤ 9223372036854775807 := by omega
  have bk : (klen : Int) ≤ 9223372036854775807 := by omega
  by_cases c1 : 20 < s.size
  · have t1' : (20 : Int) < (s.size : Int) := by omega
    have t1 : decide ((20 : Int) < (s.size : Int)) = true := decide_eq_true t1'
    clear hT hY
    go_enter Tryz.func5, Tryz.ntmps5
    go_wp2_with (fail)
    refine HAW.out.mono ?_
    rintro e w1 ⟨rfl, b1⟩
    have B1 := Lib.hid b1
    clear b1
    go_wp2_with (fail)
    exact bodyPost_ret (results_tmp rfl _ _ _) rfl ⟨rfl, B1.out⟩
  have t1' : ¬ (20 : Int) < (s.size : Int) := by omega
  have t1 : decide ((20 : Int) < (s.size : Int)) = false := decide_eq_false t1'
  by_cases c2 : 100 < klen
  · have t2' : (100 : Int) < (klen : Int) := by omega
    have t2 : decide ((100 : Int) < (klen : Int)) = true := decide_eq_true t2'
    clear hT hY
    go_enter Tryz.func5, Tryz.ntmps5
    go_wp2_with (fail)
    refine HAW.out.mono ?_
    rintro e w1 ⟨rfl, b1⟩
    have B1 := Lib.hid b1
    clear b1
    go_wp2_with (fail)
    exact bodyPost_ret (results_tmp rfl _ _ _) rfl ⟨rfl, B1.out⟩
  have t2' : ¬ (100 : Int) < (klen : Int) := by omega
  have t2 : decide ((100 : Int) < (klen : Int)) = false := decide_eq_false t2'
  obtain ⟨n, hn, hx⟩ := u64_rem fz
  have n0 : 0 ≤ (n : Int) := by omega
  have n12 : (n : Int) < 12 := by omega
  have HT := Lib.hid hT
  have HBS := Lib.hid (bools_at w K klen kcap Y hkc hY)
  have HKL := Lib.hid (show ((List.range klen).map Y).length ≤ 1099511627776 by rw [List.length_map, List.length_range]; omega)
  have HS := Lib.hid (show s.size ≤ 20 by omega)
  have HN := Lib.hid hn
  generalize (List.range klen).map Y = kl at HBS HKL
  clear hT hY c1 c2 hkc hkm hn hsm
  have HND := Lib.hid (fun W => show Calls Tryz.prog 12 #[.agg #[.int .i64 6, .int .i64 30, .int .i64 2]] W fun e w' => e = .returned (.int .i64 20) ∧ Below W.heap.size W w' from by
    have hq := store_need W 6 30 2 ok
    rw [need] at hq
    exact hq)
  go_enter Tryz.func5, Tryz.ntmps5
  go_wp2_with (fail)
  refine HAW.out.mono ?_
  rintro e w1 ⟨rfl, b1⟩
  have B1 := Lib.hid b1
  have HB2 := Lib.hid (b1.alloc b1.size (.cells #[.int .i64 6, .int .i64 30, .int .i64 2] 23))
  have HL := Lib.hid (show (w1.alloc (.cells #[.int .i64 6, .int .i64 30, .int .i64 2] 23)).heap[w1.heap.size]? = some (lyO 6 30 2) from heap_alloc_new w1 _)
  clear b1 HAW
  go_wp2_with (fail)
  refine (HND.out _).mono ?_
  rintro e w2 ⟨rfl, b2⟩
  have HB3 := Lib.hid (HB2.out.trans (b2.mono HB2.out.size))
  have HL3 := Lib.hid ((b2.block w1.heap.size (by simp)).trans HL.out)
  have HT3 := Lib.hid (HT.out.below HB3.out)
  clear b2 HB2 HL HND
  go_wp2_with (fail)
  refine (at_new w2 w2 (Below.refl _ _) 20 20 (by omega)).mono ?_
  rintro e w3 ⟨D, rfl, h3⟩
  have H3 := Lib.hid (show Zn w2 w3 D (freshSt 20 fun _ => 0) [] from Zn.of_at h3)
  clear h3
  go_wp2_with (fail)
  refine (H3.out.fuse rfl n (by have := HN.out; omega) (.slice K klen kcap) kl HKL.out (fun W hW => HBS.out W fun j hj => (hW j (Nat.lt_of_lt_of_le hj HB3.out.size)).trans (HB3.out.block j hj))).mono ?_
  rintro e w4 ⟨rfl, h4⟩
  have H4 := Lib.hid (show Zn w2 w4 D (f0 n kl) [] from h4)
  have HC := Lib.hid (fun (W : World) (hW : Below w2.heap.size w2 W) => show W.heap[w1.heap.size]? = some (lyO 6 30 2) from (hW.block w1.heap.size (Array.getElem?_eq_some_iff.1 HL3.out).1).trans HL3.out)
  have d0 := ly0 (HC.out w4 h4.below)
  have d1 := ly1 (HC.out w4 h4.below)
  have d2 := ly2 (HC.out w4 h4.below)
  clear h4 H3
  go_wp2_with (fail)
  have hF := H4.out.sformat HT3.out rfl (fun l kl' e => by injection e with e; injection e with _ e; rw [← e]; exact HKL.out) (Nat.zero_le _) (show 0 < 4611686018427000000 by decide) ok (by rw [need]; exact Nat.le_refl 20) s (by have := HS.out; omega) (by have := HS.out; unfold szN; omega)
  rw [need] at hF
  refine hF.mono ?_
  clear hF d0 d1 d2 H4
  rintro e w5 (h5 | ⟨rfl, y, hy, h5⟩)
  · obtain ⟨b, T, rfl, h5⟩ := h5
    have H5 := Lib.hid (show Ly.Stands w2 w5 D ((f0 n kl).fmt 20 6 s sup) [] b T 6 30 2 s 1 0 from h5)
    have c0 := st_c0 h5.stB
    have HTX := Lib.hid (twin_text w5 T b.Zr 1 0 s false h5.stT)
    have HIO := Lib.hid (h5.zn.isOn (fmt_away _ _ _ _ _))
    have sa : (s.toList != s.toList) = false := bne_self_eq_false _
    clear h5
    go_wp2_with (fail)
    refine HTX.out.mono ?_
    rintro e w6 ⟨rfl, rfl⟩
    go_wp2_with (fail)
    refine HIO.out.mono ?_
    rintro e w6 ⟨rfl, rfl⟩
    go_wp2_with (fail)
    clear HTX HIO c0 sa
    refine (H5.out.zn.cut (fmt_away _ _ _ _ _) (Nat.zero_le _) (.slice none 0 0) [] (by decide) (fun W _ => .inl ⟨rfl, none, 0, rfl⟩)).mono ?_
    rintro e w6 ⟨rfl, h6⟩
    have H6 := Lib.hid h6
    clear h6 H5
    go_wp2_with (fail)
    refine H6.out.come.mono ?_
    rintro e w7 ⟨rfl, h7⟩
    have H7 := Lib.hid h7
    clear h7 H6
    go_wp2_with (fail)
    have hr := fmt_rests (x := f0 n kl) rfl 20 6 s sup supz sups (by decide) (by have := HS.out; omega) (by have := HS.out; unfold szN; omega) []
    have hn20 : (((f0 n kl).fmt 20 6 s sup).fall []).come.n = 20 := (come_n _).trans ((fall_n _ _).trans ((fmt_n (f0 n kl) 20 6 s sup).trans (f0_n n kl)))
    have hac := hr.2.opens (by decide)
    have hg := hr.1
    have hza : (((f0 n kl).fmt 20 6 s sup).fall []).come.away = false := come_away _
    generalize (((f0 n kl).fmt 20 6 s sup).fall []).come = z at H7 hn20 hac hg hza
    have hle : needN 6 30 2 ≤ z.n := by rw [need, hn20]; exact Nat.le_refl 20
    refine (H7.out.sopen HT3.out hza ok hle hg hac (by decide)).mono ?_
    clear hac hg hle hza hn20
    rintro e w8 ⟨b', T', rfl, h8⟩
    have H8 := Lib.hid h8
    have c0 := st_c0 h8.stB
    clear h8 H7 hr
    have HE := run_eqIn_ly 6 30 2
    unfold lyA at HE
    have sa : (s.toList == s.toList) = true := beq_self_eq_true _
    have HTX := Lib.hid (fun (W : World) (hW : Below w8.heap.size w8 W) => twin_text W T' b'.Zr 1 0 s false (H8.out.step hW).stT)
    have HGN := Lib.hid (fun (W : World) (hW : Below w8.heap.size w8 W) => twin_gen W T' b'.Zr 1 0 s false (H8.out.step hW).stT)
    have HLY := Lib.hid (fun (W : World) (hW : Below w8.heap.size w8 W) => store_layout W b'.B T' 6 30 2 _ _ (H8.out.step hW).stB)
    unfold lyV lyA at HLY
    have HK := Lib.hid (fun (W : World) (hW : Below w8.heap.size w8 W) => show W.cell? ⟨w1.heap.size, 0, none⟩ = some (.int .i64 6) ∧ W.cell? ⟨w1.heap.size, 1, none⟩ = some (.int .i64 30) ∧ W.cell? ⟨w1.heap.size, 2, none⟩ = some (.int .i64 2) ∧ W.cell? ⟨b'.B, 0, none⟩ = some (.pointer (some ⟨T', 0, none⟩)) from by
      have hl := HC.out W (H8.out.step hW).zn.below
      exact ⟨ly0 hl, ly1 hl, ly2 hl, st_c0 (H8.out.step hW).stB⟩)
    have B8 := Lib.hid (show Below w8.heap.size w8 w8.drew from below_drewN (Below.refl _ _) 1)
    have k0 := HK.out _ B8.out
    go_wp2_with (fail)
    go_region_held3 (fun W : World => W.cell? ⟨w1.heap.size, 0, none⟩ = some (.int .i64 6) ∧ W.cell? ⟨w1.heap.size, 1, none⟩ = some (.int .i64 30) ∧ W.cell? ⟨w1.heap.size, 2, none⟩ = some (.int .i64 2) ∧ W.cell? ⟨b'.B, 0, none⟩ = some (.pointer (some ⟨T', 0, none⟩))) (first | exact k0 | assumption) (first
      | (go_at_call 16; (with_reducible refine (HTX.out _ B8.out).mono ?_); rintro e w9 ⟨rfl, rfl⟩)
      | (go_at_call 26; (with_reducible refine (HLY.out _ B8.out).mono ?_); rintro e w9 ⟨rfl, b9⟩; have B9 := Lib.hid (B8.out.trans (b9.mono B8.out.size)); have hs9 := HK.out _ B9.out; clear b9)
      | (go_at_call 17; (with_reducible refine (HGN.out _ B9.out).mono ?_); rintro e wa ⟨rfl, rfl⟩))
    go_wp2_with (fail)
    refine bodyPost_ret (results_tmp rfl _ _ _) rfl ?_
    exact ⟨rfl, HB3.out.trans (((H8.out.step B9.out).zn.below).mono HB3.out.size)⟩
  · have H5 := Lib.hid h5
    have hfo := fell_opens (x := f0 n kl) rfl rfl (fun _ => rfl) supz sups (by decide) (by have := HS.out; omega) (by have := HS.out; unfold szN; omega) hy
    have HFO := Lib.hid hfo
    clear h5 hy hfo
    go_wp2_with (fail)
    refine (disk_cut_away _ w5 D y H5.out.disk HFO.out.1 _).mono ?_
    rintro e w6 ⟨rfl, rfl⟩
    go_wp2_with (fail)
    refine H5.out.come.mono ?_
    rintro e w7 ⟨rfl, h7⟩
    have H7 := Lib.hid h7
    clear h7 H5
    go_wp2_with (fail)
    have hn20 : y.come.n = 20 := (come_n y).trans (HFO.out.2.1.trans (f0_n n kl))
    have hza : y.come.away = false := come_away y
    have hor := HFO.out.2.2.2
    clear HFO
    generalize y.come = z at H7 hn20 hza hor
    rcases hor with hg | ⟨hg, hr⟩
    · have h2 : 2 ≤ z.n := by omega
      refine (H7.out.sopen_none HT3.out hza h2 hg).mono ?_
      rintro e w8 ⟨rfl, h8⟩
      have H8 := Lib.hid h8
      clear h8 H7
      go_wp2_with (fail)
      refine bodyPost_ret (results_tmp rfl _ _ _) rfl ?_
      exact ⟨rfl, HB3.out.trans (H8.out.below.mono HB3.out.size)⟩
    · have hac := hr.opens (by decide)
      have hle : needN 6 30 2 ≤ z.n := by rw [need, hn20]; exact Nat.le_refl 20
      refine (H7.out.sopen HT3.out hza ok hle hg hac (by decide)).mono ?_
      clear hac hle
      rintro e w8 ⟨b', T', rfl, h8⟩
      have H8 := Lib.hid h8
      have c0 := st_c0 h8.stB
      clear h8 H7 hr hg
      have HE := run_eqIn_ly 6 30 2
      unfold lyA at HE
      have sa : (s.toList == s.toList) = true := beq_self_eq_true _
      have HTX := Lib.hid (fun (W : World) (hW : Below w8.heap.size w8 W) => twin_text W T' b'.Zr 1 0 s false (H8.out.step hW).stT)
      have HGN := Lib.hid (fun (W : World) (hW : Below w8.heap.size w8 W) => twin_gen W T' b'.Zr 1 0 s false (H8.out.step hW).stT)
      have HLY := Lib.hid (fun (W : World) (hW : Below w8.heap.size w8 W) => store_layout W b'.B T' 6 30 2 _ _ (H8.out.step hW).stB)
      unfold lyV lyA at HLY
      have HK := Lib.hid (fun (W : World) (hW : Below w8.heap.size w8 W) => show W.cell? ⟨w1.heap.size, 0, none⟩ = some (.int .i64 6) ∧ W.cell? ⟨w1.heap.size, 1, none⟩ = some (.int .i64 30) ∧ W.cell? ⟨w1.heap.size, 2, none⟩ = some (.int .i64 2) ∧ W.cell? ⟨b'.B, 0, none⟩ = some (.pointer (some ⟨T', 0, none⟩)) from by
        have hl := HC.out W (H8.out.step hW).zn.below
        exact ⟨ly0 hl, ly1 hl, ly2 hl, st_c0 (H8.out.step hW).stB⟩)
      have B8 := Lib.hid (show Below w8.heap.size w8 w8.drew from below_drewN (Below.refl _ _) 1)
      have k0 := HK.out _ B8.out
      go_wp2_with (fail)
      go_region_held3 (fun W : World => W.cell? ⟨w1.heap.size, 0, none⟩ = some (.int .i64 6) ∧ W.cell? ⟨w1.heap.size, 1, none⟩ = some (.int .i64 30) ∧ W.cell? ⟨w1.heap.size, 2, none⟩ = some (.int .i64 2) ∧ W.cell? ⟨b'.B, 0, none⟩ = some (.pointer (some ⟨T', 0, none⟩))) (first | exact k0 | assumption) (first
        | (go_at_call 16; (with_reducible refine (HTX.out _ B8.out).mono ?_); rintro e w9 ⟨rfl, rfl⟩)
        | (go_at_call 26; (with_reducible refine (HLY.out _ B8.out).mono ?_); rintro e w9 ⟨rfl, b9⟩; have B9 := Lib.hid (B8.out.trans (b9.mono B8.out.size)); have hs9 := HK.out _ B9.out; clear b9)
        | (go_at_call 17; (with_reducible refine (HGN.out _ B9.out).mono ?_); rintro e wa ⟨rfl, rfl⟩))
      go_wp2_with (fail)
      refine bodyPost_ret (results_tmp rfl _ _ _) rfl ?_
      exact ⟨rfl, HB3.out.trans (((H8.out.step B9.out).zn.below).mono HB3.out.size)⟩
end storeCut
end Go.Proofs.YtnmgkkjnjllpbaaGreatDoor
