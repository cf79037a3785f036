/-
  Package store: Open, where the power is there: a superblock of a layout that fits, and a record; no superblock. Conditions: both tables of sums lie as the program's text lays them.
-/
import Derived.Test.YtnmgkkjnjllpbaaGreatDoorMg14
set_option maxRecDepth 100000
namespace Go.Proofs.YtnmgkkjnjllpbaaGreatDoor
open Go.ChangeShapes Go.WideShapes Go.ChangeAt Go.RowKit Pn Dk Sl Ly Tw

namespace Zn
variable {w0 w w' : World} {D : Nat} {x : Dk.St} {fs : List (Nat × Obj)}
theorem isOn (h : Zn w0 w D x fs) (ha : x.away = false) : Calls Tryz.prog 29 #[.pointer (some ⟨D, 0, none⟩)] w fun e w' => e = .returned (.bool true) ∧ w = w' := by
  have hr := disk_isOn _ w D x h.disk
  rw [ha] at hr
  exact hr
set_option maxRecDepth 100000 in
set_option maxHeartbeats 6400000 in
theorem sopen_none (h : Zn w0 w D x fs) (hT : Tabs w0) (ha : x.away = false) (hn : 2 ≤ x.n) (hg : getR (rdZ x 0) 2 0 = (⟨#[]⟩, 0, 5)) :
    Calls Tryz.prog 25 #[.pointer (some ⟨D, 0, none⟩)] w fun e w' => e = .returned (.tuple #[.pointer none, .int .i64 5]) ∧ Zn w0 w' D x fs := by
  have HZ := Lib.hid (h.news 0 2 (by decide) (by omega))
  have HI := Lib.hid (fun (W : World) (gs : List (Nat × Obj)) (hW : Zn w0 W D x gs) => hW.isOn ha)
  have HL := Lib.hid (fun (W : World) (gs : List (Nat × Obj)) (H : Nat) (hH : (H, zobj D 0 2) ∈ gs) (hW : Zn w0 W D x gs) => store_layoutOf_none W H (fun V hV => by
    have hq := seal_get V H 2 (rdZ x 0) ((hW.step hV).reads hH ha (by omega)) ((hW.step hV).tabs hT) (by decide) 0 (by decide)
    rw [hg] at hq
    exact hq))
  have HN := Lib.hid (fun W => store_need_not W 0 0 0 rfl)
  have HZ2 := Lib.hid (fun (W : World) (gs : List (Nat × Obj)) (hW : Zn w0 W D x gs) => zone_new_not _ W D x hW.disk 0 0 (by decide) (by unfold withinB; simp))
  clear h hT ha hn hg
  unfold lyV lyA at HL HN
  go_enter Tryz.func25, Tryz.ntmps25
  go_wp2_with (fail)
  refine HZ.out.mono ?_
  rintro e w1 ⟨H, rfl, h1⟩
  have H1 := Lib.hid h1
  clear h1 HZ
  go_wp2_with (fail)
  refine (HI.out w1 _ H1.out).mono ?_
  rintro e w2 ⟨rfl, rfl⟩
  go_wp2_with (fail)
  refine (HL.out w1 _ H (by simp) H1.out).mono ?_
  rintro e w2 ⟨rfl, b2⟩
  have H2 := Lib.hid ((H1.out.step b2).less (gs := fs) (fun z hz => List.mem_cons_of_mem _ hz))
  clear b2 H1 HL
  go_wp2_with (fail)
  have H3 := Lib.hid (H2.out.step ((Below.refl w2.heap.size w2).alloc (Nat.le_refl _) (lyO 0 0 0)))
  refine (HN.out _).mono ?_
  rintro e w3 ⟨rfl, b3⟩
  have H4 := Lib.hid (H3.out.step b3)
  clear b3 H3 H2 HN
  go_wp2_with (fail)
  refine (HZ2.out w3 _ H4.out).mono ?_
  rintro e w4 ⟨rfl, rfl⟩
  go_wp2_with (fail)
  refine bodyPost_ret (results_tmp2 rfl _ _ _) rfl ?_
  exact ⟨rfl, H4.out⟩
set_option maxRecDepth 100000 in
set_option maxHeartbeats 6400000 in
theorem sopen (h : Zn w0 w D x fs) (hT : Tabs w0) (ha : x.away = false) {r k c : Nat} (hl : LyOk r k c) (hn : needN r k c ≤ x.n) (hg : getR (rdZ x 0) 2 0 = (superB r k c, 1, 0)) {s : ByteArray} {g side : Nat} (hac : acc x 2 r 2 = (s, g, side)) (hg1 : 1 ≤ g) :
    Calls Tryz.prog 25 #[.pointer (some ⟨D, 0, none⟩)] w fun e w' => ∃ (b : Bl) (T : Nat), e = .returned (.tuple #[.pointer (some ⟨b.B, 0, none⟩), .int .i64 0]) ∧ Stands w0 w' D x fs b T r k c s g side := by
  have hnb : x.n ≤ 4096 := by obtain ⟨_, _, _, _, _, _, h⟩ := h.disk; exact h.nb
  have h1 : 2 + r ≤ needN r k c := by unfold needN fromN; omega
  have hr4 := hl.r4
  have HZ := Lib.hid (h.news 0 2 (by decide) (by omega))
  have HI := Lib.hid (fun (W : World) (gs : List (Nat × Obj)) (hW : Zn w0 W D x gs) => hW.isOn ha)
  have HL := Lib.hid (fun (W : World) (gs : List (Nat × Obj)) (H : Nat) (hH : (H, zobj D 0 2) ∈ gs) (hW : Zn w0 W D x gs) => store_layoutOf W H r k c hl (fun V hV => by
    have hq := seal_get V H 2 (rdZ x 0) ((hW.step hV).reads hH ha (by omega)) ((hW.step hV).tabs hT) (by decide) 0 (by decide)
    rw [hg] at hq
    exact hq))
  have HM := Lib.hid (fun W => store_need W r k c hl)
  have HZ2 := Lib.hid (fun (W : World) (gs : List (Nat × Obj)) (hW : Zn w0 W D x gs) => hW.news 0 (needN r k c) (by omega) (by omega))
  have HRC := Lib.hid (fun (W : World) (gs : List (Nat × Obj)) (A : Nat) (hA : (A, zobj D 0 (needN r k c)) ∈ gs) (hW : Zn w0 W D x gs) => hW.recordOf hA hn hl h1)
  have HTO := Lib.hid (fun (W : World) (gs : List (Nat × Obj)) (Z : Nat) (hZ : (Z, zobj D 2 r) ∈ gs) (hW : Zn w0 W D x gs) => hW.open_ hZ hT ha (by omega) (canB_of hl))
  rw [hac] at HTO
  have HMD := Lib.hid (fun (W : World) (gs : List (Nat × Obj)) (A T : Nat) (hA : (A, zobj D 0 (needN r k c)) ∈ gs) (hW : Zn w0 W D x gs) => hW.made (T := T) hA hn hl (Nat.le_refl _))
  have HG1 := Lib.hid hg1
  clear h hT ha hn hg hac hg1 hnb h1 hr4 hl
  unfold lyV lyA at HL HM HRC HMD
  generalize needN r k c = nd at HM HZ2 HRC HMD
  go_enter Tryz.func25, Tryz.ntmps25
  go_wp2_with (fail)
  refine HZ.out.mono ?_
  rintro e w1 ⟨H, rfl, h1⟩
  have H1 := Lib.hid h1
  clear h1 HZ
  go_wp2_with (fail)
  refine (HI.out w1 _ H1.out).mono ?_
  rintro e w2 ⟨rfl, rfl⟩
  go_wp2_with (fail)
  refine (HL.out w1 _ H (by simp) H1.out).mono ?_
  rintro e w2 ⟨rfl, b2⟩
  have H2 := Lib.hid (H1.out.step b2)
  clear b2 H1 HL
  go_wp2_with (fail)
  have H3 := Lib.hid (H2.out.add ((Below.refl w2.heap.size w2).alloc (Nat.le_refl _) (lyO r k c)) (Nat.le_refl _) (heap_alloc_new w2 (lyO r k c)))
  refine (HM.out _).mono ?_
  rintro e w3 ⟨rfl, b3⟩
  have H4 := Lib.hid (H3.out.step b3)
  clear b3 H3 H2 HM
  go_wp2_with (fail)
  refine (HZ2.out w3 _ H4.out).mono ?_
  rintro e w4 ⟨A, rfl, h4⟩
  have H5 := Lib.hid h4
  have d0 := ly0 (h4.fix (w2.heap.size, lyO r k c) (by simp))
  have d1 := ly1 (h4.fix (w2.heap.size, lyO r k c) (by simp))
  have d2 := ly2 (h4.fix (w2.heap.size, lyO r k c) (by simp))
  clear h4 H4 HZ2
  go_wp2_with (fail)
  refine (HRC.out w4 _ A (by simp) H5.out).mono ?_
  rintro e w5 ⟨Zr, rfl, g5, h5⟩
  have H6 := Lib.hid h5
  clear h5 H5 HRC g5 d0 d1 d2
  go_wp2_with (fail)
  refine (HTO.out w5 _ Zr (by simp) H6.out).mono ?_
  rintro e w6 (⟨h0, _⟩ | ⟨T, _, rfl, g1, g2, h6⟩)
  · exact absurd h0 (by show ¬ g = 0; have := HG1.out; omega)
  have H7 := Lib.hid (show Zn w0 w6 D x ((T, tobj Zr s g side false) :: (Zr, zobj D 2 r) :: (A, zobj D 0 nd) :: (w2.heap.size, lyO r k c) :: (H, zobj D 0 2) :: fs) from h6)
  have HG := Lib.hid (And.intro g1 g2)
  have d0 := ly0 (h6.fix (w2.heap.size, lyO r k c) (by simp))
  have d1 := ly1 (h6.fix (w2.heap.size, lyO r k c) (by simp))
  have d2 := ly2 (h6.fix (w2.heap.size, lyO r k c) (by simp))
  clear h6 g1 g2 H6 HTO
  go_wp2_with (fail)
  refine (HMD.out w6 _ A T (by simp) H7.out).mono ?_
  rintro e wa ⟨B, S0, Z0, S1, Z1, rfl, ⟨n1, n2, n3, n4, n5⟩, ha⟩
  have HN := Lib.hid (And.intro n1 (And.intro n2 (And.intro n3 (And.intro n4 n5))))
  have HA := Lib.hid ha
  clear ha n1 n2 n3 n4 n5 HMD d0 d1 d2
  go_wp2_with (fail)
  refine bodyPost_ret (results_tmp2 rfl _ _ _) rfl ?_
  refine ⟨⟨B, S0, Z0, S1, Z1, Zr⟩, T, rfl, HA.out.less fun z hz => ?_, HG.out.1, fun z hz => ?_⟩
  · simp only [Bl.list, List.cons_append, List.nil_append, List.mem_cons] at hz ⊢
    rcases hz with h | h | h | h | h | h | h | h <;> simp [h]
  · have hTl := (Array.getElem?_eq_some_iff.1 (H7.out.fix (T, _) (List.mem_cons_self ..))).1
    obtain ⟨n1, n2, n3, n4, n5⟩ := HN.out
    simp only at hTl
    simp only [Bl.list, List.cons_append, List.nil_append, List.mem_cons] at hz
    rcases hz with rfl | rfl | rfl | rfl | rfl | rfl | hz
    · show B ≠ T; omega
    · show S0 ≠ T; omega
    · show Z0 ≠ T; omega
    · show S1 ≠ T; omega
    · show Z1 ≠ T; omega
    · exact HG.out.2 (Zr, _) (List.mem_cons_self ..)
    · exact HG.out.2 z (by simp [hz])
end Zn
end Go.Proofs.YtnmgkkjnjllpbaaGreatDoor
