/-
  Package store: Format, over any fuse. Conditions: the power is there ahead of it; few writes; both tables of sums lie as the program's text lays them.
-/
import Derived.Test.YtnmgkkjnjllpbaaGreatDoorMg13
import Derived.Test.YtnmgkkjnjllpbaaGreatDoorMg10
set_option maxRecDepth 100000
namespace Go.Proofs.YtnmgkkjnjllpbaaGreatDoor
open Go.ChangeShapes Go.WideShapes Go.ChangeAt Go.RowKit Pn Dk Sl Ly Tw

namespace Dk
/-- A disk that is laid out; the power went in that. -/
def St.fmt0 (x : St) (need r : Nat) : St := (x.filled 0 (fun _ => 0) need).filled 2 (fun _ => 0) r
def St.fmt1 (x : St) (need r : Nat) (s : ByteArray) : St := (x.fmt0 need r).placed 2 1 s
def St.fmt (x : St) (need r : Nat) (s sup : ByteArray) : St := (x.fmt1 need r s).placed 0 1 sup
def St.FmtFell (x : St) (need r : Nat) (s sup : ByteArray) (y : St) : Prop :=
  x.FillFell 0 need y ∨ (x.filled 0 (fun _ => 0) need).FillFell 2 r y ∨ (x.fmt0 need r).PlaceFell 2 1 s y ∨ (x.fmt1 need r s).PlaceFell 0 1 sup y
section
variable (x : St) (need r : Nat) (s sup : ByteArray)
theorem fmt_n : (x.fmt need r s sup).n = x.n := (placed_n _ _ _ _).trans ((placed_n _ _ _ _).trans ((filled_n _ _ _ _).trans (filled_n _ _ _ _)))
theorem fmt1_n : (x.fmt1 need r s).n = x.n := (placed_n _ _ _ _).trans ((filled_n _ _ _ _).trans (filled_n _ _ _ _))
theorem fmt_away : (x.fmt need r s sup).away = x.away := (placed_away _ _ _ _).trans ((placed_away _ _ _ _).trans ((filled_away _ _ _ _).trans (filled_away _ _ _ _)))
theorem fmt1_away : (x.fmt1 need r s).away = x.away := (placed_away _ _ _ _).trans ((filled_away _ _ _ _).trans (filled_away _ _ _ _))
theorem fmt1_Fz (h : x.Fz) : (x.fmt1 need r s).Fz := placed_Fz _ _ _ _ ((h.filled _ _ _).filled _ _ _)
theorem fmt_Fz (h : x.Fz) : (x.fmt need r s sup).Fz := placed_Fz _ _ _ _ (fmt1_Fz x need r s h)
theorem fmt1_fuse (h : x.fuse = none) : (x.fmt1 need r s).fuse = none := placed_fuse _ _ _ _ (filled_fuse _ _ _ (filled_fuse x _ _ h _) _)
theorem fmt_fuse (h : x.fuse = none) : (x.fmt need r s sup).fuse = none := placed_fuse _ _ _ _ (fmt1_fuse x need r s h)
theorem fmt1_done : (x.fmt1 need r s).done ≤ x.done + need + r + szN s.size + 1 := by
  have h1 := filled_done x 0 (fun _ => 0) need
  have h2 := filled_done (x.filled 0 (fun _ => 0) need) 2 (fun _ => 0) r
  show ((x.fmt0 need r).placed 2 1 s).done ≤ _
  rw [placed_done]
  show ((x.filled 0 (fun _ => 0) need).filled 2 (fun _ => 0) r).done + _ + 1 ≤ _
  omega
theorem fmt_done : (x.fmt need r s sup).done ≤ x.done + need + r + szN s.size + szN sup.size + 2 := by
  have h := fmt1_done x need r s
  show ((x.fmt1 need r s).placed 0 1 sup).done ≤ _
  rw [placed_done]
  omega
theorem FmtFell.fuse {y : St} (h : x.FmtFell need r s sup y) : x.fuse ≠ none := fun e => by
  rcases h with h | h | h | h
  · exact h.1 e
  · exact h.1 (filled_fuse x _ _ e _)
  · exact h.1 (filled_fuse _ _ _ (filled_fuse x _ _ e _) _)
  · exact h.1 (fmt1_fuse x need r s e)
end
end Dk
namespace Ly
/-- A store's blocks, but for its twin's and those ahead of it. -/
structure Bl where
  B : Nat
  S0 : Nat
  Z0 : Nat
  S1 : Nat
  Z1 : Nat
  Zr : Nat
def Bl.list (b : Bl) (D T r k c : Nat) : List (Nat × Obj) := [(b.B, stobj T r k c (some ⟨b.S0, 0, none⟩) (some ⟨b.S1, 0, none⟩)), (b.S0, slobj b.Z0 k c), (b.Z0, zobj D (fromN r k c 0) (c * szN k)), (b.S1, slobj b.Z1 k c), (b.Z1, zobj D (fromN r k c 1) (c * szN k)), (b.Zr, zobj D 2 r)]
/-- A store stands: its twin's block, and the others, of blocks that weren't there at the beginning. -/
structure Stands (w0 w : World) (D : Nat) (x : Dk.St) (fs : List (Nat × Obj)) (b : Bl) (T r k c : Nat) (s : ByteArray) (g side : Nat) : Prop where
  zn : Zn w0 w D x ((T, tobj b.Zr s g side false) :: b.list D T r k c ++ fs)
  new : w0.heap.size ≤ T
  ne : ∀ z ∈ b.list D T r k c ++ fs, z.1 ≠ T
end Ly
theorem canB_of {r k c : Nat} (h : LyOk r k c) : canB r = true := canB_iff.2 ⟨h.r4, h.even⟩
theorem store_format_nil (w : World) (r k c : Int) (hn : ∃ m : Int, ∀ W, Calls Tryz.prog 12 #[lyV r k c] W fun e w' => e = .returned (.int .i64 m) ∧ Below W.heap.size W w') (s : ByteArray) :
    Calls Tryz.prog 11 #[.pointer none, lyV r k c, .string s] w fun e w' => e = .returned (.tuple #[.pointer none, .int .i64 2]) ∧ Below w.heap.size w w' := by
  obtain ⟨m, hm⟩ := hn
  have HN := Lib.hid hm
  have HB := Lib.hid ((Below.refl w.heap.size w).alloc (Nat.le_refl _) (lyO r k c))
  clear hm
  unfold lyV lyA at HN ⊢
  have HZ := Lib.hid (fun (W : World) => show Calls Tryz.prog 35 #[.pointer none, .int .i64 0, .int .i64 m] W fun e w' => e = .returned (.tuple #[.pointer none, .int .i64 2]) ∧ W = w' from by
    go_enter Tryz.func35, Tryz.ntmps35
    go_wp2
    refine bodyPost_ret (results_tmp2 rfl _ _ _) rfl ?_
    exact ⟨rfl, rfl⟩)
  go_enter Tryz.func11, Tryz.ntmps11
  go_wp2_with (fail)
  refine (HN.out _).mono ?_
  rintro e w1 ⟨rfl, b1⟩
  have B1 := Lib.hid (HB.out.trans (b1.mono (by simp)))
  clear b1
  go_wp2_with (fail)
  refine (HZ.out w1).mono ?_
  rintro e w2 ⟨rfl, rfl⟩
  go_wp2_with (fail)
  refine bodyPost_ret (results_tmp2 rfl _ _ _) rfl ?_
  exact ⟨rfl, B1.out⟩
namespace Zn
variable {w0 w w' : World} {D : Nat} {x : Dk.St} {fs : List (Nat × Obj)}
set_option maxRecDepth 100000 in
set_option maxHeartbeats 1600000 in
/-- A layout that can't be, or is too great for the disk. -/
theorem sformat_cant (h : Zn w0 w D x fs) {r k c : Int} (hc : okZ r k c = false ∨ ∃ r' k' c' : Nat, r = (r' : Int) ∧ k = (k' : Int) ∧ c = (c' : Int) ∧ LyOk r' k' c' ∧ x.n < needN r' k' c') (s : ByteArray) :
    Calls Tryz.prog 11 #[.pointer (some ⟨D, 0, none⟩), lyV r k c, .string s] w fun e w' => e = .returned (.tuple #[.pointer none, .int .i64 1]) ∧ Zn w0 w' D x fs := by
  have HN : Hid (∃ m : Int, m ≤ 9223372036854775807 ∧ withinB 0 m x.n = false ∧ ∀ W, Calls Tryz.prog 12 #[lyV r k c] W fun e w' => e = .returned (.int .i64 m) ∧ Below W.heap.size W w') := Lib.hid (by
    rcases hc with hc | ⟨r', k', c', rfl, rfl, rfl, hl, hn⟩
    · exact ⟨0, by omega, by unfold withinB; simp, fun W => store_need_not W r k c hc⟩
    · have hle : needN r' k' c' ≤ 1538 := (fromN_le hl (Nat.le_refl _)).2.2
      refine ⟨(needN r' k' c' : Int), by omega, ?_, fun W => store_need W r' k' c' hl⟩
      unfold withinB
      rw [decide_eq_false (show ¬ (0 : Int) ≤ (x.n : Int) - (needN r' k' c' : Int) by omega), Bool.and_false, Bool.and_false])
  obtain ⟨m, hm1, hm2, hm3⟩ := HN.out
  have HB := Lib.hid (h.step ((Below.refl w.heap.size w).alloc (Nat.le_refl _) (lyO r k c)))
  have HM := Lib.hid hm3
  have HZ := Lib.hid (fun (W : World) (hW : Zn w0 W D x fs) => zone_new_not _ W D x hW.disk 0 m hm1 hm2)
  clear h HN hc hm1 hm2 hm3
  unfold lyV lyA at HM ⊢
  go_enter Tryz.func11, Tryz.ntmps11
  go_wp2_with (fail)
  refine (HM.out _).mono ?_
  rintro e w1 ⟨rfl, b1⟩
  have B1 := Lib.hid (HB.out.step b1)
  clear b1
  go_wp2_with (fail)
  refine (HZ.out w1 B1.out).mono ?_
  rintro e w2 ⟨rfl, rfl⟩
  go_wp2_with (fail)
  refine bodyPost_ret (results_tmp2 rfl _ _ _) rfl ?_
  exact ⟨rfl, B1.out⟩
set_option maxRecDepth 100000 in
set_option maxHeartbeats 1600000 in
/-- A text that has no room. -/
theorem sformat_long (h : Zn w0 w D x fs) {r k c : Nat} (hl : LyOk r k c) (hn : needN r k c ≤ x.n) (s : ByteArray) (hs : s.size ≤ maxLen) (hf : fitB r s = false) :
    Calls Tryz.prog 11 #[.pointer (some ⟨D, 0, none⟩), lyV r k c, .string s] w fun e w' => e = .returned (.tuple #[.pointer none, .int .i64 1]) ∧ Zn w0 w' D x fs := by
  have hle : needN r k c ≤ 1538 := (fromN_le hl (Nat.le_refl _)).2.2
  have h1 : 1 ≤ needN r k c := by unfold needN fromN; omega
  have HB := Lib.hid (h.add ((Below.refl w.heap.size w).alloc (Nat.le_refl _) (lyO r k c)) (Nat.le_refl _) (heap_alloc_new w (lyO r k c)))
  have HM := Lib.hid (fun W => store_need W r k c hl)
  have HZ := Lib.hid (fun (W : World) (gs : List (Nat × Obj)) (hW : Zn w0 W D x gs) => hW.news 0 (needN r k c) h1 (by omega))
  have HF := Lib.hid (fun (W : World) => store_fits W r k c (by have := hl.r128; omega) s hs)
  rw [hf] at HF
  clear h hl hn hle h1 hf
  unfold lyV lyA at HM HF ⊢
  generalize needN r k c = nd at HM HZ
  go_enter Tryz.func11, Tryz.ntmps11
  go_wp2_with (fail)
  refine (HM.out _).mono ?_
  rintro e w1 ⟨rfl, b1⟩
  have B1 := Lib.hid (HB.out.step b1)
  clear b1 HB
  go_wp2_with (fail)
  refine (HZ.out w1 _ B1.out).mono ?_
  rintro e w2 ⟨A, rfl, h2⟩
  have H2 := Lib.hid h2
  have d0 := ly0 (h2.fix (w.heap.size, lyO r k c) (by simp))
  have d1 := ly1 (h2.fix (w.heap.size, lyO r k c) (by simp))
  have d2 := ly2 (h2.fix (w.heap.size, lyO r k c) (by simp))
  clear h2 B1
  go_wp2_with (fail)
  refine (HF.out w2).mono ?_
  rintro e w3 ⟨rfl, b3⟩
  have H3 := Lib.hid ((H2.out.step b3).less (gs := fs) (fun z hz => List.mem_cons_of_mem _ (List.mem_cons_of_mem _ hz)))
  clear b3
  go_wp2_with (fail)
  refine bodyPost_ret (results_tmp2 rfl _ _ _) rfl ?_
  exact ⟨rfl, H3.out⟩
set_option maxRecDepth 100000 in
set_option maxHeartbeats 6400000 in
theorem sformat (h : Zn w0 w D x fs) (hT : Tabs w0) (ha : x.away = false) (hf : x.Fz) (hlo : x.loose.length ≤ 1073000000) (hd : x.done < 4611686018427000000) {r k c : Nat} (hl : LyOk r k c) (hn : needN r k c ≤ x.n) (s : ByteArray) (hs : s.size ≤ 1024) (hp : szN s.size ≤ r / 2) :
    Calls Tryz.prog 11 #[.pointer (some ⟨D, 0, none⟩), lyV r k c, .string s] w fun e w' =>
      (∃ (b : Bl) (T : Nat), e = .returned (.tuple #[.pointer (some ⟨b.B, 0, none⟩), .int .i64 0]) ∧ Stands w0 w' D (x.fmt (needN r k c) r s (superB r k c)) fs b T r k c s 1 0) ∨
      (e = .returned (.tuple #[.pointer none, .int .i64 4]) ∧ ∃ y, x.FmtFell (needN r k c) r s (superB r k c) y ∧ Zn w0 w' D y fs) := by
  have hnb : x.n ≤ 4096 := by obtain ⟨_, _, _, _, _, _, h⟩ := h.disk; exact h.nb
  have hle : needN r k c ≤ 1538 := (fromN_le hl (Nat.le_refl _)).2.2
  have h1 : 2 + r ≤ needN r k c := by unfold needN fromN; omega
  have hr4 := hl.r4
  have hsz : (superB r k c).size = 12 := superB_size _ _ _
  have hzs : szN (superB r k c).size = 2 := by rw [hsz]; rfl
  have l1 := filled_loose x 0 (fun _ => 0) (needN r k c)
  have l2 := filled_done x 0 (fun _ => 0) (needN r k c)
  have l3 := fmt1_done x (needN r k c) r s
  have l4 := szN_max s.size hs
  have hTd : (x.fmt1 (needN r k c) r s).loose = [] := rfl
  have HB := Lib.hid (h.add ((Below.refl w.heap.size w).alloc (Nat.le_refl _) (lyO r k c)) (Nat.le_refl _) (heap_alloc_new w (lyO r k c)))
  have HM := Lib.hid (fun W => store_need W r k c hl)
  have HZ := Lib.hid (fun (W : World) (gs : List (Nat × Obj)) (hW : Zn w0 W D x gs) => hW.news 0 (needN r k c) (by omega) (by omega))
  have HF := Lib.hid (fun (W : World) => store_fits W r k c (by have := hl.r128; omega) s (by unfold maxLen; omega))
  rw [fitB_true hs hp] at HF
  have HFL := Lib.hid (fun (W : World) (gs : List (Nat × Obj)) (A : Nat) (hA : (A, zobj D 0 (needN r k c)) ∈ gs) (hW : Zn w0 W D x gs) => hW.fillAny hA ha hf (by omega) (by omega) (by omega) 0)
  have HRC := Lib.hid (fun (W : World) (gs : List (Nat × Obj)) (A : Nat) (hA : (A, zobj D 0 (needN r k c)) ∈ gs) (hW : Zn w0 W D (x.filled 0 (fun _ => 0) (needN r k c)) gs) => hW.recordOf hA (by rw [filled_n]; exact hn) hl h1)
  have HTF := Lib.hid (fun (W : World) (gs : List (Nat × Obj)) (Z : Nat) (hZ : (Z, zobj D 2 r) ∈ gs) (hW : Zn w0 W D (x.filled 0 (fun _ => 0) (needN r k c)) gs) => hW.format hZ hT ((filled_away _ _ _ _).trans ha) (hf.filled _ _ _) (by omega) (by omega) (by rw [filled_n]; omega) (canB_of hl) s hs hp)
  have HSU := Lib.hid (fun (W : World) => store_super W r k c)
  have HPU := Lib.hid (fun (W : World) (gs : List (Nat × Obj)) (A : Nat) (hA : (A, zobj D 0 (needN r k c)) ∈ gs) (hW : Zn w0 W D (x.fmt1 (needN r k c) r s) gs) => hW.putAny hA hT ((fmt1_away _ _ _ _).trans ha) (fmt1_Fz _ _ _ _ hf) (by rw [hTd]; decide) (by omega) (by rw [fmt1_n]; omega) 1 (superB r k c) (by decide) (by decide) (by omega) 0 (by rw [hzs]; omega))
  have HSY := Lib.hid (fun (W : World) (gs : List (Nat × Obj)) (hW : Zn w0 W D ((x.fmt1 (needN r k c) r s).laid (0 + 0) (secF 1 (sealL (superB r k c))) (szN (superB r k c).size)) gs) => hW.syncAny ((laid_away _ _ _ _).trans ((fmt1_away _ _ _ _).trans ha)) ((fmt1_Fz _ _ _ _ hf).laid _ _ _) (by rw [laid_len, hTd, hzs]; decide) (by rw [laid_done, hzs]; omega))
  have HMD := Lib.hid (fun (W : World) (gs : List (Nat × Obj)) (A T : Nat) (hA : (A, zobj D 0 (needN r k c)) ∈ gs) (hW : Zn w0 W D (x.fmt (needN r k c) r s (superB r k c)) gs) => hW.made (T := T) hA (by rw [fmt_n]; exact hn) hl (Nat.le_refl _))
  have HN0 := Lib.hid (show w0.heap.size ≤ w.heap.size from h.below.size)
  clear h hT ha hf hlo hd hl hn hs hp hnb hle h1 hr4 hsz hzs l1 l2 l3 l4 hTd
  unfold lyV lyA at HM HF HRC HSU HMD ⊢
  generalize superB r k c = sup at HSU HPU HSY HMD ⊢
  generalize hND : needN r k c = nd at HM HZ HFL HRC HTF HPU HSY HMD ⊢
  clear hND
  go_enter Tryz.func11, Tryz.ntmps11
  go_wp2_with (fail)
  refine (HM.out _).mono ?_
  rintro e w1 ⟨rfl, b1⟩
  have B1 := Lib.hid (HB.out.step b1)
  clear b1 HB HM
  go_wp2_with (fail)
  refine (HZ.out w1 _ B1.out).mono ?_
  rintro e w2 ⟨A, rfl, h2⟩
  have H2 := Lib.hid h2
  have d0 := ly0 (h2.fix (w.heap.size, lyO r k c) (by simp))
  have d1 := ly1 (h2.fix (w.heap.size, lyO r k c) (by simp))
  have d2 := ly2 (h2.fix (w.heap.size, lyO r k c) (by simp))
  clear h2 B1 HZ
  go_wp2_with (fail)
  refine (HF.out w2).mono ?_
  rintro e w3 ⟨rfl, b3⟩
  have H3 := Lib.hid (H2.out.step b3)
  clear b3 H2 HF d0 d1 d2
  go_wp2_with (fail)
  refine (HFL.out w3 _ A (by simp) H3.out).mono ?_
  rintro e w4 ⟨m, rfl, ⟨rfl, h4⟩ | ⟨rfl, hn, q, kl, hq, h4⟩⟩
  · have H4 := Lib.hid h4
    have d0 := ly0 (h4.fix (w.heap.size, lyO r k c) (by simp))
    have d1 := ly1 (h4.fix (w.heap.size, lyO r k c) (by simp))
    have d2 := ly2 (h4.fix (w.heap.size, lyO r k c) (by simp))
    clear h4 H3 HFL
    go_wp2_with (fail)
    refine (HRC.out w4 _ A (by simp) H4.out).mono ?_
    rintro e w5 ⟨Zr, rfl, g5, h5⟩
    have H5 := Lib.hid h5
    clear h5 H4 HRC g5 d0 d1 d2
    go_wp2_with (fail)
    refine (HTF.out w5 _ Zr (by simp) H5.out).mono ?_
    rintro e w6 (⟨T, rfl, g1, g2, h6⟩ | ⟨rfl, y, hy, h6⟩)
    · have H6 := Lib.hid (show Zn w0 w6 D (x.fmt1 nd r s) ((T, tobj Zr s 1 0 false) :: (Zr, zobj D 2 r) :: (A, zobj D 0 nd) :: (w.heap.size, lyO r k c) :: fs) from h6)
      have HG := Lib.hid (And.intro g1 g2)
      have d0 := ly0 (h6.fix (w.heap.size, lyO r k c) (by simp))
      have d1 := ly1 (h6.fix (w.heap.size, lyO r k c) (by simp))
      have d2 := ly2 (h6.fix (w.heap.size, lyO r k c) (by simp))
      clear h6 g1 g2 H5 HTF
      go_wp2_with (fail)
      refine (HSU.out w6).mono ?_
      rintro e w7 ⟨rfl, b7⟩
      have H7 := Lib.hid (H6.out.step b7)
      clear b7 H6 d0 d1 d2
      go_wp2_with (fail)
      refine (HPU.out w7 _ A (by simp) H7.out).mono ?_
      rintro e w8 ⟨m, rfl, ⟨rfl, h8⟩ | ⟨rfl, hn, q, kl, hq, h8⟩⟩
      · have H8 := Lib.hid h8
        have c0 := zone_c0 (h8.fix (A, zobj D 0 nd) (by simp))
        clear h8 H7 HPU
        go_wp2_with (fail)
        refine (HSY.out w8 _ H8.out).mono ?_
        rintro e w9 ⟨m, rfl, ⟨rfl, h9⟩ | ⟨rfl, hn, kl, h9⟩⟩
        · have H9 := Lib.hid (show Zn w0 w9 D (x.fmt nd r s sup) ((T, tobj Zr s 1 0 false) :: (Zr, zobj D 2 r) :: (A, zobj D 0 nd) :: (w.heap.size, lyO r k c) :: fs) from h9)
          have d0 := ly0 (h9.fix (w.heap.size, lyO r k c) (by simp))
          have d1 := ly1 (h9.fix (w.heap.size, lyO r k c) (by simp))
          have d2 := ly2 (h9.fix (w.heap.size, lyO r k c) (by simp))
          clear h9 H8 HSY c0
          go_wp2_with (fail)
          refine (HMD.out w9 _ A T (by simp) H9.out).mono ?_
          rintro e wa ⟨B, S0, Z0, S1, Z1, rfl, ⟨n1, n2, n3, n4, n5⟩, ha⟩
          have HN := Lib.hid (And.intro n1 (And.intro n2 (And.intro n3 (And.intro n4 n5))))
          have HA := Lib.hid ha
          clear ha n1 n2 n3 n4 n5 HMD d0 d1 d2
          go_wp2_with (fail)
          refine bodyPost_ret (results_tmp2 rfl _ _ _) rfl ?_
          refine .inl ⟨⟨B, S0, Z0, S1, Z1, Zr⟩, T, rfl, HA.out.less fun z hz => ?_, HG.out.1, fun z hz => ?_⟩
          · simp only [Bl.list, List.cons_append, List.nil_append, List.mem_cons] at hz ⊢
            rcases hz with h | h | h | h | h | h | h | h <;> simp [h]
          · have hTl := (Array.getElem?_eq_some_iff.1 (H9.out.fix (T, _) (List.mem_cons_self ..))).1
            obtain ⟨n1, n2, n3, n4, n5⟩ := HN.out
            simp only at hTl
            simp only [Bl.list, List.cons_append, List.nil_append, List.mem_cons] at hz
            rcases hz with rfl | rfl | rfl | rfl | rfl | rfl | hz
            · show B ≠ T; omega
            · show S0 ≠ T; omega
            · show Z0 ≠ T; omega
            · show S1 ≠ T; omega
            · show Z1 ≠ T; omega
            · exact HG.out.2 (Zr, _) (List.mem_cons_self ..)
            · exact HG.out.2 z (List.mem_cons_of_mem _ (List.mem_cons_of_mem _ (List.mem_cons_of_mem _ hz)))
        · have H9 := Lib.hid (h9.less (gs := fs) (fun z hz => by simp [hz]))
          clear h9 H8 HSY c0
          go_wp2_with (fail)
          refine bodyPost_ret (results_tmp2 rfl _ _ _) rfl ?_
          exact .inr ⟨rfl, _, .inr (.inr (.inr ⟨fun e => hn (laid_fuse _ _ _ e _), _, kl, Nat.le_refl _, rfl⟩)), H9.out⟩
      · have H8 := Lib.hid (h8.less (gs := fs) (fun z hz => by simp [hz]))
        clear h8 H7 HPU
        go_wp2_with (fail)
        refine bodyPost_ret (results_tmp2 rfl _ _ _) rfl ?_
        exact .inr ⟨rfl, _, .inr (.inr (.inr ⟨hn, q, kl, hq, rfl⟩)), H8.out⟩
    · have H6 := Lib.hid (h6.less (gs := fs) (fun z hz => by simp [hz]))
      clear h6 H5 HTF
      go_wp2_with (fail)
      refine bodyPost_ret (results_tmp2 rfl _ _ _) rfl ?_
      refine .inr ⟨rfl, y, ?_, H6.out⟩
      rcases hy with hy | hy
      · exact .inr (.inl hy)
      · exact .inr (.inr (.inl hy))
  · have H4 := Lib.hid (h4.less (gs := fs) (fun z hz => by simp [hz]))
    clear h4 H3 HFL
    go_wp2_with (fail)
    refine bodyPost_ret (results_tmp2 rfl _ _ _) rfl ?_
    exact .inr ⟨rfl, _, .inl ⟨hn, q, kl, hq, rfl⟩, H4.out⟩
end Zn
end Go.Proofs.YtnmgkkjnjllpbaaGreatDoor
