/-
  Chunks in plain words: what is got of a place where one was put, of one where none was; of several texts' sectors, mixed, with a number each. No program's function here. No conditions.
  Law 09's own helpers: a slot over all of a disk; the document's example. Condition: both tables of sums lie as the program's text lays them.
-/
import Derived.Test.YtfpkgcofkgpgnaaDoorMg15
import Derived.Test.YtfpkgcofkgpgnaaDoorMg16
set_option maxRecDepth 100000
namespace Go.Proofs.YtfpkgcofkgpgnaaDoor
open Go Go.RowKit Pn Dk Sl
namespace Sl
section
variable (x : Dk.St) (f nz k i : Nat)
theorem getK_put (n : Nat) (s : ByteArray) (h1 : 1 ≤ n) (h2 : n ≤ 2147483647) (hs : s.size ≤ k) (hk : k ≤ 256) (hin : i * szN k + szN k ≤ nz) (h : ∀ q, q < szN s.size → ∀ j, j < 32 → sect x.now (f + i * szN k + q) j = secF n (sealL s) q j) : getK x f nz k i = (s, n, 0) := by
  have hm := szN_mono hs
  unfold getK
  rw [got (s := s) h1 h2 (by omega) (by omega) (fun q hq j hj => by show sect x.now (f + (i * szN k + q)) j = _; rw [← Nat.add_assoc]; exact h q hq j hj), limR_ok hs]
theorem getK_none (h : numG (sect x.now (f + i * szN k)) = 0) : getK x f nz k i = (⟨#[]⟩, 0, 5) := by
  have h0 : numG (rdZ x f (i * szN k)) = 0 := h
  have ho : okG (rdZ x f) nz (i * szN k) = false := by unfold okG; rw [h0]; rfl
  unfold getK
  rw [ok_not ho, limR_err (by decide)]
end
theorem isW_put {s : ByteArray} {m : Nat} {n : Int} (h : (m : Int) = n) : isW (s, m, 0) n = true := by unfold isW; rw [decide_eq_true rfl, decide_eq_true h]; rfl
theorem isW_other {s : ByteArray} {m e : Nat} {n : Int} (h : (m : Int) ≠ n) : isW (s, m, e) n = false := by unfold isW; rw [decide_eq_false h, Bool.and_false]
theorem isW_none {s : ByteArray} {m e : Nat} {n : Int} (h : e ≠ 0) : isW (s, m, e) n = false := by unfold isW; rw [decide_eq_false h, Bool.false_and]
theorem wText_put {s : ByteArray} {m : Nat} {n : Int} (h : (m : Int) = n) : wText (s, m, 0) n = s := by unfold wText; rw [isW_put h, if_pos rfl]
end Sl
end Go.Proofs.YtfpkgcofkgpgnaaDoor
namespace Go.Proofs.YtfpkgcofkgpgnaaDoor
open Go.ChangeShapes Go.WideShapes Go.ChangeAt Go.RowKit Pn Dk Sl

theorem Zn.opened (w0 w : World) (D : Nat) (x : Dk.St) (fs : List (Nat × Obj)) (h : Zn w0 w D x fs) (k : Nat) (h1 : 1 ≤ k) (h2 : k ≤ 256) (hp : szN k ≤ x.n) :
    Calls Tryd.prog 7 #[.pointer (some ⟨D, 0, none⟩), .int .i64 (k : Int)] w fun e w' => ∃ S Z, e = .returned (.tuple #[.pointer (some ⟨S, 0, none⟩), .int .i64 0]) ∧ w0.heap.size ≤ S ∧ Zn w0 w' D x ((S, slobj Z k (chunksN x.n k)) :: (Z, zobj D 0 x.n) :: fs) := by
  have hnb : x.n ≤ 4096 := by obtain ⟨_, _, _, _, _, _, h⟩ := h.disk; exact h.nb
  have h2z := szN_two k
  have HL := Lib.hid (disk_len _ w D x h.disk)
  have HN := Lib.hid (h.news 0 x.n (by omega) (by omega))
  have HS := Lib.hid (fun (W : World) Z (hW : Zn w0 W D x ((Z, zobj D 0 x.n) :: fs)) => hW.slot (Z := Z) (List.mem_cons_self ..) hnb k h1 h2 hp)
  clear h h1 h2 hp hnb h2z
  generalize x.n = nn at HL HN HS ⊢
  go_enter Tryd.func7, Tryd.ntmps7
  go_wp2_with (fail)
  refine HL.out.mono ?_
  rintro e w1 ⟨rfl, rfl⟩
  go_wp2_with (fail)
  refine HN.out.mono ?_
  rintro e w1 ⟨Z, rfl, g1⟩
  have G1 := Lib.hid g1
  clear g1 HN
  go_wp2_with (fail)
  refine (HS.out w1 Z G1.out).mono ?_
  rintro e w2 ⟨S, rfl, g2, g3⟩
  have G3 := Lib.hid g3
  clear g3 HS
  go_wp2_with (fail)
  refine bodyPost_ret (results_tmp2 rfl _ _ _) rfl ?_
  exact ⟨S, Z, rfl, g2, G3.out⟩
namespace Sx
def abc : ByteArray := ⟨#[97, 98, 99]⟩
def aw0 : Dk.St := freshSt 8 fun _ => 0
def aw1 : Dk.St := aw0.laid (0 + 2 * szN 20) (secF 7 (sealL abc)) (szN abc.size)
theorem abc_text : abc.toList = [97, 98, 99] := by rw [ByteArray.toList_eq]; rfl
theorem got2 : getK aw1 0 8 20 2 = (abc, 7, 0) := getK_put aw1 0 8 20 2 7 abc (by decide) (by decide) (by decide) (by decide) (by decide) (fun q hq j hj => laid_in aw0 _ _ _ q hq j hj)
theorem gotNo (i : Nat) (h : i ≠ 2) (h4 : i < 4) : getK aw1 0 8 20 i = (⟨#[]⟩, 0, 5) := by
  refine getK_none aw1 0 8 20 i ((numG_congr (g := fun _ => 0) fun j hj => ?_).trans Tw.num_zero)
  refine (laid_out aw0 (0 + 2 * szN 20) (secF 7 (sealL abc)) _ (0 + i * szN 20) ?_ j hj).trans rfl
  have e : szN 20 = 2 := by decide
  have e2 : szN abc.size = 2 := by decide
  rw [e, e2]
  omega
theorem u_is : firstU 4 (fun i => isW (getK aw1 0 8 20 i) 7) = fun i => decide (i = 2) := by
  funext i
  unfold firstU
  by_cases h4 : i < 4
  · rw [decide_eq_true h4, Bool.true_and]
    by_cases h : i = 2
    · subst h
      show isW (getK aw1 0 8 20 2) 7 = _
      rw [got2, isW_put (by decide)]
      rfl
    · show isW (getK aw1 0 8 20 i) 7 = _
      rw [gotNo i h h4, isW_none (by decide), decide_eq_false h]
  · rw [decide_eq_false h4, decide_eq_false (by omega)]
    rfl
theorem all_not : allU (fun i => isW (getK aw1 0 8 20 i) 7) 4 = false := allU_stop (k := 0) _ (by decide) (by show isW (getK aw1 0 8 20 0) 7 = _; rw [gotNo 0 (by decide) (by decide), isW_none (by decide)])
theorem u_text : Bt.textB 4 (fun i => decide (i = 2)) = ⟨#[4]⟩ := rfl
theorem aw_n : aw1.n = 8 := laid_n _ _ _ _
theorem aw_away : aw1.away = false := laid_away _ _ _ _
theorem aw_chunks : chunksN 8 20 = 4 := by decide
theorem aw_sz : szN 20 = 2 := by decide
end Sx
open Sx
set_option maxRecDepth 100000 in
set_option maxHeartbeats 3200000 in
theorem awake09 (w : World) (hT : Tabs w) :
    Calls Tryd.prog 5 #[] w fun e w' => e = .returned (.bool true) ∧ Below w.heap.size w w' := by
  have HT := Lib.hid hT
  have HP := Lib.hid (fun W => slot_per W 20 (by decide) (by decide))
  rw [aw_sz] at HP
  have hfour : (⟨#[4]⟩ : ByteArray).toList = [4] := by rw [ByteArray.toList_eq]
  clear hT
  go_enter Tryd.func5, Tryd.ntmps5
  go_wp2_with (fail)
  refine (at_new w w (Below.refl _ _) 8 8 (by omega)).mono ?_
  rintro e w1 ⟨D, rfl, h1⟩
  have H1 := Lib.hid (show Zn w w1 D aw0 [] from Zn.of_at h1)
  clear h1
  go_wp2_with (fail)
  refine (Zn.opened w w1 D aw0 [] H1.out 20 (by decide) (by decide) (by decide)).mono ?_
  rintro e w2 ⟨S, Z, rfl, g2, h2⟩
  have H2 := Lib.hid (show Zn w w2 D aw0 [(S, slobj Z 20 4), (Z, zobj D 0 8)] from h2)
  clear h2 H1
  go_wp2_with (fail)
  refine (H2.out.sput (S := S) (Z := Z) (k := 20) (c := 4) (f := 0) (nz := 8) (by simp) (by simp) HT.out rfl (by decide) (by decide) (by decide) (by decide) rfl (by decide) (by decide) 7 abc (by decide) (by decide) (by decide) 2 (by decide)).mono ?_
  rintro e w3 ⟨rfl, h3⟩
  have H3 := Lib.hid (show Zn w w3 D aw1 [(S, slobj Z 20 4), (Z, zobj D 0 8)] from h3)
  clear h3 H2
  go_wp2_with (fail)
  refine (H3.out.sget (S := S) (Z := Z) (k := 20) (c := 4) (f := 0) (nz := 8) (by simp) (by simp) HT.out aw_away (by rw [aw_n]; decide) (by decide) (by decide) (by decide) 2 (by decide)).mono ?_
  rw [got2]
  rintro e w4 ⟨rfl, h4⟩
  have H4 := Lib.hid h4
  clear h4 H3
  go_wp2_with (fail)
  refine (H4.out.scan (S := S) (Z := Z) (k := 20) (c := 4) (f := 0) (nz := 8) (by simp) (by simp) HT.out aw_away (by rw [aw_n]; decide) (by decide) (by decide) (by decide) 7 4 (by decide) (by decide) (by decide)).mono ?_
  rw [u_is]
  rintro e w5 ⟨b, rfl, g5, _, h5⟩
  have H5 := Lib.hid h5
  clear h5 H4
  go_wp2_with (fail)
  refine (H5.out.sall (S := S) (Z := Z) (k := 20) (c := 4) (f := 0) (nz := 8) (by simp) (by simp) HT.out aw_away (by rw [aw_n]; decide) (by decide) (by decide) (by decide) 7 4 (by decide) (by decide) (by decide) false all_not).mono ?_
  rintro e w6 ⟨rfl, h6⟩
  have H6 := Lib.hid h6
  clear h6 H5
  simp only [Bool.false_eq_true, if_false]
  have habc := abc_text
  go_wp2_with (fail)
  refine (H6.out.btext (b := b) (List.mem_cons_self ..) (by decide)).mono ?_
  rw [u_text]
  rintro e w7 ⟨rfl, h7⟩
  have H7 := Lib.hid h7
  clear h7 H6
  go_wp2_with (fail)
  refine (slot_chunks w7 S Z 20 4 (H7.out.fix (S, slobj Z 20 4) (by simp))).mono ?_
  rintro e w8 ⟨rfl, rfl⟩
  go_wp2_with (fail)
  refine (HP.out w7).mono ?_
  rintro e w8 ⟨rfl, b8⟩
  have B8 := Lib.hid (H7.out.step b8).below
  clear b8
  go_wp2_with (fail)
  refine bodyPost_ret (results_tmp rfl _ _ _) rfl ?_
  exact ⟨rfl, B8.out⟩
end Go.Proofs.YtfpkgcofkgpgnaaDoor
