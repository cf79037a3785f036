/-
  Package patch: Parse. Condition: fewer than 2^47 bytes.
-/
import Derived.Test.YtiehpaffbaafcaaPt5
import Derived.Test.YtiehpaffbaafcaaPtOwn
namespace Go.Proofs.Ytiehpaffbaafcaa
open Go.ChangeShapes Go.WideShapes Go.ChangeAt Go.RowKit Pn Pt
namespace Pt
def preD (M : List Deed) (x : Option (List Deed × ByteArray × Bool)) : Option (List Deed × ByteArray × Bool) := x.map fun y => (M ++ y.1, y.2)
theorem preD_nil (x : Option (List Deed × ByteArray × Bool)) : preD [] x = x := by cases x <;> rfl
theorem preD_step (M : List Deed) (k : Nat) (r : ByteArray) (bad : Bool) (h : okD mxB (rdD r bad).1 = true) : preD M (prD (k + 1) r bad) = preD (M ++ [(rdD r bad).1]) (prD k (rdD r bad).2.1 (rdD r bad).2.2) := by
  rw [prD_yes h]
  cases prD k (rdD r bad).2.1 (rdD r bad).2.2 with
  | none => rfl
  | some y => simp [preD]
theorem preD_not (M : List Deed) (k : Nat) (r : ByteArray) (bad : Bool) (h : okD mxB (rdD r bad).1 = false) : endD (preD M (prD (k + 1) r bad)) = none := by
  rw [prD_not h]
  rfl
theorem preD_end (M : List Deed) (r : ByteArray) (bad : Bool) : endD (preD M (prD 0 r bad)) = if bad = false ∧ r.size = 0 then some M else none := by
  show endD (some (M ++ [], r, bad)) = _
  rw [List.append_nil]
  rfl
theorem endOf_ok {r : ByteArray} {bad : Bool} (h : bad = false ∧ r.size = 0) : endOf r bad = 0 := by
  unfold endOf
  rw [if_neg (by omega), h.1]
  rfl
theorem endOf_not {r : ByteArray} {bad : Bool} (h : ¬ (bad = false ∧ r.size = 0)) : endOf r bad = 5 := by
  unfold endOf
  by_cases hr : 0 < r.size
  · rw [if_pos hr]
  · rw [if_neg hr]
    cases bad with
    | false => exact absurd ⟨rfl, by omega⟩ h
    | true => rfl
theorem rd_rest (r : ByteArray) (bad : Bool) : (rdD r bad).2.1.size ≤ r.size := by
  have h1 := tk_rest_size r 1
  rw [rdD_eq]
  unfold rdK
  split
  · exact Nat.le_trans (nm_rest_size _ _) (Nat.le_trans (nm_rest_size _ _) h1)
  · split
    · exact Nat.le_trans (tx_rest_size _ _) h1
    · split
      · exact Nat.le_trans (tx_rest_size _ _) (Nat.le_trans (nm_rest_size _ _) h1)
      · exact h1
theorem prD_length : ∀ (n : Nat) (r : ByteArray) (bad : Bool) (y : List Deed × ByteArray × Bool), prD n r bad = some y → y.1.length = n
  | 0, r, bad, y, h => by
    have : y = ([], r, bad) := (Option.some.inj h).symm
    rw [this]
    rfl
  | n + 1, r, bad, y, h => by
    cases hg : okD mxB (rdD r bad).1 with
    | false => rw [prD_not hg] at h; cases h
    | true =>
      rw [prD_yes hg] at h
      obtain ⟨z, hz, rfl⟩ := Option.map_eq_some_iff.1 h
      have := prD_length n _ _ z hz
      simp [this]
theorem nm_most (r : ByteArray) (n : Nat) : nmOut r (n : Int) ≤ n := by
  unfold nmOut
  split
  · rename_i h
    unfold nmOk at h
    simp at h
    omega
  · exact Nat.zero_le _
theorem par_length {s : ByteArray} {L : List Deed} (h : parD s = some L) : L.length ≤ 256 := by
  unfold parD endD at h
  obtain ⟨y, hy, h2⟩ := Option.bind_eq_some_iff.1 h
  have := prD_length _ _ _ y hy
  have hm := nm_most s 256
  split at h2
  · injection h2 with h2
    rw [← h2, this]
    exact hm
  · cases h2
/-- What Parse answers. -/
def PaSays (w : World) (P : Option (List Deed)) (e : Ending) (w' : World) : Prop := Below w.heap.size w w' ∧ match P with
  | some L => ∃ A c, e = .returned (.tuple #[.slice A L.length c, .int .i64 0]) ∧ DIn w' A L
  | none => e = .returned (.tuple #[.slice none 0 0, .int .i64 5])
theorem pa_some {w w' : World} {P : Option (List Deed)} {L : List Deed} {A : Option Addr} {c : Nat} (hb : Below w.heap.size w w') (h : P = some L) (hd : DIn w' A L) : PaSays w P (.returned (.tuple #[.slice A L.length c, .int .i64 0])) w' := by
  subst h
  exact ⟨hb, A, c, rfl, hd⟩
theorem pa_none {w w' : World} {P : Option (List Deed)} (hb : Below w.heap.size w w') (h : P = none) : PaSays w P (.returned (.tuple #[.slice none 0 0, .int .i64 5])) w' := by
  subst h
  exact ⟨hb, rfl⟩
end Pt
set_option maxRecDepth 100000 in
set_option maxHeartbeats 6400000 in
theorem pt_parse (w : World) (s : ByteArray) (hs : s.size ≤ 140737488355328) : Calls Try.prog 11 #[.string s] w (PaSays w (parD s)) := by
  have HS := Lib.hid (show (nmRest s 256).size ≤ 140737488355328 from Nat.le_trans (nm_rest_size s 256) hs)
  have HM := Lib.hid (nm_most s 256)
  have HP := Lib.hid (show parD s = endD (preD [] (prD (nmOut s 256) (nmRest s 256) (nmBad s false 256))) from by rw [preD_nil]; rfl)
  have HR := Lib.hid (fun W b r bad h hr => pt_read W b r bad h hr)
  have HG := Lib.hid (fun o W => pt_good mxB (by decide) (by decide) o W)
  obtain ⟨i0, hi, hz0, hz1, hz2⟩ := info_parts info_op
  have HI := Lib.hid hi
  have HZ0 := Lib.hid hz0
  have HZ1 := Lib.hid hz1
  have HZ2 := Lib.hid hz2
  clear hs hi hz0 hz1 hz2
  generalize parD s = P at HP ⊢
  go_enter Try.func11, Try.ntmps11
  go_wp2_with (fail)
  refine (eye_of s w).mono ?_
  rintro e w1 ⟨rfl, e1, b1⟩
  have E1 := Lib.hid e1
  have B1 := Lib.hid b1
  clear e1 b1
  go_wp2_with (fail)
  refine (eye_num w1 w.heap.size s false E1.out 256).mono ?_
  rintro e w2 ⟨rfl, e2, o2⟩
  have E2 := Lib.hid e2
  have B2 := Lib.hid (B1.out.trans (o2.below (Nat.le_refl _) (by have := E1.out.lt; omega)))
  clear e2 o2 E1 B1
  generalize nmOut s 256 = n at HM HP ⊢
  generalize nmRest s 256 = r0 at HS HP E2
  generalize nmBad s false 256 = c0 at HP E2
  go_wp2_with (fail)
  go_loopw [5, 11] (fun v i wr => ∃ (j : Nat) (G : Option Addr) (cg : Nat) (M : List Deed) (r : ByteArray) (bad : Bool), i = .int .i64 (j : Int) ∧ j ≤ n ∧ v = .slice G j cg ∧ M.length = j ∧ OwnD 42 wr (w.heap.size + 1) v M ∧ EyeAt wr w.heap.size r bad ∧ r.size ≤ 140737488355328 ∧ P = endD (preD M (prD (n - j) r bad)) ∧ Below w.heap.size w wr) (fun _ i _ => match i with | .int _ k => n - k.toNat | _ => 0)
  case atStart => exact ⟨0, none, 0, [], r0, c0, rfl, Nat.zero_le _, rfl, rfl, OwnD.nil _ _ _, E2.out, HS.out, HP.out, B2.out⟩
  case round =>
    clear E2 B2 HP HS
    obtain ⟨j, G, cg, M, r, bad, rfl, hj, rfl, hml, ho, he, hrs, hp, hb⟩ := hrel
    have HML := Lib.hid hml
    have HO := Lib.hid ho
    have HE := Lib.hid he
    have HRS := Lib.hid hrs
    have HP := Lib.hid hp
    have HB := Lib.hid hb
    have HLT := Lib.hid he.lt
    clear hml ho he hrs hp hb
    have x2 : 0 ≤ (j : Int) := by omega
    by_cases hlt : j < n
    · have x0 : (j : Int) < (n : Int) := by omega
      have x1 : decide ((j : Int) < (n : Int)) = true := decide_eq_true x0
      have HJ := Lib.hid (show j + 1 ≤ n by omega)
      have HNJ := Lib.hid (show n - j = n - (j + 1) + 1 by omega)
      rw [HNJ.out] at HP
      have HW1 := Lib.hid (IntWalk.wrap64_in ((j : Int) + 1) (by have := HM.out; omega))
      have HRD := Lib.hid (HR.out wr w.heap.size r bad HE.out HRS.out)
      have HRR := Lib.hid (Nat.le_trans (rd_rest r bad) HRS.out)
      have HGO := Lib.hid (HG.out (rdD r bad).1)
      unfold RdSays at HRD
      have HPN := Lib.hid (fun h => HP.out.trans (preD_not M (n - (j + 1)) r bad h))
      have HPY := Lib.hid (fun h => HP.out.trans (congrArg endD (preD_step M (n - (j + 1)) r bad h)))
      generalize rdD r bad = X at HRD HRR HGO HPN HPY
      obtain ⟨o, r2, bad2⟩ := X
      simp only at HRD HRR HGO HPN HPY
      have HOL := Lib.hid (show dv o = .agg #[.int .i64 o.k, .int .i64 o.f, .int .i64 o.s, .string o.d] from rfl)
      unfold dv mxB at HGO
      unfold dv at HRD
      clear HR HG HP hlt
      cases hgd : okD mxB o with
      | false =>
        have HPZ := Lib.hid (HPN.out hgd)
        unfold mxB at hgd
        rw [hgd] at HGO
        clear hgd HPN HPY
        go_wp2_with (first | (go_at_call 23; refine HRD.out.mono ?_; rintro e w3 ⟨rfl, e3, o3⟩; have B3 := Lib.hid (HB.out.trans (o3.below (Nat.le_refl _) HB.out.size)); clear e3 o3) | (go_at_call 15; refine (HGO.out _).mono ?_; rintro e w4 ⟨rfl, b4⟩; have HB4 := Lib.hid b4; clear b4))
        refine bodyPost_ret (results_tmp2 rfl _ _ _) rfl ?_
        exact pa_none ((B3.out.alloc B3.out.size _).trans (HB4.out.mono (by have := B3.out.size; simp; omega))) HPZ.out
      | true =>
        have HPZ := Lib.hid (HPY.out hgd)
        unfold mxB at hgd
        rw [hgd] at HGO
        clear hgd HPN HPY
        go_wp2_with (first | (go_at_call 23; refine HRD.out.mono ?_; rintro e w3 ⟨rfl, e3, o3⟩; have B3 := Lib.hid (HB.out.trans (o3.below (Nat.le_refl _) HB.out.size)); have E3 := Lib.hid e3; have O3 := Lib.hid (HO.out.only o3 (Nat.lt_succ_self _)); clear e3 o3) | (go_at_call 15; refine (HGO.out _).mono ?_; rintro e w4 ⟨rfl, b4⟩; have HB4 := Lib.hid ((B3.out.alloc B3.out.size (boxD 42 o)).trans (b4.mono (by have := B3.out.size; simp; omega))); obtain ⟨d0, d1, d2, d3⟩ := box_at (t := 42) (o := o) ((b4.block w3.heap.size (by simp)).trans (by unfold boxD; exact heap_alloc_new w3 _)); have HO4 := Lib.hid (OwnD.at (OwnD.below (O3.out.below ((Below.refl w3.heap.size w3).alloc (Nat.le_refl _) _) (Nat.le_refl _)) b4 (Nat.le_refl _)) HML.out); have HE4 := Lib.hid (EyeAt.of_block E3.out ((b4.block w.heap.size (by have := E3.out.lt; simp; omega)).trans (heap_alloc_old _ _ E3.out.lt))); clear b4) | (refine Great.wpList_buildSliceTo rfl 22 42 1 #[(0, .tmp 19)] rfl _ rfl (some 20) rfl Try.underlying22 #[.int .i64 o.k, .int .i64 o.f, .int .i64 o.s, .string o.d] (opOne o.k o.f o.s o.d) ?_) | (at_builtin; refine wpList_append_lies _ rfl (.tmp 18) (.tmp 20) 22 rfl (w.heap.size + 1) 42 i0 _ 4 40 Try.underlying22 HI.out HZ0.out HZ1.out HZ2.out rfl (by omega) (.slice G j cg) j _ rfl (HO4.out.alloc _) ⟨w4.heap.size, 0, none⟩ 1 1 (dl o) rfl rfl (deed_src w4 _ o) (dl_one o) (by omega) (by have := HM.out; have := HJ.out; unfold maxLen; omega) (by have := HM.out; have := HJ.out; omega) (by have := HE4.out.lt; simp; omega) _ rfl ?_; intro g5 c5 w5 hown5 hg5 hwh5 hl5))
        have HON := Lib.hid (OwnD.grew (o := o) HML.out hown5)
        have HEN := Lib.hid (grown_keeps HO4.out hg5 HE4.out (Nat.lt_succ_self _))
        have HBN := Lib.hid (grown_below HB4.out (Nat.le_refl _) (Nat.le_succ _) HO4.out hg5)
        clear hown5 hg5 hwh5 hl5
        try rw [HW1.out]
        exact ⟨⟨j + 1, _, c5, M ++ [o], r2, bad2, rfl, HJ.out, rfl, by rw [List.length_append, HML.out]; rfl, HON.out, HEN.out, HRR.out, HPZ.out, HBN.out⟩, pt_less j n HJ.out⟩
    · have hje : j = n := by omega
      subst hje
      have x0 : ¬ (j : Int) < (j : Int) := by omega
      have x1 : decide ((j : Int) < (j : Int)) = false := decide_eq_false x0
      have hp := HP.out
      rw [Nat.sub_self, preD_end] at hp
      have HEE := Lib.hid (eye_end wr w.heap.size r bad HE.out)
      have HOD := Lib.hid HO.out
      by_cases hok : bad = false ∧ r.size = 0
      · rw [if_pos hok] at hp
        have HPF := Lib.hid hp
        rw [endOf_ok hok] at HEE
        clear hp hok
        go_wp2_with (fail)
        refine HEE.out.mono ?_
        rintro e w3 ⟨rfl, rfl⟩
        go_wp2_with (fail)
        refine bodyPost_ret (results_tmp2 rfl _ _ _) rfl ?_
        have := HML.out
        subst this
        exact pa_some HB.out HPF.out (OwnD.din HOD.out)
      · rw [if_neg hok] at hp
        have HPF := Lib.hid hp
        rw [endOf_not hok] at HEE
        clear hp hok
        go_wp2_with (fail)
        refine HEE.out.mono ?_
        rintro e w3 ⟨rfl, rfl⟩
        go_wp2_with (fail)
        refine bodyPost_ret (results_tmp2 rfl _ _ _) rfl ?_
        exact pa_none HB.out HPF.out
end Go.Proofs.Ytiehpaffbaafcaa
