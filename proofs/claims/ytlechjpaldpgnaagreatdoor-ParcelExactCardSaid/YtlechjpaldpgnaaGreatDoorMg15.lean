/-
  Deeds by which a text comes of another one, their bytes, and the deeds that bytes tell, in plain words. No program here. No conditions.
  Package patch: inside, tellable and Good; the reference's Good. No conditions.
-/
import Derived.Test.YtlechjpaldpgnaaGreatDoorMg3
set_option maxRecDepth 100000
namespace Go.Proofs.YtlechjpaldpgnaaGreatDoor
open Go Go.RowKit Pn
namespace Pt

structure Deed where
  k : Int
  f : Int
  s : Int
  d : ByteArray
def dz : Deed := ⟨0, 0, 0, ⟨#[]⟩⟩
def dl (o : Deed) : List Value := [.int .i64 o.k, .int .i64 o.f, .int .i64 o.s, .string o.d]
def dv (o : Deed) : Value := .agg #[.int .i64 o.k, .int .i64 o.f, .int .i64 o.s, .string o.d]
def dsL (L : List Deed) : List Value := L.flatMap dl
theorem dl_length (o : Deed) : (dl o).length = 4 := rfl
theorem dsL_length (L : List Deed) : (dsL L).length = L.length * 4 := by
  unfold dsL
  induction L with
  | nil => rfl
  | cons r L ih => rw [List.flatMap_cons, List.length_append, ih, List.length_cons]; show 4 + _ = _; omega
theorem dsL_append (L M : List Deed) : dsL (L ++ M) = dsL L ++ dsL M := by unfold dsL; rw [List.flatMap_append]
theorem dsL_next (L : List Deed) (o : Deed) : dsL (L ++ [o]) = dsL L ++ dl o := by
  rw [dsL_append]
  congr 1
theorem dl_one (o : Deed) : ∀ u ∈ dl o, u.oneCell' = true := fun u hu => by
  unfold dl at hu
  simp only [List.mem_cons, List.not_mem_nil, or_false] at hu
  rcases hu with rfl | rfl | rfl | rfl <;> rfl
theorem dsL_one (L : List Deed) : ∀ u ∈ dsL L, u.oneCell' = true := fun u hu => by
  unfold dsL at hu
  obtain ⟨o, _, h⟩ := List.mem_flatMap.1 hu
  exact dl_one o u h
theorem dsL_at : ∀ (L : List Deed) (i : Nat) (r : Deed), L[i]? = some r → ∀ j, j < 4 → (dsL L)[i * 4 + j]? = (dl r)[j]?
  | [], i, r, h, _, _ => by simp at h
  | q :: L, 0, r, h, j, hj => by
    rw [List.getElem?_cons_zero] at h
    injection h with h
    subst h
    unfold dsL
    rw [List.flatMap_cons, List.getElem?_append_left (by show 0 * 4 + j < 4; omega), Nat.zero_mul, Nat.zero_add]
  | q :: L, i + 1, r, h, j, hj => by
    rw [List.getElem?_cons_succ] at h
    unfold dsL
    rw [List.flatMap_cons, List.getElem?_append_right (by show 4 ≤ _; omega)]
    have := dsL_at L i r h j hj
    unfold dsL at this
    rw [← this]
    congr 1
    show (i + 1) * 4 + j - 4 = i * 4 + j
    omega
/-- So many bytes of a base, from one on; bytes that can be told. -/
def insZ (n f s : Int) : Bool := decide (1 ≤ s) && decide (s ≤ n) && decide (0 ≤ f) && decide (f ≤ n - s)
def telB (d : ByteArray) : Bool := decide (1 ≤ d.size) && decide (d.size ≤ 8192)
theorem ins_iff {n f s : Int} : insZ n f s = true ↔ 1 ≤ s ∧ s ≤ n ∧ 0 ≤ f ∧ f ≤ n - s := by unfold insZ; simp [and_assoc]
theorem tel_iff {d : ByteArray} : telB d = true ↔ 1 ≤ d.size ∧ d.size ≤ 8192 := by unfold telB; simp
/-- A deed that can be, of a base of n bytes. -/
def okD (n : Int) (o : Deed) : Bool :=
  if o.k = 1 then decide (o.d.size = 0) && insZ n o.f o.s
  else if o.k = 2 then decide (o.f = 0) && decide (o.s = 0) && telB o.d
  else if o.k = 3 then decide (o.s = 0) && telB o.d && insZ n o.f (o.d.size : Int)
  else false
inductive Way (n : Int) (o : Deed) : Prop
  | copy (k : o.k = 1) (d : o.d.size = 0) (i : insZ n o.f o.s = true)
  | lay (k : o.k = 2) (f : o.f = 0) (s : o.s = 0) (t : telB o.d = true)
  | add (k : o.k = 3) (s : o.s = 0) (t : telB o.d = true) (i : insZ n o.f (o.d.size : Int) = true)
theorem way {n : Int} {o : Deed} (h : okD n o = true) : Way n o := by
  unfold okD at h
  split at h
  · rename_i hk
    simp only [Bool.and_eq_true, decide_eq_true_eq] at h
    exact .copy hk h.1 h.2
  · split at h
    · rename_i hk
      simp only [Bool.and_eq_true, decide_eq_true_eq] at h
      exact .lay hk h.1.1 h.1.2 h.2
    · split at h
      · rename_i hk
        simp only [Bool.and_eq_true, decide_eq_true_eq] at h
        exact .add hk h.1.1 h.1.2 h.2
      · cases h
/-- What comes by a deed; how many bytes. -/
def numD (o : Deed) : Nat := o.s.toNat + o.d.size
def comeL (b : ByteArray) (o : Deed) : List UInt8 :=
  if o.k = 1 then (b.data.toList.drop o.f.toNat).take o.s.toNat
  else if o.k = 3 then (List.range o.d.size).map fun i => byAt o.d i + byAt b (o.f.toNat + i)
  else o.d.data.toList
theorem come_length {b : ByteArray} {o : Deed} (h : okD (b.size : Int) o = true) : (comeL b o).length = numD o := by
  have hb : b.data.toList.length = b.size := rfl
  have hd : o.d.data.toList.length = o.d.size := rfl
  unfold comeL numD
  cases way h with
  | copy k d i =>
    have := ins_iff.1 i
    rw [if_pos k, List.length_take, List.length_drop]
    omega
  | lay k f s t =>
    rw [if_neg (by omega), if_neg (by omega)]
    omega
  | add k s t i =>
    rw [if_neg (by omega), if_pos k, List.length_map, List.length_range]
    omega
/-- What comes of a base by deeds, behind what came; the error. -/
def appD (b : ByteArray) : List UInt8 → List Deed → List UInt8 × Int
  | x, [] => (x, 0)
  | x, o :: r => if okD (b.size : Int) o = true then (if x.length + numD o ≤ 8192 then appD b (x ++ comeL b o) r else ([], 12)) else ([], 1)
theorem app_yes {b : ByteArray} {x : List UInt8} {o : Deed} {r : List Deed} (h : okD (b.size : Int) o = true) (hl : x.length + numD o ≤ 8192) : appD b x (o :: r) = appD b (x ++ comeL b o) r := by
  rw [appD, if_pos h, if_pos hl]
theorem app_long {b : ByteArray} {x : List UInt8} {o : Deed} {r : List Deed} (h : okD (b.size : Int) o = true) (hl : ¬ x.length + numD o ≤ 8192) : appD b x (o :: r) = ([], 12) := by
  rw [appD, if_pos h, if_neg hl]
theorem app_not {b : ByteArray} {x : List UInt8} {o : Deed} {r : List Deed} (h : okD (b.size : Int) o = false) : appD b x (o :: r) = ([], 1) := by
  rw [appD, if_neg (by rw [h]; exact Bool.false_ne_true)]
theorem app_size (b : ByteArray) : ∀ (L : List Deed) (x : List UInt8), x.length ≤ 8192 → (appD b x L).1.length ≤ 8192
  | [], x, h => h
  | o :: r, x, h => by
    cases hg : okD (b.size : Int) o with
    | false => rw [app_not hg]; exact Nat.zero_le _
    | true =>
      by_cases hl : x.length + numD o ≤ 8192
      · rw [app_yes hg hl]
        exact app_size b r _ (by rw [List.length_append, come_length hg]; exact hl)
      · rw [app_long hg hl]; exact Nat.zero_le _
theorem app_err (b : ByteArray) : ∀ (L : List Deed) (x : List UInt8), (appD b x L).2 ≠ 0 → (appD b x L).1 = []
  | [], x, h => absurd rfl h
  | o :: r, x, h => by
    cases hg : okD (b.size : Int) o with
    | false => rw [app_not hg]
    | true =>
      by_cases hl : x.length + numD o ≤ 8192
      · rw [app_yes hg hl] at h ⊢
        exact app_err b r _ h
      · rw [app_long hg hl]
theorem app_more (b : ByteArray) : ∀ (L : List Deed) (x : List UInt8), (appD b x L).2 = 0 → x.length ≤ (appD b x L).1.length
  | [], x, _ => Nat.le_refl _
  | o :: r, x, h => by
    cases hg : okD (b.size : Int) o with
    | false => rw [app_not hg] at h; cases h
    | true =>
      by_cases hl : x.length + numD o ≤ 8192
      · rw [app_yes hg hl] at h ⊢
        exact Nat.le_trans (by rw [List.length_append]; omega) (app_more b r _ h)
      · rw [app_long hg hl] at h; cases h
/-- Deeds one behind the other. -/
theorem app_append (b : ByteArray) (M : List Deed) : ∀ (L : List Deed) (x : List UInt8), appD b x (L ++ M) = if (appD b x L).2 = 0 then appD b (appD b x L).1 M else appD b x L
  | [], x => by rw [List.nil_append]; exact (if_pos (show (appD b x []).2 = 0 from rfl)).symm
  | o :: r, x => by
    rw [List.cons_append]
    cases hg : okD (b.size : Int) o with
    | false => rw [app_not hg, app_not hg]; exact (if_neg (by decide)).symm
    | true =>
      by_cases hl : x.length + numD o ≤ 8192
      · rw [app_yes hg hl, app_yes hg hl]
        exact app_append b M r _
      · rw [app_long hg hl, app_long hg hl]; exact (if_neg (by decide)).symm
/-- The same deeds behind more. -/
theorem app_behind (b : ByteArray) (z : List UInt8) : ∀ (L : List Deed) (x : List UInt8), z.length + x.length ≤ 8192 →
    ((appD b x L).2 = 0 ∧ z.length + (appD b x L).1.length ≤ 8192 ∧ appD b (z ++ x) L = (z ++ (appD b x L).1, 0)) ∨
    (((appD b x L).2 ≠ 0 ∨ ¬ z.length + (appD b x L).1.length ≤ 8192) ∧ (appD b (z ++ x) L).2 ≠ 0)
  | [], x, h => .inl ⟨rfl, h, rfl⟩
  | o :: r, x, h => by
    cases hg : okD (b.size : Int) o with
    | false => rw [app_not hg, app_not hg]; exact .inr ⟨.inl (by decide), by decide⟩
    | true =>
      have hc := come_length hg
      by_cases hz : z.length + x.length + numD o ≤ 8192
      · have h1 : x.length + numD o ≤ 8192 := by omega
        have h2 : (z ++ x).length + numD o ≤ 8192 := by rw [List.length_append]; omega
        rw [app_yes hg h1, app_yes hg h2, List.append_assoc]
        exact app_behind b z r _ (by rw [List.length_append]; omega)
      · have h2 : ¬ (z ++ x).length + numD o ≤ 8192 := by rw [List.length_append]; omega
        rw [app_long hg h2]
        refine .inr ⟨?_, (by decide)⟩
        by_cases h1 : x.length + numD o ≤ 8192
        · rw [app_yes hg h1]
          by_cases he : (appD b (x ++ comeL b o) r).2 = 0
          · refine .inr ?_
            have := app_more b r _ he
            rw [List.length_append] at this
            omega
          · exact .inl he
        · rw [app_long hg h1]; exact .inl (by decide)
theorem rows_law (b : ByteArray) (L M : List Deed) :
    ((appD b [] L).2 ≠ 0 → (appD b [] (L ++ M)).2 = (appD b [] L).2 ∧ (appD b [] (L ++ M)).1 = []) ∧
    ((appD b [] L).2 = 0 → (appD b [] M).2 ≠ 0 ∨ ¬ (appD b [] L).1.length + (appD b [] M).1.length ≤ 8192 → (appD b [] (L ++ M)).2 ≠ 0 ∧ (appD b [] (L ++ M)).1 = []) ∧
    ((appD b [] L).2 = 0 → (appD b [] M).2 = 0 → (appD b [] L).1.length + (appD b [] M).1.length ≤ 8192 → (appD b [] (L ++ M)).2 = 0 ∧ (appD b [] (L ++ M)).1 = (appD b [] L).1 ++ (appD b [] M).1) := by
  have ha := app_append b M L []
  refine ⟨fun h => ?_, fun h hm => ?_, fun h hm hl => ?_⟩
  · rw [if_neg h] at ha
    rw [ha]
    exact ⟨rfl, app_err b L [] h⟩
  · rw [if_pos h] at ha
    have hs := app_size b L [] (Nat.zero_le _)
    have := app_behind b (appD b [] L).1 M [] (by simpa using hs)
    rw [List.append_nil] at this
    rcases this with ⟨e, hl, _⟩ | ⟨_, h2⟩
    · rcases hm with hm | hm
      · exact absurd e hm
      · exact absurd hl hm
    · rw [ha]
      exact ⟨h2, app_err b M _ h2⟩
  · rw [if_pos h] at ha
    have hs := app_size b L [] (Nat.zero_le _)
    have := app_behind b (appD b [] L).1 M [] (by simpa using hs)
    rw [List.append_nil] at this
    rcases this with ⟨_, _, e⟩ | ⟨h1, _⟩
    · rw [ha, e]
      exact ⟨rfl, rfl⟩
    · rcases h1 with h1 | h1
      · exact absurd hm h1
      · exact absurd hl h1

/-- A base's bytes at most, when deeds are told. -/
def mxB : Int := 2147483647
/-- A deed's bytes; those of deeds. -/
def bytL (o : Deed) : List UInt8 :=
  UInt8.ofNat (o.k % 256).toNat :: (if o.k = 1 then numL o.f ++ numL o.s else if o.k = 2 then textL o.d else numL o.f ++ textL o.d)
def bodL (L : List Deed) : List UInt8 := L.flatMap bytL
theorem bodL_next (L : List Deed) (o : Deed) : bodL (L ++ [o]) = bodL L ++ bytL o := by
  unfold bodL
  rw [List.flatMap_append, List.flatMap_cons, List.flatMap_nil, List.append_nil]
def canD (L : List Deed) : Bool := decide (L.length ≤ 256) && L.all (okD mxB)
def allL (L : List Deed) : List UInt8 := numL (L.length : Int) ++ bodL L
theorem bytL_le {o : Deed} (h : okD mxB o = true) : (bytL o).length ≤ 8201 := by
  unfold bytL
  cases way h with
  | copy k d i => rw [if_pos k, List.length_cons, List.length_append, numL_length, numL_length]; omega
  | lay k f s t =>
    have := tel_iff.1 t
    rw [if_neg (by omega), if_pos k, List.length_cons, textL_length]
    omega
  | add k s t i =>
    have := tel_iff.1 t
    rw [if_neg (by omega), if_neg (by omega), List.length_cons, List.length_append, numL_length, textL_length]
    omega
theorem bodL_le : ∀ L : List Deed, (L.all (okD mxB)) = true → (bodL L).length ≤ 8201 * L.length
  | [], _ => Nat.le_refl _
  | o :: r, h => by
    rw [List.all_cons, Bool.and_eq_true] at h
    have h1 := bytL_le h.1
    have h2 := bodL_le r h.2
    unfold bodL at h2 ⊢
    rw [List.flatMap_cons, List.length_append, List.length_cons]
    omega

/-- A deed as it is read; what is left, and whether something was wrong. -/
def rdD (r : ByteArray) (bad : Bool) : Deed × ByteArray × Bool :=
  let k := ((byAt (tkOut r 1) 0).toNat : Int)
  let r1 := tkRest r 1
  let b1 := tkBad r bad 1
  if k = 1 then (⟨k, (nmOut r1 mxB : Int), (nmOut (nmRest r1 mxB) mxB : Int), ⟨#[]⟩⟩, nmRest (nmRest r1 mxB) mxB, nmBad (nmRest r1 mxB) (nmBad r1 b1 mxB) mxB)
  else if k = 2 then (⟨k, 0, 0, txOut r1 8192⟩, txRest r1 8192, txBad r1 b1 8192)
  else if k = 3 then (⟨k, (nmOut r1 mxB : Int), 0, txOut (nmRest r1 mxB) 8192⟩, txRest (nmRest r1 mxB) 8192, txBad (nmRest r1 mxB) (nmBad r1 b1 mxB) 8192)
  else (⟨k, 0, 0, ⟨#[]⟩⟩, r1, b1)
/-- So many deeds as they are read; none, if one can't be. -/
def prD : Nat → ByteArray → Bool → Option (List Deed × ByteArray × Bool)
  | 0, r, bad => some ([], r, bad)
  | n + 1, r, bad => if okD mxB (rdD r bad).1 = true then (prD n (rdD r bad).2.1 (rdD r bad).2.2).map fun x => ((rdD r bad).1 :: x.1, x.2) else none
theorem prD_yes {n : Nat} {r : ByteArray} {bad : Bool} (h : okD mxB (rdD r bad).1 = true) : prD (n + 1) r bad = (prD n (rdD r bad).2.1 (rdD r bad).2.2).map fun x => ((rdD r bad).1 :: x.1, x.2) := by rw [prD, if_pos h]
theorem prD_not {n : Nat} {r : ByteArray} {bad : Bool} (h : okD mxB (rdD r bad).1 = false) : prD (n + 1) r bad = none := by rw [prD, if_neg (by rw [h]; exact Bool.false_ne_true)]
/-- The deeds that bytes tell. -/
def endD (x : Option (List Deed × ByteArray × Bool)) : Option (List Deed) := x.bind fun y => if y.2.2 = false ∧ y.2.1.size = 0 then some y.1 else none
def parD (s : ByteArray) : Option (List Deed) := endD (prD (nmOut s 256) (nmRest s 256) (nmBad s false 256))
end Pt
end Go.Proofs.YtlechjpaldpgnaaGreatDoor
namespace Go.Proofs.YtlechjpaldpgnaaGreatDoor
open Go.ChangeShapes Go.WideShapes Go.ChangeAt Go.RowKit Pn Pt

set_option maxRecDepth 100000 in
theorem pt_inside (n f s : Int) (hn0 : 0 ≤ n) (hn : n ≤ 9223372036854775807) (w : World) : Calls Tryz.prog 88 #[.int .i64 n, .int .i64 f, .int .i64 s] w fun e w' => e = .returned (.bool (insZ n f s)) ∧ w = w' := by
  have fin : ∀ a b c d : Bool, decide (1 ≤ s) = a → decide (s ≤ n) = b → decide (0 ≤ f) = c → decide (f ≤ n - s) = d → insZ n f s = (a && b && c && d) := fun a b c d h1 h2 h3 h4 => by unfold insZ; rw [h1, h2, h3, h4]
  have HF := Lib.hid fin
  clear fin
  by_cases h1 : 1 ≤ s
  · have t1 : decide (1 ≤ s) = true := decide_eq_true h1
    by_cases h2 : s ≤ n
    · have t2 : decide (s ≤ n) = true := decide_eq_true h2
      by_cases h3 : 0 ≤ f
      · have t3 : decide (0 ≤ f) = true := decide_eq_true h3
        have e1 : IntKind.i64.wrap (n - s) = n - s := IntWalk.i64_in _ (by omega)
        have HG := Lib.hid (HF.out _ _ _ _ t1 t2 t3 rfl)
        go_enter Tryz.func88, Tryz.ntmps88
        go_wp2_with (fail)
        refine bodyPost_ret (results_tmp rfl _ _ _) rfl ?_
        rw [HG.out]
        exact ⟨rfl, rfl⟩
      · have t3 : decide (0 ≤ f) = false := decide_eq_false h3
        have HG := Lib.hid (HF.out _ _ _ _ t1 t2 t3 rfl)
        go_enter Tryz.func88, Tryz.ntmps88
        go_wp2_with (fail)
        refine bodyPost_ret (results_tmp rfl _ _ _) rfl ?_
        rw [HG.out]
        exact ⟨rfl, rfl⟩
    · have t2 : decide (s ≤ n) = false := decide_eq_false h2
      have HG := Lib.hid (HF.out _ _ _ _ t1 t2 rfl rfl)
      go_enter Tryz.func88, Tryz.ntmps88
      go_wp2_with (fail)
      refine bodyPost_ret (results_tmp rfl _ _ _) rfl ?_
      rw [HG.out]
      exact ⟨rfl, rfl⟩
  · have t1 : decide (1 ≤ s) = false := decide_eq_false h1
    have HG := Lib.hid (HF.out _ _ _ _ t1 rfl rfl rfl)
    go_enter Tryz.func88, Tryz.ntmps88
    go_wp2_with (fail)
    refine bodyPost_ret (results_tmp rfl _ _ _) rfl ?_
    rw [HG.out]
    exact ⟨rfl, rfl⟩
set_option maxRecDepth 100000 in
theorem pt_tellable (d : ByteArray) (w : World) : Calls Tryz.prog 89 #[.string d] w fun e w' => e = .returned (.bool (telB d)) ∧ w = w' := by
  by_cases h1 : 1 ≤ d.size
  · have t1 : decide (1 ≤ (d.size : Int)) = true := decide_eq_true (by omega)
    have HG := Lib.hid (show telB d = decide ((d.size : Int) ≤ 8192) by unfold telB; rw [decide_eq_true h1, Bool.true_and]; exact decide_eq_decide.2 (by omega))
    have h1' : (1 : Int) ≤ (d.size : Int) := by omega
    go_enter Tryz.func89, Tryz.ntmps89
    go_wp2_with (fail)
    refine bodyPost_ret (results_tmp rfl _ _ _) rfl ?_
    rw [HG.out]
    exact ⟨rfl, rfl⟩
  · have t1 : decide (1 ≤ (d.size : Int)) = false := decide_eq_false (by omega)
    have HG := Lib.hid (show telB d = false by unfold telB; rw [decide_eq_false h1, Bool.false_and])
    have h1' : ¬ (1 : Int) ≤ (d.size : Int) := by omega
    go_enter Tryz.func89, Tryz.ntmps89
    go_wp2_with (fail)
    refine bodyPost_ret (results_tmp rfl _ _ _) rfl ?_
    rw [HG.out]
    exact ⟨rfl, rfl⟩
theorem str_some {d : ByteArray} (h : decide (d.size = 0) = false) : d.toList.isEmpty = false := not_empty (by have := of_decide_eq_false h; omega)
set_option maxRecDepth 100000 in
set_option maxHeartbeats 3200000 in
theorem pt_good (n : Int) (hn0 : 0 ≤ n) (hn : n ≤ 9223372036854775807) (o : Deed) (w : World) : Calls Tryz.prog 57 #[.int .i64 n, dv o] w fun e w' => e = .returned (.bool (okD n o)) ∧ Below w.heap.size w w' := by
  have HB := Lib.hid ((Below.refl w.heap.size w).alloc (Nat.le_refl _) (.cells #[.int .i64 o.k, .int .i64 o.f, .int .i64 o.s, .string o.d] 72))
  have HI := Lib.hid (fun f s W => pt_inside n f s hn0 hn W)
  have HT := Lib.hid (fun W => pt_tellable o.d W)
  have fin : okD n o = if o.k = 1 then decide (o.d.size = 0) && insZ n o.f o.s else if o.k = 2 then decide (o.f = 0) && decide (o.s = 0) && telB o.d else if o.k = 3 then decide (o.s = 0) && telB o.d && insZ n o.f (o.d.size : Int) else false := rfl
  obtain ⟨k, f, s, d⟩ := o
  unfold dv
  simp only at fin HB HT
  have HF := Lib.hid fin
  clear fin hn0 hn
  by_cases hk1 : k = 1
  · subst hk1
    have HG := Lib.hid (HF.out.trans (if_pos rfl))
    clear HF
    cases hd : decide (d.size = 0) with
    | true =>
      obtain rfl := empty_of_size (of_decide_eq_true hd)
      cases hq : insZ n f s
      all_goals
        rw [hd, hq] at HG
        go_enter Tryz.func57, Tryz.ntmps57
        go_wp2_with (first | (go_at_call 88; refine (HI.out _ _ _).mono ?_; rintro e w' ⟨rfl, rfl⟩; rw [hq]))
        refine bodyPost_ret (results_tmp rfl _ _ _) rfl ?_
        rw [HG.out]
        exact ⟨rfl, HB.out⟩
    | false =>
      have he := str_some hd
      rw [hd, Bool.false_and] at HG
      go_enter Tryz.func57, Tryz.ntmps57
      go_wp2_with (fail)
      refine bodyPost_ret (results_tmp rfl _ _ _) rfl ?_
      rw [HG.out]
      exact ⟨rfl, HB.out⟩
  have k1 : decide (k = 1) = false := decide_eq_false hk1
  by_cases hk2 : k = 2
  · subst hk2
    have HG := Lib.hid (HF.out.trans ((if_neg (by decide)).trans (if_pos rfl)))
    clear HF
    by_cases hf : f = 0
    · subst hf
      by_cases hs : s = 0
      · subst hs
        cases ht : telB d
        all_goals
          rw [ht] at HG
          go_enter Tryz.func57, Tryz.ntmps57
          go_wp2_with (first | (go_at_call 89; refine (HT.out _).mono ?_; rintro e w' ⟨rfl, rfl⟩; rw [ht]))
          refine bodyPost_ret (results_tmp rfl _ _ _) rfl ?_
          rw [HG.out]
          exact ⟨rfl, HB.out⟩
      · have s1 : decide (s = 0) = false := decide_eq_false hs
        rw [s1] at HG
        go_enter Tryz.func57, Tryz.ntmps57
        go_wp2_with (fail)
        refine bodyPost_ret (results_tmp rfl _ _ _) rfl ?_
        rw [HG.out]
        exact ⟨rfl, HB.out⟩
    · have f1 : decide (f = 0) = false := decide_eq_false hf
      rw [f1] at HG
      go_enter Tryz.func57, Tryz.ntmps57
      go_wp2_with (fail)
      refine bodyPost_ret (results_tmp rfl _ _ _) rfl ?_
      rw [HG.out]
      exact ⟨rfl, HB.out⟩
  have k2 : decide (k = 2) = false := decide_eq_false hk2
  by_cases hk3 : k = 3
  · subst hk3
    have HG := Lib.hid (HF.out.trans ((if_neg (by decide)).trans ((if_neg (by decide)).trans (if_pos rfl))))
    clear HF
    by_cases hs : s = 0
    · subst hs
      cases ht : telB d with
      | false =>
        rw [ht] at HG
        go_enter Tryz.func57, Tryz.ntmps57
        go_wp2_with (first | (go_at_call 89; refine (HT.out _).mono ?_; rintro e w' ⟨rfl, rfl⟩; rw [ht]))
        refine bodyPost_ret (results_tmp rfl _ _ _) rfl ?_
        rw [HG.out]
        exact ⟨rfl, HB.out⟩
      | true =>
        cases hq : insZ n f (d.size : Int)
        all_goals
          rw [ht, hq] at HG
          go_enter Tryz.func57, Tryz.ntmps57
          go_wp2_with (first | (go_at_call 89; refine (HT.out _).mono ?_; rintro e w' ⟨rfl, rfl⟩; rw [ht]) | (go_at_call 88; refine (HI.out _ _ _).mono ?_; rintro e w' ⟨rfl, rfl⟩; rw [hq]))
          refine bodyPost_ret (results_tmp rfl _ _ _) rfl ?_
          rw [HG.out]
          exact ⟨rfl, HB.out⟩
    · have s1 : decide (s = 0) = false := decide_eq_false hs
      rw [s1] at HG
      go_enter Tryz.func57, Tryz.ntmps57
      go_wp2_with (fail)
      refine bodyPost_ret (results_tmp rfl _ _ _) rfl ?_
      rw [HG.out]
      exact ⟨rfl, HB.out⟩
  have k3 : decide (k = 3) = false := decide_eq_false hk3
  have HG := Lib.hid (HF.out.trans ((if_neg hk1).trans ((if_neg hk2).trans (if_neg hk3))))
  clear HF
  go_enter Tryz.func57, Tryz.ntmps57
  go_wp2_with (fail)
  refine bodyPost_ret (results_tmp rfl _ _ _) rfl ?_
  rw [HG.out]
  exact ⟨rfl, HB.out⟩
end Go.Proofs.YtlechjpaldpgnaaGreatDoor
