/-
  Package step: what a walk's gate does. Conditions: a walk stands in its block; the table of gates lies where it is looked up.
  Package step: what a walk's attend does. Conditions: a walk stands in its block, its last place's entry is being made; the table of powers lies where it is looked up.
  Package step: what a walk's scores answers. Conditions: a walk stands in its block.
  Package step: what Run answers. Conditions: a model stands in its block, its weights are as many as its shape asks; the entries and the tokens are there; the tables lie where they are looked up.
  Package step: what Step answers. Conditions: those of Run.
-/
import Derived.Test.YtkdkeokldcehhaaGreatDoorMg16
import Derived.Test.YtkdkeokldcehhaaGreatDoorMg18
import Derived.Test.YtkdkeokldcehhaaGreatDoorMg20
import Derived.Test.YtkdkeokldcehhaaGreatDoorMg17
import Derived.Test.YtkdkeokldcehhaaGreatDoorMg13
set_option maxRecDepth 100000
namespace Go.Proofs.YtkdkeokldcehhaaGreatDoor
open Go.ChangeShapes Go.WideShapes Go.ChangeAt Go.RowKit Nm Cf Vc Br Nr Ac Sp

namespace Sp
theorem isZ_mid {x : Cfg} {s : ByteArray} (h : Ok x s) {p k : Nat} (hp : 2 ≤ p ∧ p ≤ 10) (hk : k < bN x) : isZ x (p : Int) (k : Int) = true := isZ_iff.2 ⟨h.good, by omega, by omega, by omega, by
  have h1 := (dims h.good.is).2.2.1
  unfold timesZ
  rw [if_pos (by omega)]
  omega⟩
theorem cols_of {x : Cfg} (_ : In x) {p : Nat} (hp : p ≤ 9) : (colsZ x (p : Int)).toNat = dN x := by
  unfold colsZ dN
  rw [if_neg (by omega), if_pos (by omega)]
theorem acts_fit {l : List Int} (h : ∀ z ∈ l, -32767 ≤ z ∧ z ≤ 32767) : FitL l := fun i hi => by
  have := h (l.getD i 0) (by rw [List.getD_eq_getElem?_getD, List.getElem?_eq_getElem hi]; exact List.getElem_mem _)
  constructor <;> omega
end Sp
set_option maxRecDepth 100000 in
set_option maxHeartbeats 6400000 in
theorem walk_gate (w0 w : World) (N b wb : Nat) (x : Cfg) (s : ByteArray) (Q : List (Er × Ent)) (v : Value) (X : Option Addr) (c : Nat) (z : List Int) (h : Wk w0 N b wb x s Q v X c z w) (hk : Ok x s) (hp : GOn w)
    (k : Nat) (hkb : k < bN x) (hz : z.length = dN x) :
    Calls Tryz.prog 65 #[.pointer (some ⟨wb, 0, none⟩), .int .i64 (k : Int)] w fun e w' => e = .returned (.tuple #[]) ∧ ∃ W A c', Below w.heap.size w W ∧ KIn .i64 W A (downL x s k z) ∧ w' = W.setCell ⟨wb, 2, none⟩ (.slice A (dN x) c') := by
  have hgood := hk.good
  obtain ⟨hdx, _, _, _⟩ := dims hgood.is
  have hd16 : dN x ≤ 16 := by have := hgood.is.d16; omega
  have hn7 : (normK x s 7 k z).length = dN x := normK_length hgood (by omega) (by
    have := (is_iff.1 (isZ_mid hk (p := 7) (k := k) (by omega) hkb)).2.2.2.2
    exact this) hz
  have h8 := isZ_mid hk (p := 8) (k := k) (by omega) hkb
  have h9 := isZ_mid hk (p := 9) (k := k) (by omega) hkb
  have h10 := isZ_mid hk (p := 10) (k := k) (by omega) hkb
  have hr8 := tim_length x s 8 k (normK x s 7 k z)
  have hr9 := tim_length x s 9 k (normK x s 7 k z)
  have hrows : (rowsZ x ((8 : Nat) : Int)).toNat = (rowsZ x ((9 : Nat) : Int)).toNat := rfl
  have hcols : (colsZ x ((10 : Nat) : Int)).toNat = (rowsZ x ((8 : Nat) : Int)).toNat := rfl
  have hm32 : (rowsZ x ((8 : Nat) : Int)).toNat ≤ 64 := by
    have := (fitB_iff.1 (rows_fit hgood.is (p := ((8 : Nat) : Int)) (by omega) (by omega)).1).2
    omega
  have HN := Lib.hid (show Calls Tryz.prog 91 #[.pointer (some ⟨wb, 0, none⟩), .int .i64 7, .int .i64 (k : Int)] w fun e w' => ∃ A c, e = .returned (.slice A (dN x) c) ∧ KIn .i64 w' A (normK x s 7 k z) ∧ Below w.heap.size w w' from by
    have := walk_norm w0 w N b wb x s Q v X c z h hk 7 k (by omega)
    unfold RowSays at this
    rw [hn7] at this
    exact this)
  have HT8 := Lib.hid (fun W V cv (hW : Below w.heap.size w W) (hV : KIn .i64 W V (normK x s 7 k z)) => show Calls Tryz.prog 92 #[.pointer (some ⟨wb, 0, none⟩), .int .i64 8, .int .i64 (k : Int), .slice V (dN x) cv] W fun e w' => ∃ A c, e = .returned (.slice A (rowsZ x ((8 : Nat) : Int)).toNat c) ∧ KIn .i64 w' A (tim x s 8 k (normK x s 7 k z)) ∧ (rowsZ x ((8 : Nat) : Int)).toNat ≤ c ∧ Below W.heap.size W w' from by
    have := walk_times w0 W N b wb x s Q v X c z (h.step hW) hk 8 k h8 V (dN x) cv _ hn7 (cols_of hgood.is (by omega)) hV
    unfold RowSaysC at this
    rw [hr8] at this
    exact this)
  have HT9 := Lib.hid (fun W V cv (hW : Below w.heap.size w W) (hV : KIn .i64 W V (normK x s 7 k z)) => show Calls Tryz.prog 92 #[.pointer (some ⟨wb, 0, none⟩), .int .i64 9, .int .i64 (k : Int), .slice V (dN x) cv] W fun e w' => ∃ A c, e = .returned (.slice A (rowsZ x ((8 : Nat) : Int)).toNat c) ∧ KIn .i64 w' A (tim x s 9 k (normK x s 7 k z)) ∧ (rowsZ x ((8 : Nat) : Int)).toNat ≤ c ∧ Below W.heap.size W w' from by
    have := walk_times w0 W N b wb x s Q v X c z (h.step hW) hk 9 k h9 V (dN x) cv _ hn7 (cols_of hgood.is (by omega)) hV
    unfold RowSaysC at this
    rw [hr9, ← hrows] at this
    exact this)
  have hpl : (pairsL (tim x s 8 k (normK x s 7 k z)) (tim x s 9 k (normK x s 7 k z))).length = (rowsZ x ((8 : Nat) : Int)).toNat := (pairsL_length (by rw [hr8, hr9, hrows])).trans (hr9.trans hrows.symm)
  have HPR := Lib.hid (fun W A2 c2 A3 c3 (hW : Below w.heap.size w W) (hG : KIn .i64 W A2 (tim x s 8 k (normK x s 7 k z))) (hU : KIn .i64 W A3 (tim x s 9 k (normK x s 7 k z))) => show Calls Tryz.prog 94 #[.slice A2 (rowsZ x ((8 : Nat) : Int)).toNat c2, .slice A3 (rowsZ x ((8 : Nat) : Int)).toNat c3] W fun e w' => ∃ A c, e = .returned (.slice A (rowsZ x ((8 : Nat) : Int)).toNat c) ∧ KIn .i64 w' A (pairsL (tim x s 8 k (normK x s 7 k z)) (tim x s 9 k (normK x s 7 k z))) ∧ Below W.heap.size W w' from by
    have := act_pairs W A2 (rowsZ x ((8 : Nat) : Int)).toNat c2 _ A3 (rowsZ x ((8 : Nat) : Int)).toNat c3 _ hr8 (hr9.trans hrows.symm) (by omega) hG hU (acts_fit (tim_acts x s 8 k _)) (hp.below hW (Nat.le_refl _))
    unfold RowSays at this
    rw [hpl] at this
    exact this)
  have hr10 := tim_length x s 10 k (pairsL (tim x s 8 k (normK x s 7 k z)) (tim x s 9 k (normK x s 7 k z)))
  rw [rows_mid x (p := 10) (by omega)] at hr10
  have HT10 := Lib.hid (fun W V cv (hW : Below w.heap.size w W) (hV : KIn .i64 W V (pairsL (tim x s 8 k (normK x s 7 k z)) (tim x s 9 k (normK x s 7 k z)))) => show Calls Tryz.prog 92 #[.pointer (some ⟨wb, 0, none⟩), .int .i64 10, .int .i64 (k : Int), .slice V (rowsZ x ((8 : Nat) : Int)).toNat cv] W fun e w' => ∃ A c, e = .returned (.slice A (dN x) c) ∧ KIn .i64 w' A (tim x s 10 k (pairsL (tim x s 8 k (normK x s 7 k z)) (tim x s 9 k (normK x s 7 k z)))) ∧ dN x ≤ c ∧ Below W.heap.size W w' from by
    have := walk_times w0 W N b wb x s Q v X c z (h.step hW) hk 10 k h10 V (rowsZ x ((8 : Nat) : Int)).toNat cv _ hpl hcols hV
    unfold RowSaysC at this
    rw [hr10] at this
    exact this)
  have HPL := Lib.hid (fun W V cv (hW : Below w.heap.size w W) (hV : KIn .i64 W V (tim x s 10 k (pairsL (tim x s 8 k (normK x s 7 k z)) (tim x s 9 k (normK x s 7 k z))))) => show Calls Tryz.prog 89 #[.slice X z.length c, .slice V (dN x) cv] W fun e w' => ∃ A c, e = .returned (.slice A (dN x) c) ∧ KIn .i64 w' A (downL x s k z) ∧ Below W.heap.size W w' from by
    have := step_plus W X c V cv z _ (dN x) hz hr10 (by omega) (h.nums.below hW (Nat.le_refl _)) hV
    unfold RowSays at this
    rw [plusL_length] at this
    rw [hz]
    exact this)
  have HK := Lib.hid (fun W (hW : Below w.heap.size w W) => show W.cell? ⟨wb, 2, none⟩ = some (.slice X z.length c) from (three (h.step hW).blk).2.2.1)
  have HF := Lib.hid (fun W (hW : Below w.heap.size w W) => show W.frozen? ⟨wb, 2, none⟩ = false from (three (h.step hW).blk).2.2.2 2)
  generalize hR : downL x s k z = R at *
  generalize tim x s 10 k (pairsL (tim x s 8 k (normK x s 7 k z)) (tim x s 9 k (normK x s 7 k z))) = T10 at *
  generalize pairsL (tim x s 8 k (normK x s 7 k z)) (tim x s 9 k (normK x s 7 k z)) = PP at *
  generalize tim x s 8 k (normK x s 7 k z) = T8 at *
  generalize tim x s 9 k (normK x s 7 k z) = T9 at *
  generalize normK x s 7 k z = NN at *
  generalize (rowsZ x ((8 : Nat) : Int)).toNat = m at *
  generalize dN x = d at *
  generalize z.length = n at *
  clear hgood hdx hd16 hn7 h8 h9 h10 hr8 hr9 hrows hcols hm32 hpl hr10 hR h hk hp hkb hz
  go_enter Tryz.func65, Tryz.ntmps65
  go_wp2_with (fail)
  refine HN.out.mono ?_
  rintro e w1 ⟨A1, c1, rfl, ha, b1⟩
  have N1 := Lib.hid ha
  have B1 := Lib.hid b1
  clear ha b1
  go_wp2_with (fail)
  refine (HT8.out _ _ _ B1.out N1.out).mono ?_
  rintro e w2 ⟨A2, c2, rfl, ha, hc2, b2⟩
  have B2 := Lib.hid (B1.out.trans (b2.mono B1.out.size))
  have G2 := Lib.hid ha
  have N2 := Lib.hid (N1.out.below b2 (Nat.le_refl _))
  clear ha b2 hc2
  go_wp2_with (fail)
  refine (HT9.out _ _ _ B2.out N2.out).mono ?_
  rintro e w3 ⟨A3, c3, rfl, ha, hc3, b3⟩
  have B3 := Lib.hid (B2.out.trans (b3.mono B2.out.size))
  have U3 := Lib.hid (show KIn .i64 w3.drew A3 T9 from ha)
  have G3 := Lib.hid (show KIn .i64 w3.drew A2 T8 from G2.out.below (below_drewN b3 1) (Nat.le_refl _))
  have B0 := Lib.hid (show Below w.heap.size w w3.drew from below_drewN B3.out 1)
  have k0 := HK.out _ B0.out
  clear ha b3 hc3 N1 N2 G2 HN HT8 HT9
  go_wp2_with (fail)
  -- HANDV 0
  refine wp_region_noPanic ?_
  refine wp_region_heldV (S := (fun W : World => W.cell? ⟨wb, 2, none⟩ = some (.slice X n c))) 14 (by kernel_rfl) (by kernel_rfl) (by kernel_rfl) (by kernel_rfl) (by decide) k0 (fun hHeld => ?_)
  refine wpAnyV_take (i := 0) (v := .pointer (some ⟨wb, 0, none⟩)) 18 rfl rfl (by decide) (by kernel_rfl) (by kernel_rfl) (fun _ _ _ h => h) (Or.inl ⟨by rfl, ?_⟩) hHeld ?_
  · intro W hW
    try dsimp only at hW
    go_simp
  simp only [Act.put, List.setIfInBounds_toArray, List.set_cons_succ, List.set_cons_zero]
  refine wpAnyV_take (i := 1) (v := .pointer (some ⟨wb, 0, none⟩)) 19 rfl rfl (by decide) (by kernel_rfl) (by kernel_rfl) (fun _ _ _ h => h) (Or.inl ⟨by rfl, ?_⟩) hHeld ?_
  · intro W hW
    try dsimp only at hW
    go_simp
  simp only [Act.put, List.setIfInBounds_toArray, List.set_cons_succ, List.set_cons_zero]
  refine wpAnyV_take (i := 2) (v := .pointer (some ⟨wb, 0, none⟩)) 20 rfl rfl (by decide) (by kernel_rfl) (by kernel_rfl) (fun _ _ _ h => h) (Or.inl ⟨by rfl, ?_⟩) hHeld ?_
  · intro W hW
    try dsimp only at hW
    go_simp
  simp only [Act.put, List.setIfInBounds_toArray, List.set_cons_succ, List.set_cons_zero]
  refine wpAnyV_take (i := 3) (v := .pointer (some ⟨wb, 2, none⟩)) 21 rfl rfl (by decide) (by kernel_rfl) (by kernel_rfl) (fun _ _ _ h => h) (Or.inl ⟨by rfl, ?_⟩) hHeld ?_
  · intro W hW
    try dsimp only at hW
    go_simp
  simp only [Act.put, List.setIfInBounds_toArray, List.set_cons_succ, List.set_cons_zero]
  refine wpAnyV_take (i := 4) (v := .slice X n c) 22 rfl rfl (by decide) (by kernel_rfl) (by kernel_rfl) (fun _ _ _ h => h) (Or.inl ⟨by rfl, ?_⟩) hHeld ?_
  · intro W hW
    try dsimp only at hW
    go_simp
  simp only [Act.put, List.setIfInBounds_toArray, List.set_cons_succ, List.set_cons_zero]
  refine wpAnyV_take (i := 5) (v := .pointer (some ⟨wb, 0, none⟩)) 23 rfl rfl (by decide) (by kernel_rfl) (by kernel_rfl) (fun _ _ _ h => h) (Or.inl ⟨by rfl, ?_⟩) hHeld ?_
  · intro W hW
    try dsimp only at hW
    go_simp
  simp only [Act.put, List.setIfInBounds_toArray, List.set_cons_succ, List.set_cons_zero]
  refine wpAnyV_take (i := 6) (v := .int .i64 (k : Int)) 24 rfl rfl (by decide) (by kernel_rfl) (by kernel_rfl) (fun _ _ _ h => h) (Or.inl ⟨by rfl, ?_⟩) hHeld ?_
  · intro W hW
    try dsimp only at hW
    go_simp
  simp only [Act.put, List.setIfInBounds_toArray, List.set_cons_succ, List.set_cons_zero]
  refine wpAnyV_take (i := 7) (v := .slice A2 m c2) 25 rfl rfl (by decide) (by kernel_rfl) (by kernel_rfl) (fun _ _ _ h => h) (Or.inl ⟨by rfl, ?_⟩) hHeld ?_
  · intro W hW
    try dsimp only at hW
    go_simp
  simp only [Act.put, List.setIfInBounds_toArray, List.set_cons_succ, List.set_cons_zero]
  refine wpAnyV_take (i := 8) (v := .slice A3 m c3) 26 rfl rfl (by decide) (by kernel_rfl) (by kernel_rfl) (fun _ _ _ h => h) (Or.inl ⟨by rfl, ?_⟩) hHeld ?_
  · intro W hW
    try dsimp only at hW
    go_simp
  simp only [Act.put, List.setIfInBounds_toArray, List.set_cons_succ, List.set_cons_zero]
  refine wpAnyV_one (i := 9) (by kernel_rfl) rfl (by decide) (fun K hK => ?_)
  go_simp
  refine (HPR.out _ _ _ _ _ B0.out G3.out U3.out).mono ?_
  rintro e w4 ⟨A4, c4, rfl, ha, b4⟩
  have P4 := Lib.hid ha
  have B4 := Lib.hid (B0.out.trans (b4.mono B0.out.size))
  have k4 := HK.out _ B4.out
  clear ha b4
  refine hK.out _ _ k4 (fun hHeld2 => ?_)
  clear hK K hHeld
  have hHeld := hHeld2
  clear hHeld2
  try simp only [Act.put, List.setIfInBounds_toArray, List.set_cons_succ, List.set_cons_zero]
  refine wpAnyV_one (i := 10) (by kernel_rfl) rfl (by decide) (fun K hK => ?_)
  go_simp
  refine (HT10.out _ _ _ B4.out P4.out).mono ?_
  rintro e w5 ⟨A5, c5, rfl, ha, hc5, b5⟩
  have P5 := Lib.hid ha
  have B5 := Lib.hid (B4.out.trans (b5.mono B4.out.size))
  have k5 := HK.out _ B5.out
  clear ha hc5 b5
  refine hK.out _ _ k5 (fun hHeld2 => ?_)
  clear hK K hHeld
  have hHeld := hHeld2
  clear hHeld2
  try simp only [Act.put, List.setIfInBounds_toArray, List.set_cons_succ, List.set_cons_zero]
  refine wpAnyV_one (i := 11) (by kernel_rfl) rfl (by decide) (fun K hK => ?_)
  go_simp
  refine (HPL.out _ _ _ B5.out P5.out).mono ?_
  rintro e w6 ⟨A6, c6, rfl, ha, b6⟩
  have P6 := Lib.hid ha
  have B6 := Lib.hid (B5.out.trans (b6.mono B5.out.size))
  have k6 := HK.out _ B6.out
  have f6 := HF.out _ B6.out
  clear ha b6
  refine hK.out _ _ k6 (fun hHeld2 => ?_)
  clear hK K hHeld
  have hHeld := hHeld2
  clear hHeld2
  try simp only [Act.put, List.setIfInBounds_toArray, List.set_cons_succ, List.set_cons_zero]
  refine wpAnyV_take (i := 12) (v := .pointer (some ⟨wb, 0, none⟩)) 30 rfl rfl (by decide) (by kernel_rfl) (by kernel_rfl) (fun _ _ _ h => h) (Or.inl ⟨by rfl, ?_⟩) hHeld ?_
  · intro W hW
    try dsimp only at hW
    go_simp
  simp only [Act.put, List.setIfInBounds_toArray, List.set_cons_succ, List.set_cons_zero]
  refine wpAnyV_take (i := 13) (v := .pointer (some ⟨wb, 2, none⟩)) 31 rfl rfl (by decide) (by kernel_rfl) (by kernel_rfl) (fun _ _ _ h => h) (Or.inl ⟨by rfl, ?_⟩) hHeld ?_
  · intro W hW
    try dsimp only at hW
    go_simp
  simp only [Act.put, List.setIfInBounds_toArray, List.set_cons_succ, List.set_cons_zero]
  refine wpAnyV_last (by kernel_rfl) rfl (by kernel_rfl) (fun K hK => ?_)
  go_simp
  refine hK.out _ _ ?_
  refine NoPanic.normal ?_
  -- VDNAH 0
  go_wp2_with (fail)
  go_end0
  exact ⟨rfl, w6, A6, c6, B6.out, P6.out, rfl⟩
end Go.Proofs.YtkdkeokldcehhaaGreatDoor
namespace Go.Proofs.YtkdkeokldcehhaaGreatDoor
open Go.ChangeShapes Go.WideShapes Go.ChangeAt Go.RowKit Nm Cf Vc Br Nr Sf Sp

set_option maxRecDepth 100000 in
set_option maxHeartbeats 12800000 in
theorem walk_attend (w0 w : World) (N b wb kb vb : Nat) (x : Cfg) (s : ByteArray) (Q : List (Er × Ent)) (r : Er) (e : Ent) (v : Value) (X : Option Addr) (c : Nat) (z : List Int) (h : Wp w0 N b wb kb vb x s Q r e v X c z w) (hk : Ok x s) (hp : POn w)
    (k : Nat) (hkb : k < bN x) (hz : z.length = dN x) (hQ : GoodQ x Q) (hek : e.ks.length = bN x) (hev : e.vs.length = bN x) (hQl : Q.length ≤ 900) (hNp : 0 < N) :
    Calls Tryz.prog 64 #[.pointer (some ⟨wb, 0, none⟩), .int .i64 (k : Int)] w fun e' w' => e' = .returned (.tuple #[]) ∧ ∃ r' X' c', Wp w0 N b wb kb vb x s Q r' ⟨e.ks.set k (keyL x s k z), e.vs.set k (valL x s k z)⟩ v X' c' (midL x s k (kOf Q k) (vOf Q k) z) w' ∧ (Fr N r e → Fr N r' ⟨e.ks.set k (keyL x s k z), e.vs.set k (valL x s k z)⟩) := by
  have hgood := hk.good
  obtain ⟨hdx, hhx, _, _⟩ := dims hgood.is
  have hd16 : dN x ≤ 16 := by have := hgood.is.d16; omega
  have hd1 : 1 ≤ dN x := by have := hgood.is.d1; omega
  have hn2 : (normK x s 2 k z).length = dN x := normK_length hgood (by omega) (is_iff.1 (isZ_mid hk (p := 2) (k := k) (by omega) hkb)).2.2.2.2 hz
  have htl : ∀ p, p = 3 ∨ p = 4 ∨ p = 5 ∨ p = 6 → ∀ l, (tim x s p k l).length = dN x := fun p hp' l => (tim_length x s p k l).trans (rows_mid x (by omega))
  have HN := Lib.hid (show Calls Tryz.prog 91 #[.pointer (some ⟨wb, 0, none⟩), .int .i64 2, .int .i64 (k : Int)] w fun e w' => ∃ A c, e = .returned (.slice A (dN x) c) ∧ KIn .i64 w' A (normK x s 2 k z) ∧ Below w.heap.size w w' from by
    have := walk_norm w0 w N b wb x s _ v X c z h.wk hk 2 k (by omega)
    unfold RowSays at this
    rw [hn2] at this
    exact this)
  have ht : ∀ (p : Nat), p = 3 ∨ p = 4 ∨ p = 5 ∨ p = 6 → ∀ (l : List Int), l.length = dN x → ∀ (W : World) (r : Er) (e : Ent) (V : Option Addr) (cv : Nat), Wp w0 N b wb kb vb x s Q r e v X c z W → KIn .i64 W V l → Calls Tryz.prog 92 #[.pointer (some ⟨wb, 0, none⟩), .int .i64 (p : Int), .int .i64 (k : Int), .slice V (dN x) cv] W fun e w' => ∃ A c, e = .returned (.slice A (dN x) c) ∧ KIn .i64 w' A (tim x s p k l) ∧ dN x ≤ c ∧ (∀ a, A = some a → W.heap.size ≤ a.block) ∧ Below W.heap.size W w' := fun p hp' l hl W r e V cv hW hV => by
    have := walk_times_new w0 W N b wb x s _ v X c z hW.wk hk p k (isZ_mid hk (by omega) hkb) V (dN x) cv _ hl (cols_of hgood.is (by omega)) hV
    unfold RowSaysN at this
    rw [htl p hp'] at this
    exact this
  have HT3 := Lib.hid (fun W r e V cv hW hV => show Calls Tryz.prog 92 #[.pointer (some ⟨wb, 0, none⟩), .int .i64 3, .int .i64 (k : Int), .slice V (dN x) cv] W fun e w' => ∃ A c, e = .returned (.slice A (dN x) c) ∧ KIn .i64 w' A (tim x s 3 k (normK x s 2 k z)) ∧ dN x ≤ c ∧ (∀ a, A = some a → W.heap.size ≤ a.block) ∧ Below W.heap.size W w' from ht 3 (by omega) _ hn2 W r e V cv hW hV)
  have HT4 := Lib.hid (fun W r e V cv hW hV => show Calls Tryz.prog 92 #[.pointer (some ⟨wb, 0, none⟩), .int .i64 4, .int .i64 (k : Int), .slice V (dN x) cv] W fun e w' => ∃ A c, e = .returned (.slice A (dN x) c) ∧ KIn .i64 w' A (keyL x s k z) ∧ dN x ≤ c ∧ (∀ a, A = some a → W.heap.size ≤ a.block) ∧ Below W.heap.size W w' from ht 4 (by omega) _ hn2 W r e V cv hW hV)
  have HT5 := Lib.hid (fun W r e V cv hW hV => show Calls Tryz.prog 92 #[.pointer (some ⟨wb, 0, none⟩), .int .i64 5, .int .i64 (k : Int), .slice V (dN x) cv] W fun e w' => ∃ A c, e = .returned (.slice A (dN x) c) ∧ KIn .i64 w' A (valL x s k z) ∧ dN x ≤ c ∧ (∀ a, A = some a → W.heap.size ≤ a.block) ∧ Below W.heap.size W w' from ht 5 (by omega) _ hn2 W r e V cv hW hV)
  obtain ⟨g, cap, rfl, hcap, hlc1, hlc2⟩ := h.lastCells
  have HLC := Lib.hid (fun W (hW : Below w.heap.size w W) => show W.cell? ⟨wb, 1, none⟩ = some (.slice (some ⟨g, 0, none⟩) (Q.length + 1) cap) ∧ W.cell? ⟨g, Q.length * 2, none⟩ = some (.slice (some ⟨kb, 0, none⟩) e.ks.length r.kc) ∧ W.cell? ⟨g, Q.length * 2 + 1, none⟩ = some (.slice (some ⟨vb, 0, none⟩) e.vs.length r.vc) from
    ⟨(three (h.wk.step hW).blk).2.1, hb0c4 hW hlc1, hb0c4 hW hlc2⟩)
  have H := Lib.hid h
  have hheads := heads hgood
  have hh4 : hN x ≤ 4 := by have := hgood.is.h4; omega
  have hnH1 : 0 < nH x := Nat.pos_of_ne_zero fun e => by rw [e, Nat.mul_zero] at hheads; omega
  have HHN := Lib.hid (And.intro hheads (And.intro hh4 hnH1))
  have HHX := Lib.hid (show x.h = (hN x : Int) from hhx.symm)
  have hql : (tim x s 3 k (normK x s 2 k z)).length = dN x := htl 3 (by omega) _
  have hkl : (keyL x s k z).length = dN x := htl 4 (by omega) _
  have hvl : (valL x s k z).length = dN x := htl 5 (by omega) _
  have HLL := Lib.hid (And.intro hql (And.intro hkl hvl))
  have HMX := Lib.hid (fun (W : World) (r' : Er) (i qb qo qc : Nat) (hi : i < hN x) (hW : Wp w0 N b wb kb vb x s Q r' ⟨e.ks.set k (keyL x s k z), e.vs.set k (valL x s k z)⟩ (.slice (some ⟨g, 0, none⟩) (Q.length + 1) cap) X c z W) (hpw : POn W) (hqc : dN x ≤ qc) (hqk : KIn .i64 W (some ⟨qb, qo, none⟩) (tim x s 3 k (normK x s 2 k z))) => show Calls Tryz.prog 93 #[.pointer (some ⟨wb, 0, none⟩), .int .i64 (k : Int), .int .i64 (i : Int), .slice (some ⟨qb, qo, none⟩) (dN x) qc] W fun e w' => ∃ A c, e = .returned (.slice A (nH x) c) ∧ KIn .i64 w' A (mixH (nH x) i (tim x s 3 k (normK x s 2 k z)) (kOf Q k ++ [keyL x s k z]) (vOf Q k ++ [valL x s k z])) ∧ Below W.heap.size W w' from by
    have := walk_mix w0 W N b wb x s _ _ X c z hW.wk hk hpw k i hi (by simp) (by rw [List.length_append]; simp; omega) (fun q hq => by
      rcases List.mem_append.1 hq with hq | hq
      · exact good_at (hQ q hq) hkb
      · rw [List.mem_singleton.1 hq]
        exact ⟨by show k < (e.ks.set k _).length; rw [List.length_set]; omega, by show ((e.ks.set k _).getD k []).length = _; rw [getD_set_same _ _ _ (by omega)]; exact hkl, by show k < (e.vs.set k _).length; rw [List.length_set]; omega, by show ((e.vs.set k _).getD k []).length = _; rw [getD_set_same _ _ _ (by omega)]; exact hvl⟩) qb qo qc _ hql hqc hqk
    unfold RowSays at this
    rw [kOf_append, vOf_append] at this
    have e1 : (⟨e.ks.set k (keyL x s k z), e.vs.set k (valL x s k z)⟩ : Ent).ks.getD k [] = keyL x s k z := getD_set_same _ _ _ (by omega)
    have e2 : (⟨e.ks.set k (keyL x s k z), e.vs.set k (valL x s k z)⟩ : Ent).vs.getD k [] = valL x s k z := getD_set_same _ _ _ (by omega)
    rw [e1, e2, mixH_length] at this
    exact this)
  have hsl : (seenL x s k (kOf Q k) (vOf Q k) z).length = dN x := by unfold seenL; rw [lookL_length, hheads]
  have HSL := Lib.hid (show seenL x s k (kOf Q k) (vOf Q k) z = (List.range (hN x)).flatMap fun i => mixH (nH x) i (tim x s 3 k (normK x s 2 k z)) (kOf Q k ++ [keyL x s k z]) (vOf Q k ++ [valL x s k z]) from rfl)
  have h6l : (tim x s 6 k (seenL x s k (kOf Q k) (vOf Q k) z)).length = dN x := htl 6 (by omega) _
  have HT6 := Lib.hid (fun W r e V cv hW hV => show Calls Tryz.prog 92 #[.pointer (some ⟨wb, 0, none⟩), .int .i64 6, .int .i64 (k : Int), .slice V (dN x) cv] W fun e w' => ∃ A c, e = .returned (.slice A (dN x) c) ∧ KIn .i64 w' A (tim x s 6 k (seenL x s k (kOf Q k) (vOf Q k) z)) ∧ dN x ≤ c ∧ Below W.heap.size W w' from by
    have := walk_times w0 W N b wb x s _ (.slice (some ⟨g, 0, none⟩) (Q.length + 1) cap) X c z (Wp.wk (r := r) (e := e) (kb := kb) (vb := vb) (Q := Q) hW) hk 6 k (isZ_mid hk (by omega) hkb) V (dN x) cv _ hsl (cols_of hgood.is (by omega)) hV
    unfold RowSaysC at this
    rw [h6l] at this
    exact this)
  have HPL := Lib.hid (fun W V cv (hX : KIn .i64 W X z) (hV : KIn .i64 W V (tim x s 6 k (seenL x s k (kOf Q k) (vOf Q k) z))) => show Calls Tryz.prog 89 #[.slice X (dN x) c, .slice V (dN x) cv] W fun e w' => ∃ A c, e = .returned (.slice A (dN x) c) ∧ KIn .i64 w' A (midL x s k (kOf Q k) (vOf Q k) z) ∧ Below W.heap.size W w' from by
    have := step_plus W X c V cv z _ (dN x) hz h6l (by omega) hX hV
    unfold RowSays at this
    rw [plusL_length] at this
    exact this)
  have a1 : wrap64 (((Q.length + 1 : Nat) : Int) - 1) = (Q.length : Int) := (IntWalk.wrap64_in _ (by omega)).trans (by omega)
  have A1 := Lib.hid a1
  have A1p := Lib.hid (show IntKind.i64.wrap (((Q.length + 1 : Nat) : Int) - 1) = (Q.length : Int) from (IntWalk.i64_in _ (by omega)).trans (by omega))
  obtain ⟨n, hn⟩ : ∃ n, n = Q.length := ⟨_, rfl⟩
  obtain ⟨n1, hn1⟩ : ∃ n1, n1 = Q.length + 1 := ⟨_, rfl⟩
  have HN1 := Lib.hid (show n < n1 by omega)
  rw [← hn1] at HLC A1 A1p
  rw [← hn] at HLC A1 A1p
  have HQN := Lib.hid (And.intro hn hn1)
  have HZ := Lib.hid hz
  have HEK := Lib.hid (And.intro hek hev)
  have HGQ := Lib.hid hQ
  have HQL := Lib.hid hQl
  have HKB := Lib.hid hkb
  obtain ⟨i0, hi0, hz0, hz1, hz2⟩ := info_parts info_int
  have HI := Lib.hid hi0
  have HZ0 := Lib.hid hz0
  have HZ1 := Lib.hid hz1
  have HZ2 := Lib.hid hz2
  clear hi0 hz0 hz1 hz2
  have HP := Lib.hid (And.intro hp hNp)
  have HD := Lib.hid (And.intro hd1 hd16)
  clear hheads hh4 hnH1 hql hkl hvl hsl h6l a1 hn hn1 hz hek hev hQ hQl hkb hp hNp hd1 hd16 hn2 htl ht hgood hdx hhx h hlc1 hlc2 hcap
  go_enter Tryz.func64, Tryz.ntmps64
  go_wp2_with (fail)
  refine HN.out.mono ?_
  rintro e' w1 ⟨A2, c2, rfl, ha, b1⟩
  have N1 := Lib.hid ha
  have B1 := Lib.hid b1
  clear ha b1
  go_wp2_with (fail)
  refine (HT3.out _ _ _ _ _ (H.out.step B1.out) N1.out).mono ?_
  rintro e' w2 ⟨A3, c3, rfl, ha, hc3, _, b2⟩
  have B2 := Lib.hid (B1.out.trans (b2.mono B1.out.size))
  have Q2 := Lib.hid ha
  have HC3 := Lib.hid hc3
  have N2 := Lib.hid (N1.out.below b2 (Nat.le_refl _))
  have B0 := Lib.hid (show Below w.heap.size w w2.drew from below_drewN B2.out 1)
  have k0 := HLC.out _ B0.out
  have a1 := A1.out
  have a1p := A1p.out
  have a2 : 0 ≤ (n : Int) := by omega
  have a3 : (n : Int) < (n1 : Int) := by have := HN1.out; omega
  clear ha b2 hc3 HN HT3
  go_wp2_with (fail)
  go_region_held3 (fun W : World => W.cell? ⟨wb, 1, none⟩ = some (.slice (some ⟨g, 0, none⟩) n1 cap) ∧ W.cell? ⟨g, n * 2, none⟩ = some (.slice (some ⟨kb, 0, none⟩) e.ks.length r.kc) ∧ W.cell? ⟨g, n * 2 + 1, none⟩ = some (.slice (some ⟨vb, 0, none⟩) e.vs.length r.vc)) (first | exact k0 | assumption | exact HLC.out _ (Below.trans B0.out (Below.mono (Below.alloc (Below.refl _ _) (Nat.le_refl _) _) B0.out.size))) (first | fail)
  refine gen_post (fun W : World => Wp w0 N b wb kb vb x s Q r e (.slice (some ⟨g, 0, none⟩) (Q.length + 1) cap) X c z W ∧ W.cell? ⟨w2.heap.size, 0, none⟩ = some (.slice (some ⟨kb, 0, none⟩) e.ks.length r.kc) ∧ W.cell? ⟨w2.heap.size, 1, none⟩ = some (.slice (some ⟨vb, 0, none⟩) e.vs.length r.vc) ∧ KIn .i64 W A2 (normK x s 2 k z) ∧ KIn .i64 W A3 (tim x s 3 k (normK x s 2 k z)) ∧ kb < w2.heap.size ∧ vb < w2.heap.size ∧ Below N w W) ?_ ?_
  · have hb := below_drewN ((Below.refl w2.heap.size w2).alloc (Nat.le_refl _) (.cells #[.slice (some ⟨kb, 0, none⟩) e.ks.length r.kc, .slice (some ⟨vb, 0, none⟩) e.vs.length r.vc] 29)) 1
    have hn := heap_alloc_new w2 (.cells #[.slice (some ⟨kb, 0, none⟩) e.ks.length r.kc, .slice (some ⟨vb, 0, none⟩) e.vs.length r.vc] 29)
    have h2 := H.out.step B2.out
    refine ⟨h2.step hb, ?_, ?_, N2.out.below hb (Nat.le_refl _), Q2.out.below hb (Nat.le_refl _), h2.kr.lt, h2.vr.lt, (B2.out.trans (hb.mono B2.out.size)).mono H.out.wk.low⟩
    · show World.cell? (w2.alloc _) _ = _
      rw [cell_of_row _ _ _ _ _ _ hn]; rfl
    · show World.cell? (w2.alloc _) _ = _
      rw [cell_of_row _ _ _ _ _ _ hn]; rfl
  clear k0 a1 a1p a2 a3 HLC B0 B2 N2 Q2 B1 N1
  rintro w3 ⟨u1, u2, u3, u4, u5, u6, u7, u8⟩
  have H3 := Lib.hid u1
  have HN3 := Lib.hid u1.wk.low
  have C31 := Lib.hid u3
  have N3 := Lib.hid u4
  have Q3 := Lib.hid u5
  have OB := Lib.hid (And.intro u6 u7)
  have B3 := Lib.hid u8
  have BD := Lib.hid (show Below w3.heap.size w3 w3.drew from below_drewN (Below.refl _ _) 1)
  have HD3 := Lib.hid (H3.out.step BD.out)
  have ND3 := Lib.hid (show KIn .i64 w3.drew A2 (normK x s 2 k z) from u4)
  have k0 : w3.drew.cell? ⟨w2.heap.size, 0, none⟩ = some (.slice (some ⟨kb, 0, none⟩) e.ks.length r.kc) := u2
  have HKC := Lib.hid (fun W (hW : Below w3.heap.size w3 W) => show W.cell? ⟨w2.heap.size, 0, none⟩ = some (.slice (some ⟨kb, 0, none⟩) e.ks.length r.kc) from hb0c4 hW u2)
  have HST := Lib.hid (fun (W : World) (u : Value) (hW : W.cell? ⟨w2.heap.size, 0, none⟩ = some (.slice (some ⟨kb, 0, none⟩) e.ks.length r.kc)) => cell_past (g := kb) (k := k) (u := u) hW (show w2.heap.size ≠ kb by omega))
  have y2 : 0 ≤ (k : Int) := by omega
  have y0 : (k : Int) < (e.ks.length : Int) := by have := HEK.out.1; have := HKB.out; omega
  have y1 : (k : Int) < (e.vs.length : Int) := by have := HEK.out.2; have := HKB.out; omega
  have HKR := Lib.hid (fun (W : World) (hW : Wp w0 N b wb kb vb x s Q r e (.slice (some ⟨g, 0, none⟩) (Q.length + 1) cap) X c z W) => And.intro (hW.kr.frozen k) (hW.kr.cell (i := k) (by have := HEK.out.1; have := HKB.out; omega)))
  clear u1 u2 u3 u4 u5 u6 u7 u8
  go_wp2_with (fail)
  go_region_held3 (fun W : World => W.cell? ⟨w2.heap.size, 0, none⟩ = some (.slice (some ⟨kb, 0, none⟩) e.ks.length r.kc)) (first | exact k0 | assumption | exact HST.out _ _ (by assumption)) (first
    | (go_at_call 92; (with_reducible refine (HT4.out _ _ _ _ _ HD3.out ND3.out).mono ?_); rintro e' w4 ⟨A4, c4, rfl, ha, hc4, hn4, b4⟩; have KN4 := Lib.hid (show ∀ a, A4 = some a → w3.heap.size ≤ a.block from hn4); have K4 := Lib.hid ha; have HC4 := Lib.hid hc4; have B4 := Lib.hid b4; have H4 := Lib.hid (HD3.out.step b4); have k4 := HKC.out _ (BD.out.trans (b4.mono BD.out.size)); have f4 := (HKR.out _ H4.out).1; have d4 := (HKR.out _ H4.out).2; clear ha hc4 hn4 b4))
  refine gen_post (fun W : World => Wp w0 N b wb kb vb x s Q (r.setK k A4 c4) ⟨e.ks.set k (keyL x s k z), e.vs⟩ (.slice (some ⟨g, 0, none⟩) (Q.length + 1) cap) X c z W ∧ W.cell? ⟨w2.heap.size, 1, none⟩ = some (.slice (some ⟨vb, 0, none⟩) e.vs.length r.vc) ∧ KIn .i64 W A2 (normK x s 2 k z) ∧ KIn .i64 W A3 (tim x s 3 k (normK x s 2 k z)) ∧ Below N w W) ?_ ?_
  · have h1 := H4.out.setK (k := k) (c' := c4) (by have := HEK.out.1; have := HKB.out; omega) K4.out (fun _ a ha hg => by have h3 := KN4.out a ha; have h4 := (H3.out.wk.own.lt g rfl).2; have hg' : g = a.block := Option.some.inj hg; omega) (by rw [HLL.out.2.1]; exact HC4.out)
    rw [HLL.out.2.1] at h1
    have hb := BD.out.trans (B4.out.mono BD.out.size)
    exact ⟨h1, cell_past (hb0c4 hb C31.out) (show w2.heap.size ≠ kb by have := OB.out.1; omega), kin_past (N3.out.below hb (Nat.le_refl _)) H4.out.kr, kin_past (Q3.out.below hb (Nat.le_refl _)) H4.out.kr, (B3.out.trans (hb.mono H3.out.wk.low)).setCell H4.out.ge.1 _⟩
  clear k0 k4 f4 d4 HST HKC HKR H4 B4 K4 HC4 HD3 ND3 BD H3 N3 Q3 B3 C31 HT4
  rintro w5 ⟨u1, u3, u4, u5, u8⟩
  have H5 := Lib.hid u1
  have N5 := Lib.hid u4
  have Q5 := Lib.hid u5
  have B5 := Lib.hid u8
  have BD := Lib.hid (show Below w5.heap.size w5 w5.drew from below_drewN (Below.refl _ _) 1)
  have HD5 := Lib.hid (H5.out.step BD.out)
  have ND5 := Lib.hid (show KIn .i64 w5.drew A2 (normK x s 2 k z) from u4)
  have k0 : w5.drew.cell? ⟨w2.heap.size, 1, none⟩ = some (.slice (some ⟨vb, 0, none⟩) e.vs.length r.vc) := u3
  have HKC := Lib.hid (fun W (hW : Below w5.heap.size w5 W) => show W.cell? ⟨w2.heap.size, 1, none⟩ = some (.slice (some ⟨vb, 0, none⟩) e.vs.length r.vc) from hb0c4 hW u3)
  have HST := Lib.hid (fun (W : World) (u : Value) (hW : W.cell? ⟨w2.heap.size, 1, none⟩ = some (.slice (some ⟨vb, 0, none⟩) e.vs.length r.vc)) => cell_past (g := vb) (k := k) (u := u) hW (show w2.heap.size ≠ vb by have := OB.out.2; omega))
  have HKR := Lib.hid (fun (W : World) (hW : Wp w0 N b wb kb vb x s Q (r.setK k A4 c4) ⟨e.ks.set k (keyL x s k z), e.vs⟩ (.slice (some ⟨g, 0, none⟩) (Q.length + 1) cap) X c z W) => And.intro (hW.vr.frozen k) (hW.vr.cell (i := k) (show k < e.vs.length by have := HEK.out.2; have := HKB.out; omega)))
  clear u1 u3 u4 u5 u8
  go_wp2_with (fail)
  go_region_held3 (fun W : World => W.cell? ⟨w2.heap.size, 1, none⟩ = some (.slice (some ⟨vb, 0, none⟩) e.vs.length r.vc)) (first | exact k0 | assumption | exact HST.out _ _ (by assumption)) (first
    | (go_at_call 92; (with_reducible refine (HT5.out _ _ _ _ _ HD5.out ND5.out).mono ?_); rintro e' w6 ⟨A5, c5, rfl, ha, hc5, hn5, b6⟩; have KN6 := Lib.hid (show ∀ a, A5 = some a → w5.heap.size ≤ a.block from hn5); have K6 := Lib.hid ha; have HC6 := Lib.hid hc5; have B6 := Lib.hid b6; have H6 := Lib.hid (HD5.out.step b6); have k6 := HKC.out _ (BD.out.trans (b6.mono BD.out.size)); have f6 := (HKR.out _ H6.out).1; have d6 := (HKR.out _ H6.out).2; clear ha hc5 hn5 b6))
  have HFR := Lib.hid (fun hf : Fr N r e => hf.setKV (k := k) (c := c4) (c' := c5) (A := A4) (A' := A5) (l := keyL x s k z) (l' := valL x s k z) (by have := HEK.out.1; have := HKB.out; omega) (by have := HEK.out.2; have := HKB.out; omega) (fun _ a ha => Nat.le_trans HN3.out (KN4.out a ha)) (fun _ a ha => Nat.le_trans H5.out.wk.low (KN6.out a ha)))
  refine gen_post (fun W : World => Wp w0 N b wb kb vb x s Q ((r.setK k A4 c4).setV k A5 c5) ⟨e.ks.set k (keyL x s k z), e.vs.set k (valL x s k z)⟩ (.slice (some ⟨g, 0, none⟩) (Q.length + 1) cap) X c z W ∧ KIn .i64 W A3 (tim x s 3 k (normK x s 2 k z)) ∧ Below N w W) ?_ ?_
  · have h1 := H6.out.setV (k := k) (c' := c5) (show k < e.vs.length by have := HEK.out.2; have := HKB.out; omega) K6.out (fun _ a ha hg => by have h3 := KN6.out a ha; have h4 := (H5.out.wk.own.lt g rfl).2; have hg' : g = a.block := Option.some.inj hg; omega) (by rw [HLL.out.2.2]; exact HC6.out)
    rw [HLL.out.2.2] at h1
    have hb := BD.out.trans (B6.out.mono BD.out.size)
    exact ⟨h1, kin_past (Q5.out.below hb (Nat.le_refl _)) H6.out.vr, (B5.out.trans (hb.mono H5.out.wk.low)).setCell H6.out.ge.2 _⟩
  clear k0 k6 f6 d6 HST HKC HKR H6 B6 K6 HC6 HD5 ND5 BD H5 N5 Q5 B5 HT5
  generalize (r.setK k A4 c4).setV k A5 c5 = r' at HFR ⊢
  rintro w7 ⟨u1, u5, u8⟩
  have H7' := Lib.hid u1
  have B7' := Lib.hid u8
  obtain ⟨qb, qo, rfl, _⟩ := u5 (by rw [HLL.out.1]; exact HD.out.1)
  have Q7 := Lib.hid u5
  have x0 := (three u1.wk.blk).1
  obtain ⟨e0, e1, e2, e3, e4, e5, e6⟩ := seven u1.wk.brain
  rw [HHX.out] at e2
  clear u1 u5 u8 y0 y1
  go_wp2_with (fail)
  generalize hql : tim x s 3 k (normK x s 2 k z) = ql at *
  have HLJ := Lib.hid (fun j => show ((List.range j).flatMap (fun i => mixH (nH x) i ql (kOf Q k ++ [keyL x s k z]) (vOf Q k ++ [valL x s k z]))).length = j * nH x from lookL_length j (nH x) ql _ _)
  have HMO := Lib.hid (heads_more (nH x) ql (kOf Q k ++ [keyL x s k z]) (vOf Q k ++ [valL x s k z]))
  go_loopw [7, 53] (fun av i wr => ∃ (j : Nat) (A : Option Addr) (ac : Nat), av = .slice A (j * nH x) ac ∧ i = .int .i64 (j : Int) ∧ j ≤ hN x ∧ Own wr w7.heap.size (.slice A (j * nH x) ac) ((List.range j).flatMap fun i => mixH (nH x) i ql (kOf Q k ++ [keyL x s k z]) (vOf Q k ++ [valL x s k z])) ∧ Below w7.heap.size w7 wr) (fun _ i _ => match i with | .int _ k => hN x - k.toNat | _ => 0)
  case atStart => exact ⟨0, none, 0, by rw [Nat.zero_mul], rfl, Nat.zero_le _, by rw [Nat.zero_mul]; exact World.ownsRow_nil _ _ _ _, Below.refl _ _⟩
  case round =>
    obtain ⟨j, A, ac, rfl, rfl, hj, ho, hb⟩ := hrel
    have HO := Lib.hid ho
    have HB := Lib.hid hb
    clear ho hb x0 e0 e1 e2 e3 e4 e5 e6
    have x2 : 0 ≤ (j : Int) := by omega
    by_cases hlt : j < hN x
    · have x0 : (j : Int) < (hN x : Int) := by omega
      have x1 : decide ((j : Int) < (hN x : Int)) = true := decide_eq_true x0
      have HJ := Lib.hid (show j + 1 ≤ hN x by omega)
      have HBJ := Lib.hid (show j * nH x + nH x ≤ 16 by
        have h1 := HHN.out.1
        have h2 := HD.out.2
        have h3 : (j + 1) * nH x ≤ hN x * nH x := Nat.mul_le_mul_right _ hlt
        rw [Nat.succ_mul] at h3
        omega)
      have HLT := Lib.hid hlt
      go_wp2_with (fail)
      refine (HMX.out wr r' j qb qo c3 hlt (H7'.out.step HB.out) (HP.out.1.keep (B7'.out.trans (HB.out.mono H7'.out.wk.low)) HP.out.2) HC3.out (Q7.out.below HB.out (Nat.le_refl _))).mono ?_
      rintro e' w9 ⟨A6, c6, rfl, ha, b9⟩
      obtain ⟨ga, oa, rfl, _⟩ := ha (by rw [mixH_length]; exact HHN.out.2.2)
      have M9 := Lib.hid (row_src9 ha)
      have O9 := Lib.hid (HO.out.below b9 (Nat.le_refl _))
      have B9 := Lib.hid (HB.out.trans (b9.mono HB.out.size))
      have HZN := Lib.hid (show (icells (mixH (nH x) j ql (kOf Q k ++ [keyL x s k z]) (vOf Q k ++ [valL x s k z]))).length = nH x * 1 by rw [icells_length, mixH_length, Nat.mul_one])
      clear ha b9 HO HB
      go_wp2_with (at_builtin; refine wpList_append_lies _ rfl (.tmp 56) (.tmp 61) 45 rfl w7.heap.size 3 i0 _ 1 8 Tryz.underlying45 HI.out HZ0.out HZ1.out HZ2.out rfl Nat.one_pos (.slice A (j * nH x) ac) (j * nH x) _ rfl (Own.at O9.out (HLJ.out j)) ⟨ga, oa, none⟩ (nH x) c6 (icells (mixH (nH x) j ql (kOf Q k ++ [keyL x s k z]) (vOf Q k ++ [valL x s k z]))) rfl HZN.out M9.out (all_one _) HHN.out.2.2 (by unfold maxLen; have := HBJ.out; omega) (by have := HBJ.out; omega) B9.out.size _ rfl ?_; intro g1 cap1 wz1 hownz1 hgrow1 hat1 hltz1; have OW := Lib.hid (own_two (by rw [List.length_append, HLJ.out j, mixH_length]) hownz1); have BZ := Lib.hid (below1 B9.out rfl O9.out hgrow1); clear hownz1 hgrow1 hat1 hltz1)
      have x3 := IntWalk.wrap64_in ((j : Int) + 1) (by have := HJ.out; have := HHN.out.2.1; omega)
      go_wp2_with (fail)
      rw [← HMO.out j] at OW
      exact ⟨⟨j + 1, some ⟨g1, 0, none⟩, cap1, by rw [Nat.succ_mul], by first | rfl | (rw [x3]; rfl), HJ.out, by rw [Nat.succ_mul]; exact OW.out, BZ.out⟩, by first | exact vc_less j _ HLT.out | (rw [x3]; exact vc_less j _ HLT.out)⟩
    · have hke : j = hN x := by omega
      have x0 : ¬ (j : Int) < (hN x : Int) := by omega
      have x1 : decide ((j : Int) < (hN x : Int)) = false := decide_eq_false x0
      rw [hke] at HO
      rw [hke]
      rw [← HSL.out] at HO
      rw [HHN.out.1] at HO ⊢
      have HX := Lib.hid (H7'.out.step HB.out)
      have HDR := Lib.hid (HX.out.step (below_drewN (Below.refl _ _) 1))
      have KDR := Lib.hid (show KIn .i64 wr.drew A (seenL x s k (kOf Q k) (vOf Q k) z) from Own.kin HO.out)
      have HXC := Lib.hid (fun W (hW : Wp w0 N b wb kb vb x s Q r' ⟨e.ks.set k (keyL x s k z), e.vs.set k (valL x s k z)⟩ (.slice (some ⟨g, 0, none⟩) (Q.length + 1) cap) X c z W) => show W.cell? ⟨wb, 2, none⟩ = some (.slice X (dN x) c) ∧ W.frozen? ⟨wb, 2, none⟩ = false from by
        have := three hW.wk.blk
        rw [HZ.out] at this
        exact ⟨this.2.2.1, this.2.2.2 2⟩)
      have k0 : wr.drew.cell? ⟨wb, 2, none⟩ = some (.slice X (dN x) c) := (HXC.out _ HDR.out).1
      generalize hAA : A = AA at *
      clear hke hlt hAA hj
      go_wp2_with (fail)
      -- HANDV 0
      refine wp_region_noPanic ?_
      refine wp_region_heldV (S := (fun W : World => W.cell? ⟨wb, 2, none⟩ = some (.slice X (dN x) c))) 12 (by kernel_rfl) (by kernel_rfl) (by kernel_rfl) (by kernel_rfl) (by decide) k0 (fun hHeld => ?_)
      refine wpAnyV_take (i := 0) (v := .pointer (some ⟨wb, 0, none⟩)) 64 rfl rfl (by decide) (by kernel_rfl) (by kernel_rfl) (fun _ _ _ h => h) (Or.inl ⟨by rfl, ?_⟩) hHeld ?_
      · intro W hW
        try dsimp only at hW
        go_simp
      simp only [Act.put, List.setIfInBounds_toArray, List.set_cons_succ, List.set_cons_zero]
      refine wpAnyV_take (i := 1) (v := .pointer (some ⟨wb, 0, none⟩)) 65 rfl rfl (by decide) (by kernel_rfl) (by kernel_rfl) (fun _ _ _ h => h) (Or.inl ⟨by rfl, ?_⟩) hHeld ?_
      · intro W hW
        try dsimp only at hW
        go_simp
      simp only [Act.put, List.setIfInBounds_toArray, List.set_cons_succ, List.set_cons_zero]
      refine wpAnyV_take (i := 2) (v := .pointer (some ⟨wb, 0, none⟩)) 66 rfl rfl (by decide) (by kernel_rfl) (by kernel_rfl) (fun _ _ _ h => h) (Or.inl ⟨by rfl, ?_⟩) hHeld ?_
      · intro W hW
        try dsimp only at hW
        go_simp
      simp only [Act.put, List.setIfInBounds_toArray, List.set_cons_succ, List.set_cons_zero]
      refine wpAnyV_take (i := 3) (v := .pointer (some ⟨wb, 2, none⟩)) 67 rfl rfl (by decide) (by kernel_rfl) (by kernel_rfl) (fun _ _ _ h => h) (Or.inl ⟨by rfl, ?_⟩) hHeld ?_
      · intro W hW
        try dsimp only at hW
        go_simp
      simp only [Act.put, List.setIfInBounds_toArray, List.set_cons_succ, List.set_cons_zero]
      refine wpAnyV_take (i := 4) (v := .slice X (dN x) c) 68 rfl rfl (by decide) (by kernel_rfl) (by kernel_rfl) (fun _ _ _ h => h) (Or.inl ⟨by rfl, ?_⟩) hHeld ?_
      · intro W hW
        try dsimp only at hW
        go_simp
      simp only [Act.put, List.setIfInBounds_toArray, List.set_cons_succ, List.set_cons_zero]
      refine wpAnyV_take (i := 5) (v := .pointer (some ⟨wb, 0, none⟩)) 69 rfl rfl (by decide) (by kernel_rfl) (by kernel_rfl) (fun _ _ _ h => h) (Or.inl ⟨by rfl, ?_⟩) hHeld ?_
      · intro W hW
        try dsimp only at hW
        go_simp
      simp only [Act.put, List.setIfInBounds_toArray, List.set_cons_succ, List.set_cons_zero]
      refine wpAnyV_take (i := 6) (v := .int .i64 (k : Int)) 70 rfl rfl (by decide) (by kernel_rfl) (by kernel_rfl) (fun _ _ _ h => h) (Or.inl ⟨by rfl, ?_⟩) hHeld ?_
      · intro W hW
        try dsimp only at hW
        go_simp
      simp only [Act.put, List.setIfInBounds_toArray, List.set_cons_succ, List.set_cons_zero]
      refine wpAnyV_take (i := 7) (v := .slice AA (dN x) ac) 71 rfl rfl (by decide) (by kernel_rfl) (by kernel_rfl) (fun _ _ _ h => h) (Or.inl ⟨by rfl, ?_⟩) hHeld ?_
      · intro W hW
        try dsimp only at hW
        go_simp
      simp only [Act.put, List.setIfInBounds_toArray, List.set_cons_succ, List.set_cons_zero]
      refine wpAnyV_one (i := 8) (by kernel_rfl) rfl (by decide) (fun K hK => ?_)
      go_simp
      refine (HT6.out _ _ _ _ _ HDR.out KDR.out).mono ?_
      rintro e' wa ⟨A7, c7, rfl, ha, hc7, b7⟩
      have P7 := Lib.hid ha
      have B7 := Lib.hid b7
      have H7 := Lib.hid (HDR.out.step b7)
      have ka := (HXC.out _ H7.out).1
      clear ha hc7 b7
      refine hK.out _ _ ka (fun hHeld2 => ?_)
      clear hK K hHeld
      have hHeld := hHeld2
      clear hHeld2
      try simp only [Act.put, List.setIfInBounds_toArray, List.set_cons_succ, List.set_cons_zero]
      refine wpAnyV_one (i := 9) (by kernel_rfl) rfl (by decide) (fun K hK => ?_)
      go_simp
      refine (HPL.out _ _ _ H7.out.wk.nums P7.out).mono ?_
      rintro e' wc ⟨A8, c8, rfl, ha, b8⟩
      have P8 := Lib.hid ha
      have H8 := Lib.hid (H7.out.step b8)
      have kc := (HXC.out _ H8.out).1
      have fc := (HXC.out _ H8.out).2
      clear ha b8
      refine hK.out _ _ kc (fun hHeld2 => ?_)
      clear hK K hHeld
      have hHeld := hHeld2
      clear hHeld2
      try simp only [Act.put, List.setIfInBounds_toArray, List.set_cons_succ, List.set_cons_zero]
      refine wpAnyV_take (i := 10) (v := .pointer (some ⟨wb, 0, none⟩)) 74 rfl rfl (by decide) (by kernel_rfl) (by kernel_rfl) (fun _ _ _ h => h) (Or.inl ⟨by rfl, ?_⟩) hHeld ?_
      · intro W hW
        try dsimp only at hW
        go_simp
      simp only [Act.put, List.setIfInBounds_toArray, List.set_cons_succ, List.set_cons_zero]
      refine wpAnyV_take (i := 11) (v := .pointer (some ⟨wb, 2, none⟩)) 75 rfl rfl (by decide) (by kernel_rfl) (by kernel_rfl) (fun _ _ _ h => h) (Or.inl ⟨by rfl, ?_⟩) hHeld ?_
      · intro W hW
        try dsimp only at hW
        go_simp
      simp only [Act.put, List.setIfInBounds_toArray, List.set_cons_succ, List.set_cons_zero]
      refine wpAnyV_last (by kernel_rfl) rfl (by kernel_rfl) (fun K hK => ?_)
      go_simp
      refine hK.out _ _ ?_
      refine NoPanic.normal ?_
      -- VDNAH 0
      go_wp2_with (fail)
      go_end0
      refine ⟨rfl, r', A8, c8, ?_, HFR.out⟩
      have h9 := H8.out.setX (c' := c8) P8.out
      have hm : (midL x s k (kOf Q k) (vOf Q k) z).length = dN x := plusL_length _ _
      rw [hm] at h9
      exact h9
end Go.Proofs.YtkdkeokldcehhaaGreatDoor
namespace Go.Proofs.YtkdkeokldcehhaaGreatDoor
open Go.ChangeShapes Go.WideShapes Go.ChangeAt Go.RowKit Nm Cf Vc Br Nr Sf Sp

set_option maxRecDepth 100000 in
set_option maxHeartbeats 6400000 in
theorem walk_scores (w0 w : World) (N b wb : Nat) (x : Cfg) (s : ByteArray) (Q : List (Er × Ent)) (v : Value) (X : Option Addr) (c : Nat) (z : List Int) (h : Wk w0 N b wb x s Q v X c z w) (hk : Ok x s) (hz : z.length = dN x) :
    Calls Tryz.prog 66 #[.pointer (some ⟨wb, 0, none⟩)] w (RowSays w (fun v => v) (scoresL x s z)) := by
  have hgood := hk.good
  have hd16 : dN x ≤ 16 := by have := hgood.is.d16; have := (dims hgood.is).1; omega
  have hd1 : 1 ≤ dN x := by have := hgood.is.d1; have := (dims hgood.is).1; omega
  have hv32 : vN x ≤ 32 := by have := hgood.is.v32; have := (dims hgood.is).2.2.2; omega
  have hi0 : isZ x 0 0 = true := isZ_iff.2 ⟨hgood, by omega, by omega, by omega, by unfold timesZ; rw [if_neg (by omega)]; omega⟩
  have hi11 : (0 : Int) < timesZ x ((11 : Nat) : Int) := by unfold timesZ; rw [if_neg (by omega)]; omega
  have hnl : (normK x s 11 0 z).length = dN x := normK_length hgood (by omega) hi11 hz
  obtain ⟨hfx, hfy⟩ := rows_fit hgood.is (p := 0) (by omega) (by omega)
  have hps := piece_sizeZ hk hi0
  have hR : ((vN x : Nat) : Int) = rowsZ x 0 := (dims hgood.is).2.2.2
  have hC : ((dN x : Nat) : Int) = colsZ x 0 := (dims hgood.is).1
  have HN := Lib.hid (show Calls Tryz.prog 91 #[.pointer (some ⟨wb, 0, none⟩), .int .i64 11, .int .i64 0] w fun e w' => ∃ A c, e = .returned (.slice A (dN x) c) ∧ KIn .i64 w' A (normK x s 11 0 z) ∧ Below w.heap.size w w' from by
    have := walk_norm w0 w N b wb x s Q v X c z h hk 11 0 (by omega)
    unfold RowSays at this
    rw [hnl] at this
    exact this)
  have HT := Lib.hid (fun W (hW : Below w.heap.size w W) => show Calls Tryz.prog 95 #[.pointer (some ⟨b, 0, none⟩), .int .i64 0, .int .i64 0] W fun e w' => ∃ A, e = .returned (.tuple #[.agg #[.int .i64 (vN x : Int), .int .i64 (dN x : Int), .slice A (pieceB x s 0 0).size (pieceB x s 0 0).size], .bool true]) ∧ KIn .i8 w' A (listD (pieceB x s 0 0)) ∧ Below W.heap.size W w' from by
    have := brain_table W b x s (Br.stays h.brain hW) hk 0 0 hi0
    unfold tbV tbA at this
    rw [← hR, ← hC] at this
    exact this)
  have HRW := Lib.hid (fun W A (k : Nat) (hk' : k < vN x) (hA : KIn .i8 W A (listD (pieceB x s 0 0))) => show Calls Tryz.prog 98 #[.agg #[.int .i64 (vN x : Int), .int .i64 (dN x : Int), .slice A (pieceB x s 0 0).size (pieceB x s 0 0).size], .int .i64 (k : Int)] W fun e w' => ∃ A c, e = .returned (.slice A (dN x) c) ∧ KIn .i64 w' A (rowZ x s 0 0 (k : Int)) ∧ Below W.heap.size W w' from by
    have hgd : goodB ((vN x : Nat) : Int) ((dN x : Nat) : Int) (pieceB x s 0 0).size = true := by rw [hR, hC]; exact goodB_iff.2 ⟨fitB_iff.1 hfx, fitB_iff.1 hfy, hps⟩
    have := table_row W (vN x) (dN x) k A (pieceB x s 0 0).size (pieceB x s 0 0).size (listD (pieceB x s 0 0)) hgd (listD_length _) hk' hA (listD_I8 _)
    have e1 : rowZ x s 0 0 (k : Int) = rowD (listD (pieceB x s 0 0)) (dN x) k := by
      unfold rowZ
      rw [if_pos ⟨hi0, by omega, by rw [← hR]; omega⟩, ← hC]
      rfl
    unfold RowSays at this
    rw [rowD_length] at this
    rw [e1]
    exact this)
  have hrl : ∀ k : Nat, k < vN x → (rowZ x s 0 0 (k : Int)).length = dN x := fun k hk' => row_len (p := 0) hk (by omega) (by omega) (by show (k : Int) < rowsZ x 0; rw [← hR]; omega)
  have HRL := Lib.hid hrl
  have HSA := Lib.hid (fun j (hj : j < vN x) => show (scoresL x s z).getD j 0 = shift (dot (rowZ x s 0 0 (j : Int)) (normK x s 11 0 z)) 5 from by unfold scoresL; rw [getD_map_range _ _ _ hj])
  have HSL := Lib.hid (scoresL_length x s z)
  have HNL := Lib.hid hnl
  have HD := Lib.hid (And.intro hd1 (And.intro hd16 hv32))
  have k0 := (three h.blk).1
  have HK := Lib.hid (fun W (hW : Below w.heap.size w W) => show W.cell? ⟨wb, 0, none⟩ = some (.pointer (some ⟨b, 0, none⟩)) from (three (h.step hW).blk).1)
  obtain ⟨i0, hi, hz0, hz1, hz2⟩ := info_parts info_int
  have HI := Lib.hid hi
  have HZ0 := Lib.hid hz0
  have HZ1 := Lib.hid hz1
  have HZ2 := Lib.hid hz2
  clear hi hz0 hz1 hz2 hgood hd16 hd1 hv32 hi0 hi11 hnl hfx hfy hps hR hC hrl h hk hz
  generalize scoresL x s z = R at *
  generalize normK x s 11 0 z = NN at *
  generalize pieceB x s 0 0 = P at *
  generalize vN x = m at *
  generalize dN x = d at *
  go_enter Tryz.func66, Tryz.ntmps66
  go_wp2_with (fail)
  refine HN.out.mono ?_
  rintro e w1 ⟨A1, c1, rfl, ha, b1⟩
  obtain ⟨g4, o4, rfl, _⟩ := ha (by rw [HNL.out]; have := HD.out.1; omega)
  have N1 := Lib.hid ha
  have B1 := Lib.hid b1
  have k1 := HK.out _ B1.out
  clear ha b1 k0
  go_wp2_with (fail)
  refine (HT.out _ B1.out).mono ?_
  rintro e w2 ⟨A2, rfl, ha, b2⟩
  have hN2 := heap_alloc_new w2 (tbO (m : Int) (d : Int) A2 P.size P.size)
  have hba := (Below.refl w2.heap.size w2).alloc (Nat.le_refl _) (tbO (m : Int) (d : Int) A2 P.size P.size)
  have B2 := Lib.hid (B1.out.trans ((b2.trans (hba.mono b2.size)).mono B1.out.size))
  have T2 := Lib.hid (show KIn .i8 (w2.alloc (tbO (m : Int) (d : Int) A2 P.size P.size)) A2 (listD P) from ha.below hba (Nat.le_refl _))
  have N2 := Lib.hid (show KIn .i64 (w2.alloc (tbO (m : Int) (d : Int) A2 P.size P.size)) (some ⟨g4, o4, none⟩) NN from N1.out.below (b2.trans (hba.mono b2.size)) (Nat.le_refl _))
  have d0 := tb0 hN2
  have d1 := tb1 hN2
  have d2 := tb2 hN2
  unfold tbO tbA at d0 d1 d2 B2 T2 N2
  have htb := hN2
  unfold tbO tbA at htb
  have HTB := Lib.hid htb
  clear ha b2 hba hN2 N1 B1 k1
  go_wp2_with (at_make; refine wpList_make_row _ rfl _ _ 45 rfl 3 i0 (.int .i64 0) Tryz.underlying45 HI.out HZ0.out HZ1.out rfl .i64 .i64 m rfl rfl (by rw [HZ2.out]; have := HD.out; omega) (by have := HD.out; omega) ?_)
  have HT0 := Lib.hid HTB.out
  have hts : (w2.alloc (.cells #[.int .i64 (m : Int), .int .i64 (d : Int), .slice A2 P.size P.size] 120 (0, 0))).heap.size = w2.heap.size + 1 := by simp
  obtain ⟨g, hg⟩ : ∃ g, g = w2.heap.size + 1 := ⟨_, rfl⟩
  obtain ⟨t0, ht0⟩ : ∃ t0, t0 = w2.heap.size := ⟨_, rfl⟩
  have HNE := Lib.hid (show t0 < g by omega)
  rw [← hg] at hts ⊢
  rw [← ht0] at HT0 ⊢
  clear ht0 hg HTB htb d0 d1 d2
  generalize w2.alloc (.cells #[.int .i64 (m : Int), .int .i64 (d : Int), .slice A2 P.size P.size] 120 (0, 0)) = wt at B2 T2 N2 HT0 hts ⊢
  have HR0 := Lib.hid (show (wt.alloc (.cells (madeCells #[.int .i64 0] m) 3)).rowIs g 3 m (prt .i64 R 0) from by
    have := (World.rowIs_made wt (.int .i64 0) m 3).congr (g := prt .i64 R 0) fun i _ => by rw [prt_none]
    rwa [hts] at this)
  have HB0 := Lib.hid (show Below g wt (wt.alloc (.cells (madeCells #[.int .i64 0] m) 3)) from (Below.refl g wt).alloc (Nat.le_of_eq hts.symm) (.cells (madeCells #[.int .i64 0] m) 3))
  have HGS := Lib.hid hts
  have HGE := Lib.hid (show w.heap.size ≤ g by rw [← hts]; exact B2.out.size)
  clear hts
  generalize wt.alloc (.cells (madeCells #[.int .i64 0] m) 3) = w5 at HR0 HB0 ⊢
  go_loopw [23] (fun i wr => ∃ j : Nat, i = .int .i64 (j : Int) ∧ j ≤ m ∧ wr.rowIs g 3 m (prt .i64 R j) ∧ Below g wt wr) (fun i _ => match i with | .int _ k => m - k.toNat | _ => 0)
  case atStart => exact ⟨0, rfl, Nat.zero_le _, HR0.out, HB0.out⟩
  case round =>
    clear HR0 HB0
    obtain ⟨j, rfl, hj, hr, hb⟩ := hrel
    have HR := Lib.hid hr
    have HB := Lib.hid hb
    clear hr hb
    have x2 : 0 ≤ (j : Int) := by omega
    by_cases hlt : j < m
    · have x0 : (j : Int) < (m : Int) := by omega
      have x1 : decide ((j : Int) < (m : Int)) = true := decide_eq_true x0
      have HLT := Lib.hid hlt
      have HT1 := Lib.hid ((HB.out.block t0 HNE.out).trans HT0.out)
      have d0 : wr.cell? ⟨t0, 0, none⟩ = some (.int .i64 (m : Int)) := by rw [cell_of_row _ _ _ _ _ _ HT1.out]; rfl
      have d1 : wr.cell? ⟨t0, 1, none⟩ = some (.int .i64 (d : Int)) := by rw [cell_of_row _ _ _ _ _ _ HT1.out]; rfl
      have d2 : wr.cell? ⟨t0, 2, none⟩ = some (.slice A2 P.size P.size) := by rw [cell_of_row _ _ _ _ _ _ HT1.out]; rfl
      have HDI := Lib.hid (dot_in (rowZ x s 0 0 (j : Int)) NN)
      have HFT := Lib.hid (show Fits (dot (rowZ x s 0 0 (j : Int)) NN) from ⟨by have := HDI.out; omega, by have := HDI.out; omega⟩)
      have HXJ := Lib.hid (HSA.out j hlt)
      have HZJ := Lib.hid (HRL.out j hlt)
      go_wp2_with (fail)
      refine (HRW.out wr A2 j hlt (T2.out.below HB.out (Nat.le_of_eq HGS.out))).mono ?_
      rintro e w6 ⟨A3, c3, rfl, k3, b3⟩
      obtain ⟨g3, o3, rfl, _⟩ := k3 (by rw [HZJ.out]; have := HD.out.1; omega)
      have hbb := HB.out.trans (b3.mono (Nat.le_trans (Nat.le_of_eq HGS.out.symm) HB.out.size))
      have hA1 := N2.out.below hbb (Nat.le_of_eq HGS.out)
      have HD1 := Lib.hid k3.holds
      have HD2 := Lib.hid hA1.holds
      have HB3 := Lib.hid hbb
      have HR3 := Lib.hid (HR.out.of_block (b3.block g HR.out.lt))
      clear k3 b3 hA1 HR HB HT1 d0 d1 d2 hbb
      go_wp2_with (fail)
      refine (dot_any g3 o3 _ c3 g4 o4 d c1 (rowZ x s 0 0 (j : Int)) NN w6 HZJ.out HNL.out (by unfold maxLen; have := HD.out.2.1; omega) (by unfold maxLen; have := HD.out.2.1; omega) HD1.out HD2.out).mono ?_
      rintro e w7 ⟨rfl, d4, rfl⟩
      go_wp2_with (fail)
      refine (shift_any _ 5 _ HFT.out).mono ?_
      rintro e w8 ⟨rfl, d5, rfl⟩
      rw [← HXJ.out]
      have HB4 := Lib.hid (below_drewN (below_drewN HB3.out d4) d5)
      have HR4 : Hid (((w6.drewN d4).drewN d5).rowIs g 3 m (prt .i64 R j)) := HR3
      clear HB3 HR3 HD1 HD2
      generalize (w6.drewN d4).drewN d5 = w9 at HB4 HR4 ⊢
      have f1 := HR4.out.frozen j
      have c1' := HR4.out.cell hlt
      have HPS := Lib.hid (prt_set HR4.out (rfl : R.getD j 0 = R.getD j 0))
      have HBS := Lib.hid (HB4.out.setCell (p := ⟨g, j, none⟩) (Nat.le_refl _) (.int .i64 (R.getD j 0)))
      have x3 := IntWalk.wrap64_in ((j : Int) + 1) (by have := HD.out; omega)
      generalize R.getD j 0 = z at HPS HBS ⊢
      go_wp2_with (fail)
      rw [x3]
      exact ⟨⟨j + 1, rfl, HLT.out, HPS.out, HBS.out⟩, vc_less j m HLT.out⟩
    · have hke : j = m := by omega
      have x0 : ¬ (j : Int) < (m : Int) := by omega
      have x1 : decide ((j : Int) < (m : Int)) = false := decide_eq_false x0
      rw [hke] at HR
      have HK := Lib.hid (show KIn .i64 wr (some ⟨g, 0, none⟩) R from KIn.row (HR.out.congr fun i hi => prt_all _ _ _ _ hi) (Nat.le_of_eq HSL.out))
      clear hke hlt
      go_wp2_with (fail)
      refine bodyPost_ret (results_tmp rfl _ _ _) rfl ?_
      refine ⟨some ⟨g, 0, none⟩, m, ?_, HK.out, B2.out.trans (HB.out.mono HGE.out)⟩
      rw [HSL.out]
      rfl
end Go.Proofs.YtkdkeokldcehhaaGreatDoor
namespace Go.Proofs.YtkdkeokldcehhaaGreatDoor
open Go.ChangeShapes Go.WideShapes Go.ChangeAt Go.RowKit Nm Cf Vc Br Nr Sf Ac Sp

namespace Sp
/-- What a run answers that goes well. -/
def RunSays (w : World) (x : Cfg) (s : ByteArray) (P : List Ent) (ts : List Int) (e : Ending) (w' : World) : Prop :=
  ∃ EA ec SA sc R, e = .returned (.tuple #[.slice EA ts.length ec, .slice SA (vN x) sc, .int .i64 0]) ∧ past R = runE x s P ts ∧ EsIn w' EA R ∧ KIn .i64 w' SA (runS x s P ts) ∧ (runS x s P ts).length = vN x ∧ ((∀ q ∈ R, Fr w.heap.size q.1 q.2) ∧ ts.length ≤ ec ∧ ∀ a, EA = some a → w.heap.size ≤ a.block) ∧ Below w.heap.size w w'
end Sp
section
variable (w : World) (A : Option Addr) (n c : Nat) (Q : List (Er × Ent)) (T : Option Addr) (m d : Nat) (ts : List Int)
set_option maxRecDepth 100000 in
theorem step_run_nil : Calls Tryz.prog 32 #[.pointer none, .slice A n c, .slice T m d] w fun e w' => e = .returned (.tuple #[.slice none 0 0, .slice none 0 0, .int .i64 2]) ∧ Below w.heap.size w w' := by
  go_enter Tryz.func32, Tryz.ntmps32
  go_wp2_with (fail)
  refine (step_check_nil w A n c T m d).mono ?_
  rintro e w1 ⟨rfl, b1⟩
  have HB := Lib.hid b1
  go_wp2_with (fail)
  exact bodyPost_ret (results_tmp3 rfl _ _ _) rfl ⟨rfl, HB.out⟩
variable (b : Nat) (x : Cfg) (s : ByteArray) (h : w.heap[b]? = some (brO x s)) (hk : Ok x s) (hQ : Q.length = n) (hn : n ≤ 1000000) (hA : EsIn w A Q) (hT : ts.length = m) (hm : m ≤ 1000000) (hK : KIn .i64 w T ts)
include h hk hQ hn hA hT hm hK
set_option maxRecDepth 100000 in
theorem step_run_not (he : errR x (past Q) ts ≠ 0) : Calls Tryz.prog 32 #[.pointer (some ⟨b, 0, none⟩), .slice A n c, .slice T m d] w fun e w' => e = .returned (.tuple #[.slice none 0 0, .slice none 0 0, .int .i64 (errR x (past Q) ts)]) ∧ Below w.heap.size w w' := by
  have HC := Lib.hid (step_check w A n c Q T m d ts b x s h hk hQ hn hA hT hm hK)
  generalize errR x (past Q) ts = r at HC he ⊢
  have t0 : (r != 0) = true := bne_iff_ne.2 he
  clear h hk hQ hn hA hT hm hK he
  go_enter Tryz.func32, Tryz.ntmps32
  go_wp2_with (fail)
  refine HC.out.mono ?_
  rintro e w1 ⟨rfl, b1⟩
  have HB := Lib.hid b1
  clear b1
  go_wp2_with (fail)
  exact bodyPost_ret (results_tmp3 rfl _ _ _) rfl ⟨rfl, HB.out⟩
set_option maxRecDepth 100000 in
set_option maxHeartbeats 12800000 in
theorem step_run (he : errR x (past Q) ts = 0) (hp : POn w) (hg : GOn w) : Calls Tryz.prog 32 #[.pointer (some ⟨b, 0, none⟩), .slice A n c, .slice T m d] w (RunSays w x s (past Q) ts) := by
  have HC := Lib.hid (step_check w A n c Q T m d ts b x s h hk hQ hn hA hT hm hK)
  rw [he] at HC
  obtain ⟨hts, hgd, htk, hlen⟩ := errR_ok.1 he
  rw [past_length, hQ, hT] at hlen
  have hgood := hk.good
  obtain ⟨_, _, hbx, _⟩ := dims hgood.is
  have hc32 := hgood.is.c32
  have hm1 : 0 < m := by rw [← hT]; exact List.length_pos_iff.2 hts
  have HL := Lib.hid (show n + m ≤ 32 ∧ 0 < m ∧ (n : Int) + m ≤ x.c by omega)
  have HTK := Lib.hid (fun j (hj : j < m) => show 0 ≤ ts.getD j 0 ∧ ts.getD j 0 < x.v from by
    have := List.all_eq_true.1 htk (ts.getD j 0) (by rw [List.getD_eq_getElem?_getD, List.getElem?_eq_getElem (show j < ts.length by omega)]; exact List.getElem_mem _)
    unfold tokB at this
    simpa using this)
  have HGD := Lib.hid (fun ts' => all_good (s := s) (ts := ts') hgd)
  have HH := Lib.hid h
  have HK := Lib.hid hk
  have HA := Lib.hid hA
  have HKT := Lib.hid hK
  have HQ := Lib.hid hQ
  have HT := Lib.hid hT
  have HPG := Lib.hid (And.intro hp hg)
  have HBX := Lib.hid hbx
  have HCL := Lib.hid (fun W (hW : Below w.heap.size w W) => clone_ents W A c Q n hQ (by have := HL.out.1; omega) (hA.row.below hW))
  clear h hk hQ hn hA hT hm hK he hp hg hts hgd htk hlen hgood hbx hc32 hm1
  go_enter Tryz.func32, Tryz.ntmps32
  go_wp2_with (fail)
  refine HC.out.mono ?_
  rintro e w1 ⟨rfl, b1⟩
  have B1 := Lib.hid b1
  clear b1
  go_wp2_with (fail)
  refine (HCL.out w1 B1.out).mono ?_
  rintro e w2 ⟨v, rfl, hown, b2⟩
  obtain ⟨vA, vc, rfl⟩ : ∃ vA vc, v = .slice vA n vc := by
    rcases hown.2 with ⟨e, h0⟩ | ⟨g, cap, cur, e, _⟩
    · exact ⟨none, 0, by rw [e, h0]⟩
    · exact ⟨_, _, e⟩
  have B2 := Lib.hid b2
  have HOWN := Lib.hid hown
  clear b2 hown HCL HC
  go_wp2_with (fail)
  have hNw : w.heap.size ≤ w1.heap.size := B1.out.size
  have hN2 : w1.heap.size ≤ w2.heap.size := B2.out.size
  have hbl : b < w.heap.size := (Array.getElem?_eq_some_iff.1 HH.out).1
  have HWK := Lib.hid (show Wk w1 w1.heap.size b w2.heap.size x s Q (.slice vA n vc) none 0 [] (w2.alloc (wkO b (.slice vA n vc) none 0 0)) from by
    have hb3 := B2.out.alloc B2.out.size (wkO b (.slice vA n vc) none 0 0)
    refine ⟨Br.stays (Br.stays HH.out B1.out) hb3, by omega, hN2, heap_alloc_new w2 _, ?_, KIn.nil _ _ _, fun q hq => ?_, hb3⟩
    · rw [HQ.out]
      exact own_moved HOWN.out fun k hk => Below.heap_alloc w2 _ k (HOWN.out.lt k hk).2
    · have h1 := ((HA.out.all q hq).new.below (B1.out.trans (hb3.mono hNw)))
      refine h1.mono fun j hj => ⟨by omega, fun e => ?_⟩
      have := (HOWN.out.lt j e).1
      omega)
  have HNW := Lib.hid (And.intro hNw hbl)
  have HPB := Lib.hid (show 0 < w1.heap.size ∧ 1 < w1.heap.size from ⟨Nat.lt_of_lt_of_le HPG.out.1.lt hNw, Nat.lt_of_lt_of_le HPG.out.2.lt hNw⟩)
  have HP1 := Lib.hid (show POn w1 ∧ GOn w1 from ⟨HPG.out.1.below B1.out (Nat.le_refl _), HPG.out.2.below B1.out (Nat.le_refl _)⟩)
  have HKT1 := Lib.hid (HKT.out.below B1.out (Nat.le_refl _))
  generalize hwb : w2.heap.size = wb at HWK ⊢
  have HWK' := Lib.hid HWK.out
  unfold wkO wkA at HWK'
  generalize w2.alloc (.cells #[.pointer (some ⟨b, 0, none⟩), .slice vA n vc, .slice none 0 0] 96 (0, 0)) = w3 at HWK' ⊢
  clear HWK hNw hN2 hbl hwb B2 HOWN HPG HKT HH
  go_loopw [27] (fun i wr => ∃ (j : Nat) (R : List (Er × Ent)) (v : Value) (X : Option Addr) (c : Nat) (z : List Int), i = .int .i64 (j : Int) ∧ j ≤ m ∧ Wk w1 w1.heap.size b wb x s (Q ++ R) v X c z wr ∧ past R = runE x s (past Q) (ts.take j) ∧ (∀ k, j = k + 1 → z = (endT x s (past Q ++ runE x s (past Q) (ts.take k)) (ts.getD k 0)).2.2) ∧ ∀ q ∈ R, Fr w1.heap.size q.1 q.2) (fun i _ => match i with | .int _ k => m - k.toNat | _ => 0)
  case atStart => exact ⟨0, [], _, _, _, _, rfl, Nat.zero_le _, by rw [List.append_nil]; exact HWK'.out, rfl, fun k hk => absurd hk (by omega), fun q hq => by cases hq⟩
  case round =>
    clear HWK'
    obtain ⟨j, R, v, X, c, z, rfl, hj, hw, hr, hz, hfr⟩ := hrel
    have HFR := Lib.hid hfr
    have HWR := Lib.hid hw
    have HR := Lib.hid hr
    have HZ := Lib.hid hz
    have HLR := Lib.hid (show (Q ++ R).length = n + j by
      have h1 : (past R).length = j := by rw [hr, runE_length, List.length_take, HT.out]; omega
      rw [past_length] at h1
      rw [List.length_append, HQ.out, h1])
    clear hw hr hz hfr
    have x2 : 0 ≤ (j : Int) := by omega
    by_cases hlt : j < m
    · have x0 : (j : Int) < (m : Int) := by omega
      have x1 : decide ((j : Int) < (m : Int)) = true := decide_eq_true x0
      have HLT := Lib.hid hlt
      obtain ⟨pb, po, hTe, hcell⟩ := (HKT1.out.below HWR.out.below (Nat.le_refl _)).at (show j < ts.length by rw [HT.out]; exact hlt)
      subst hTe
      have HTJ := Lib.hid (HTK.out j hlt)
      have HPQ := Lib.hid (show past (Q ++ R) = past Q ++ runE x s (past Q) (ts.take j) by rw [past_append, HR.out])
      have HNX := Lib.hid (run_next x s (past Q) (show j < ts.length by rw [HT.out]; exact hlt))
      generalize hz0 : ts.getD j 0 = tok at hcell HTJ HNX
      have HTKJ := Lib.hid hz0
      clear hz0
      go_wp2_with (fail)
      refine (walk_enter w1 wr w1.heap.size b wb x s (Q ++ R) v X c z HWR.out HK.out tok HTJ.out.1 HTJ.out.2 (by rw [HLR.out]; have := HL.out; omega) (by rw [HLR.out]; have := HL.out; omega)).mono ?_
      rintro e w4 ⟨rfl, kb, vb, r, v', X', c', hwp⟩
      have HWP := Lib.hid hwp
      obtain ⟨z0, hz0⟩ : ∃ z0, z0 = startL x s tok (Q ++ R).length := ⟨_, rfl⟩
      rw [← hz0] at HWP
      have HZ0 := Lib.hid (show rowB (dN x) z0 = true by rw [hz0]; exact startL_row x s tok _)
      have HZE := Lib.hid hz0
      have x0' := (three hwp.wk.blk).1
      obtain ⟨e0, e1, e2, e3, e4, e5, e6⟩ := seven hwp.wk.brain
      have HGQ := Lib.hid (goodQ_of HPQ.out (HGD.out (ts.take j)))
      rw [← HBX.out] at e3
      have HF0 := Lib.hid hwp.new
      clear hwp HWR HZ hcell hz0
      go_wp2_with (fail)
      go_loopw [40] (fun i wq => ∃ (k : Nat) (r : Er) (X : Option Addr) (c : Nat), i = .int .i64 (k : Int) ∧ k ≤ bN x ∧ Wp w1 w1.heap.size b wb kb vb x s (Q ++ R) r ⟨ksOf x s (past (Q ++ R)) z0 k, vsOf x s (past (Q ++ R)) z0 k⟩ v' X c (through x s (past (Q ++ R)) z0 k).2.2 wq ∧ Fr w1.heap.size r ⟨ksOf x s (past (Q ++ R)) z0 k, vsOf x s (past (Q ++ R)) z0 k⟩) (fun i _ => match i with | .int _ k => bN x - k.toNat | _ => 0)
      case atStart => exact ⟨0, r, X', c', rfl, Nat.zero_le _, HWP.out, HF0.out⟩
      case round =>
        clear HWP x0' e0 e1 e2 e3 e4 e5 e6
        obtain ⟨k, r2, X2, c2, rfl, hk2, hwq, hf2⟩ := hrel
        have HF2 := Lib.hid hf2
        clear hf2
        have HWQ := Lib.hid hwq
        clear hwq
        have y2 : 0 ≤ (k : Int) := by omega
        by_cases hlk : k < bN x
        · have y0 : (k : Int) < (bN x : Int) := by omega
          have y1 : decide ((k : Int) < (bN x : Int)) = true := decide_eq_true y0
          have HLK := Lib.hid hlk
          have HZL := Lib.hid (rowB_iff.1 (through_row x s (past (Q ++ R)) z0 HZ0.out k)).1
          have hpk : POn _ := HP1.out.1.keep HWQ.out.wk.below HPB.out.1
          have HPK := Lib.hid hpk
          clear hpk
          go_wp2_with (fail)
          refine (walk_attend w1 _ w1.heap.size b wb kb vb x s (Q ++ R) r2 _ v' X2 c2 _ HWQ.out HK.out HPK.out k hlk HZL.out HGQ.out (ks_length x s _ z0 (Nat.le_of_lt hlk)) (vs_length x s _ z0 (Nat.le_of_lt hlk)) (by rw [HLR.out]; have := HL.out; omega) HPB.out.1).mono ?_
          rintro e w5 ⟨rfl, r3, X3, c3, hw5, hf3⟩
          have hf3' := fun hf => hf3 hf
          rw [ks_next x s (past (Q ++ R)) z0 hlk, vs_next x s (past (Q ++ R)) z0 hlk] at hf3'
          have hw5' : Wp w1 w1.heap.size b wb kb vb x s (Q ++ R) r3 ⟨ksOf x s (past (Q ++ R)) z0 (k + 1), vsOf x s (past (Q ++ R)) z0 (k + 1)⟩ v' X3 c3 (midL x s k (kAt (past (Q ++ R)) k) (vAt (past (Q ++ R)) k) (through x s (past (Q ++ R)) z0 k).2.2) w5 := by
            rw [← ks_next x s (past (Q ++ R)) z0 hlk, ← vs_next x s (past (Q ++ R)) z0 hlk]
            exact hw5
          have HW5 := Lib.hid hw5'
          have HF3 := Lib.hid (hf3' HF2.out)
          have HG5 := Lib.hid (HP1.out.2.keep hw5'.wk.below HPB.out.2)
          clear hw5 hw5' hf3 hf3'
          go_wp2_with (fail)
          refine (walk_gate w1 w5 w1.heap.size b wb x s _ v' X3 c3 _ HW5.out.wk HK.out HG5.out k hlk (plusL_length _ _)).mono ?_
          rintro e w6 ⟨rfl, W, A6, c6, hbW, hkW, rfl⟩
          have hw7 := (HW5.out.step hbW).setX (c' := c6) hkW
          have hdl : (downL x s k (midL x s k (kAt (past (Q ++ R)) k) (vAt (past (Q ++ R)) k) (through x s (past (Q ++ R)) z0 k).2.2)).length = dN x := plusL_length _ _
          rw [hdl] at hw7
          have HW7 := Lib.hid hw7
          clear hbW hkW hw7 hdl
          have y3 := IntWalk.wrap64_in ((k : Int) + 1) (by have := HK.out.good.is.b3; have := HBX.out; omega)
          go_wp2_with (fail)
          rw [y3]
          exact ⟨⟨k + 1, r3, A6, c6, rfl, HLK.out, HW7.out, HF3.out⟩, vc_less k _ HLK.out⟩
        · have hke : k = bN x := by omega
          have y0 : ¬ (k : Int) < (bN x : Int) := by omega
          have y1 : decide ((k : Int) < (bN x : Int)) = false := decide_eq_false y0
          rw [hke] at HWQ HF2
          have HEN := Lib.hid (show Wk w1 w1.heap.size b wb x s (Q ++ (R ++ [(r2, entZ x s (past (Q ++ R)) tok)])) v' X2 c2 (endT x s (past (Q ++ R)) tok).2.2 _ from by
            have h1 := HWQ.out.wk
            rw [ks_all, vs_all, HZE.out, List.append_assoc] at h1
            have e : (Q ++ R).length = (past (Q ++ R)).length := (past_length _).symm
            rw [e] at h1
            exact h1)
          have HFE := Lib.hid (show Fr w1.heap.size r2 (entZ x s (past (Q ++ R)) tok) from by
            have h1 := HF2.out
            rw [ks_all, vs_all, HZE.out] at h1
            have e : (Q ++ R).length = (past (Q ++ R)).length := (past_length _).symm
            rw [e] at h1
            exact h1)
          have x3 := IntWalk.wrap64_in ((j : Int) + 1) (by have := HL.out; have := HLT.out; omega)
          clear hke hlk
          go_wp2_with (fail)
          rw [x3]
          refine ⟨⟨j + 1, R ++ [(r2, entZ x s (past (Q ++ R)) tok)], v', X2, c2, _, rfl, HLT.out, HEN.out, ?_, fun k hk => ?_, fun q hq => ?_⟩, vc_less j m HLT.out⟩
          · rw [past_append, HR.out, HPQ.out, take_snoc (by rw [HT.out]; exact HLT.out), runE_append, HTKJ.out]
            rfl
          · have hkj : j = k := Nat.succ.inj hk
            subst hkj
            rw [HPQ.out, HTKJ.out]
          · rcases List.mem_append.1 hq with hq | hq
            · exact HFR.out q hq
            · rw [List.mem_singleton.1 hq]
              exact HFE.out
    · have hke : j = m := by omega
      have x0 : ¬ (j : Int) < (m : Int) := by omega
      have x1 : decide ((j : Int) < (m : Int)) = false := decide_eq_false x0
      rw [hke] at HLR HR HZ
      obtain ⟨k, hmk⟩ : ∃ k, m = k + 1 := ⟨m - 1, by have := HL.out; omega⟩
      have HSC := Lib.hid (show runS x s (past Q) ts = scoresL x s z by
        rw [run_scores x s (past Q) (k := k) (by rw [HT.out]; exact hmk), HZ.out k hmk]
        rfl)
      obtain ⟨g, cap, hve, hcap, hcells⟩ := HWR.out.row (by rw [HLR.out]; have := HL.out; omega)
      subst hve
      have HGG := Lib.hid (show w.heap.size ≤ g from Nat.le_trans HNW.out.1 (HWR.out.own.lt g rfl).1)
      rw [HLR.out] at HWR hcap
      have hct := cut_ents g (n + m) cap n m (n : Int) rfl (by omega) (by have := HL.out; omega) (by omega)
      have HE := Lib.hid (show past R = runE x s (past Q) ts by rw [HR.out, ← HT.out, List.take_length])
      have HEI := Lib.hid (fun W (hW : Below _ _ W) => (EsIn.cut hcells HWR.out.ents).below hW)
      rw [HQ.out] at HEI
      have HZL := Lib.hid (show z.length = dN x by
        rw [HZ.out k hmk]
        exact (rowB_iff.1 (through_row x s _ _ (startL_row x s _ _) _)).1)
      have B0 := Lib.hid (below_drewN (Below.refl wr.heap.size wr) 1)
      have HWD := Lib.hid (HWR.out.step B0.out)
      have k0 := (three HWD.out.blk).2.1
      have HCP := Lib.hid (show ts.length ≤ cap - n by rw [HT.out]; omega)
      clear hke hlt hmk hcells hcap HZ
      have HSS := Lib.hid (show Calls Tryz.prog 66 #[.pointer (some ⟨wb, 0, none⟩)] wr.drew fun e w' => ∃ A c, e = .returned (.slice A (vN x) c) ∧ KIn .i64 w' A (runS x s (past Q) ts) ∧ Below wr.drew.heap.size wr.drew w' from by
        have := walk_scores w1 wr.drew w1.heap.size b wb x s _ _ X _ z HWD.out HK.out HZL.out
        unfold RowSays at this
        rw [scoresL_length, ← HSC.out] at this
        exact this)
      have HST := Lib.hid (fun W (hW : Below wr.drew.heap.size wr.drew W) => show W.cell? ⟨wb, 1, none⟩ = some (.slice (some ⟨g, 0, none⟩) (n + m) cap) from (three (HWD.out.step hW).blk).2.1)
      have HRL := Lib.hid (show (runS x s (past Q) ts).length = vN x by rw [HSC.out, scoresL_length])
      have HB1 := Lib.hid (B1.out.trans (HWD.out.below.mono HNW.out.1))
      go_wp2_with (fail)
      go_region_held3 (fun W : World => W.cell? ⟨wb, 1, none⟩ = some (.slice (some ⟨g, 0, none⟩) (n + m) cap)) (first | exact k0 | assumption) (first
        | (go_at_call 66; (with_reducible refine HSS.out.mono ?_); rintro e w9 ⟨SA, sc, rfl, hka, b9⟩; have K9 := Lib.hid hka; have B9 := Lib.hid b9; have k9 := HST.out _ b9; clear hka b9))
      go_wp2_with (fail)
      refine bodyPost_ret (results_tmp3 rfl _ _ _) rfl ?_
      refine ⟨some ⟨g, n * 2, none⟩, cap - n, SA, sc, R, by rw [HT.out]; rfl, HE.out, HEI.out w9 (B0.out.trans (B9.out.mono B0.out.size)), K9.out, HRL.out, ⟨fun q hq => (HFR.out q hq).mono HNW.out.1, HCP.out, fun a e => by rw [← Option.some.inj e]; exact HGG.out⟩, HB1.out.trans (B9.out.mono HB1.out.size)⟩
end
end Go.Proofs.YtkdkeokldcehhaaGreatDoor
namespace Go.Proofs.YtkdkeokldcehhaaGreatDoor
open Go.ChangeShapes Go.WideShapes Go.ChangeAt Go.RowKit Nm Cf Vc Br Nr Sf Ac Sp

theorem results_cell_tmp2 {P : Program} {fn : Func} {p u v : Tmp} {ty : TypeId} (h : fn.results = #[.cell p ty, .tmp u, .tmp v]) (tmps : Array Value) (w : World) (g : Nat) (t : TypeId) (cs : Array Value) (fr : Nat × Nat) (d : TypeDesc)
    (hp : tmps.getD p undef = .pointer (some ⟨g, 0, none⟩)) (hg : w.heap[g]? = some (.cells cs t fr))
    (hu : P.underlying ty = some d) (hd : (match d with | .struct _ | .array _ _ => true | _ => false) = true) (hi : (P.info? ty).map (·.size) = some cs.size) :
    (results fn tmps).run P w = .ok (.tuple #[.agg cs, tmps.getD u undef, tmps.getD v undef]) w := by
  have e : (results fn tmps).run P w = ((asAddr (tmps.getD p undef)).run P w).andThen fun a w₁ => ((loadVar ty a).run P w₁).andThen fun z w₂ => .ok (.tuple #[z, tmps.getD u undef, tmps.getD v undef]) w₂ := by
    simp only [results, h]
    simp [Sem.run_bind, Result.andThen]
  rw [e, hp]
  simp [asAddr, run_loadVar_row w g t ty cs fr d hg hu hd hi]
namespace Sp
def enO (a b : Value) : Obj := .cells #[a, b] 29 (0, 0)
theorem enI (a b : Value) : (Tryz.prog.info? 29).map (·.size) = some (#[a, b] : Array Value).size := by
  show _ = some 2
  kernel_rfl
section
variable {W : World} {b : Nat} {a0 b0 : Value} (h : W.heap[b]? = some (enO a0 b0)) (p q : Value)
include h
theorem en0 : W.cell? ⟨b, 0, none⟩ = some a0 := by rw [cell_of_row _ _ _ _ _ _ h]; rfl
theorem en1 : W.cell? ⟨b, 1, none⟩ = some b0 := by rw [cell_of_row _ _ _ _ _ _ h]; rfl
theorem enFz (i : Nat) : W.frozen? ⟨b, i, none⟩ = false := frozen_of_row W b i _ _ h
theorem set2 : ((W.setCell ⟨b, 0, none⟩ p).setCell ⟨b, 1, none⟩ q).heap[b]? = some (enO p q) := heap_setCell_same _ b 1 _ _ _ (heap_setCell_same W b 0 _ _ _ h)
end
theorem below_set2 {B : Nat} {w0 W : World} (h : Below B w0 W) {b : Nat} (hb : B ≤ b) (p q : Value) : Below B w0 ((W.setCell ⟨b, 0, none⟩ p).setCell ⟨b, 1, none⟩ q) :=
  (h.setCell (p := ⟨b, 0, none⟩) hb p).setCell (p := ⟨b, 1, none⟩) hb q
/-- A made entry's rows don't lie in a variable of no rows. -/
theorem rows_off {x : Cfg} {p : Nat → Prop} {W : World} {g : Nat} {A : Option Addr} {B : Nat → Option Addr} {C : Nat → Nat} {L : List (List Int)} (h : LOn p W A B C L) (hg : W.heap[g]? = some (enO (.slice none 0 0) (.slice none 0 0))) (hL : rowsB (bN x) (dN x) L = true) (hd : 0 < dN x) : LOn (fun j => p j ∧ j ≠ g) W A B C L := by
  have hc : ∀ i, W.cell? ⟨g, i, none⟩ = some (.slice none 0 0) ∨ W.cell? ⟨g, i, none⟩ = none := fun i => by
    rw [cell_of_row _ _ _ _ _ _ hg]
    match i with
    | 0 => exact .inl rfl
    | 1 => exact .inl rfl
    | n + 2 => exact .inr rfl
  refine lon_off h (fun i kd z e => ?_) (fun h0 a ha e => ?_)
  · rcases hc i with h1 | h1 <;> rw [h1] at e <;> cases e
  · obtain ⟨pb, po, rfl, hx⟩ := h.is h0
    injection ha with ha
    rw [← ha] at e
    have e' : pb = g := e
    subst e'
    have h1 := (hx 0 h0).1
    rcases hc (po + 0) with h2 | h2 <;> rw [h2] at h1
    · injection h1 with h1
      injection h1 with _ h1 _
      have h3 := (rowB_iff.1 ((rowsB_iff.1 hL).2 (L.getD 0 []) (by rw [List.getD_eq_getElem?_getD, List.getElem?_eq_getElem h0]; exact List.getElem_mem _))).1
      omega
    · cases h1
/-- What a step answers that goes well. -/
def StepSays (w : World) (x : Cfg) (s : ByteArray) (P : List Ent) (tok : Int) (e : Ending) (w' : World) : Prop :=
  ∃ r SA sc, e = .returned (.tuple #[eV r (entZ x s P tok), .slice SA (vN x) sc, .int .i64 0]) ∧ EOn (fun _ => True) w' r (entZ x s P tok) ∧ KIn .i64 w' SA (scoZ x s P tok) ∧ (scoZ x s P tok).length = vN x ∧ Fr w.heap.size r (entZ x s P tok) ∧ Below w.heap.size w w'
end Sp
section
variable (w : World) (A : Option Addr) (n c : Nat) (Q : List (Er × Ent)) (tok : Int)
set_option maxRecDepth 100000 in
set_option maxHeartbeats 1600000 in
/-- Step, where Run answers an error. -/
theorem step_step_by (bp : Option Addr) (r : Int) (hr : r ≠ 0) (hR : ∀ W T, KIn .i64 W T [tok] → Below w.heap.size w W → Calls Tryz.prog 32 #[.pointer bp, .slice A n c, .slice T 1 1] W fun e w' => e = .returned (.tuple #[.slice none 0 0, .slice none 0 0, .int .i64 r]) ∧ Below W.heap.size W w') :
    Calls Tryz.prog 14 #[.pointer bp, .slice A n c, .int .i64 tok] w fun e w' => e = .returned (.tuple #[.agg #[.slice none 0 0, .slice none 0 0], .slice none 0 0, .int .i64 r]) ∧ Below w.heap.size w w' := by
  have HB0 := Lib.hid ((Below.refl w.heap.size w).alloc (Nat.le_refl _) (enO (.slice none 0 0) (.slice none 0 0)))
  have HN0 := Lib.hid (heap_alloc_new w (enO (.slice none 0 0) (.slice none 0 0)))
  have HB1 := Lib.hid (HB0.out.alloc HB0.out.size (.cells #[.int .i64 tok] 3))
  have HN1 := Lib.hid ((heap_alloc_old _ (.cells #[.int .i64 tok] 3) (Array.getElem?_eq_some_iff.1 HN0.out).1).trans HN0.out)
  have HR := Lib.hid (hR ((w.alloc (enO (.slice none 0 0) (.slice none 0 0))).alloc (.cells #[.int .i64 tok] 3)) (some ⟨w.heap.size + 1, 0, none⟩) (kin1 _ _ tok (by simp)) HB1.out)
  have HI := Lib.hid (enI (.slice none 0 0) (.slice none 0 0))
  have t0 : (r != 0) = true := bne_iff_ne.2 hr
  unfold enO at HR
  clear hR hr
  go_enter Tryz.func14, Tryz.ntmps14
  go_wp2_with (fail)
  refine HR.out.mono ?_
  rintro e w1 ⟨rfl, b1⟩
  have HB2 := Lib.hid (HB1.out.trans (b1.mono HB1.out.size))
  have HN2 := Lib.hid ((b1.block _ (Array.getElem?_eq_some_iff.1 HN1.out).1).trans HN1.out)
  have d0 := en0 HN2.out
  have d1 := en1 HN2.out
  have df := enFz HN2.out
  clear b1
  go_wp2_with (fail)
  refine bodyPost_ret (results_cell_tmp2 rfl _ _ _ 29 _ _ _ rfl (set2 HN2.out (.slice none 0 0) (.slice none 0 0)) Tryz.underlying29 rfl HI.out) rfl ?_
  exact ⟨rfl, below_set2 HB2.out (Nat.le_refl _) _ _⟩
set_option maxRecDepth 100000 in
set_option maxHeartbeats 3200000 in
theorem step_step (b : Nat) (x : Cfg) (s : ByteArray) (h : w.heap[b]? = some (brO x s)) (hk : Ok x s) (hQ : Q.length = n) (hn : n ≤ 1000000) (hA : EsIn w A Q) (he : errZ x (past Q) tok = 0) (hp : POn w) (hg : GOn w) :
    Calls Tryz.prog 14 #[.pointer (some ⟨b, 0, none⟩), .slice A n c, .int .i64 tok] w (StepSays w x s (past Q) tok) := by
  have hb0 := (Below.refl w.heap.size w).alloc (Nat.le_refl _) (enO (.slice none 0 0) (.slice none 0 0))
  have HB0 := Lib.hid hb0
  have HN0 := Lib.hid (heap_alloc_new w (enO (.slice none 0 0) (.slice none 0 0)))
  have HB1 := Lib.hid (HB0.out.alloc HB0.out.size (.cells #[.int .i64 tok] 3))
  have HN1 := Lib.hid ((heap_alloc_old _ (.cells #[.int .i64 tok] 3) (Array.getElem?_eq_some_iff.1 HN0.out).1).trans HN0.out)
  have HR := Lib.hid (step_run ((w.alloc (enO (.slice none 0 0) (.slice none 0 0))).alloc (.cells #[.int .i64 tok] 3)) A n c Q (some ⟨w.heap.size + 1, 0, none⟩) 1 1 [tok] b x s (Br.stays h HB1.out) hk hQ hn (hA.below HB1.out) rfl (by omega) (kin1 _ _ tok (by simp)) (by rw [errR_one]; exact he) (hp.below HB1.out (Nat.le_refl _)) (hg.below HB1.out (Nat.le_refl _)))
  have HDP := Lib.hid (show 0 < dN x by have := hk.good.is.d1; have := (dims hk.good.is).1; omega)
  unfold RunSays enO at HR
  clear h hk hQ hn hA he hp hg hb0
  go_enter Tryz.func14, Tryz.ntmps14
  go_wp2_with (fail)
  refine HR.out.mono ?_
  rintro e w1 ⟨EA, ec, SA, sc, R, rfl, hpR, hEI, hKI, hrl, ⟨hfr, _⟩, b1⟩
  have HB2 := Lib.hid (HB1.out.trans (b1.mono HB1.out.size))
  have HN2 := Lib.hid ((b1.block _ (Array.getElem?_eq_some_iff.1 HN1.out).1).trans HN1.out)
  obtain ⟨r, hr⟩ : ∃ r, R = [(r, entZ x s (past Q) tok)] := by
    match R, hpR with
    | [(r, e)], hpR =>
      have h1 : e = entZ x s (past Q) tok := by
        have := congrArg (fun l => l[0]?) hpR
        exact Option.some.inj this
      exact ⟨r, by rw [h1]⟩
  subst hr
  obtain ⟨pb, po, rfl, hc0, hc1⟩ := hEI.row.cell (i := 0) rfl
  rw [Nat.zero_mul, Nat.add_zero] at hc0
  rw [Nat.zero_mul, Nat.add_zero] at hc1
  have HEI := Lib.hid (hEI.all _ (List.mem_singleton.2 rfl))
  have HFR := Lib.hid ((hfr _ (List.mem_singleton.2 rfl)).mono HB1.out.size)
  have HKI := Lib.hid hKI
  have HRL := Lib.hid hrl
  have d0 := en0 HN2.out
  have d1 := en1 HN2.out
  have df := enFz HN2.out
  have HS : runS x s (past Q) [tok] = scoZ x s (past Q) tok := rfl
  have HEQ := Lib.hid HS
  have HX := Lib.hid (show eV r (entZ x s (past Q) tok) = .agg #[.slice r.kA (entZ x s (past Q) tok).ks.length r.kc, .slice r.vA (entZ x s (past Q) tok).vs.length r.vc] from rfl)
  have hge := goodE_iff.1 (entZ_good x s (past Q) tok)
  have hee := hEI.all _ (List.mem_singleton.2 rfl)
  have HEO := Lib.hid (show EOn (fun j => True ∧ j ≠ w.heap.size) w1 r (entZ x s (past Q) tok) from ⟨rows_off hee.k HN2.out hge.1 HDP.out, rows_off hee.v HN2.out hge.2 HDP.out⟩)
  clear b1 hpR hEI hKI hrl hfr HS hge hee
  dsimp only at hc0 hc1
  go_wp2_with (fail)
  refine bodyPost_ret (results_cell_tmp2 rfl _ _ _ 29 _ _ _ rfl (set2 HN2.out _ _) Tryz.underlying29 rfl (enI _ _)) rfl ?_
  have ho : ∀ j, True ∧ j ≠ w.heap.size → ((w1.setCell ⟨w.heap.size, 0, none⟩ (.slice r.kA (entZ x s (past Q) tok).ks.length r.kc)).setCell ⟨w.heap.size, 1, none⟩ (.slice r.vA (entZ x s (past Q) tok).vs.length r.vc)).heap[j]? = w1.heap[j]? := fun j hj =>
    (heap_setCell_other _ ⟨w.heap.size, 1, none⟩ j _ hj.2).trans (heap_setCell_other _ ⟨w.heap.size, 0, none⟩ j _ hj.2)
  refine ⟨r, SA, sc, by rw [HX.out]; rfl, (HEO.out.moved ho).mono fun _ _ => trivial, ?_, HRL.out, HFR.out, below_set2 HB2.out (Nat.le_refl _) _ _⟩
  exact KIn.moved HKI.out ((off (fun i kd z e => by
    rw [cell_of_row _ _ _ _ _ _ HN2.out] at e
    match i with
    | 0 => cases e
    | 1 => cases e
    | n + 2 => cases e) HKI.out).mono fun j hj => (show True ∧ j ≠ w.heap.size from ⟨trivial, hj⟩)) ho
end
end Go.Proofs.YtkdkeokldcehhaaGreatDoor
