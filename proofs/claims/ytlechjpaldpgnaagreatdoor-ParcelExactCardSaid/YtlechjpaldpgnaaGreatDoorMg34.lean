/-
  The reference of layer 21: New, Put, Missing, Text. Conditions: the parcel stands in its blocks; a chunk has fewer than 100000 bytes.
-/
import Derived.Test.YtlechjpaldpgnaaGreatDoorMg14
import Derived.Test.YtlechjpaldpgnaaGreatDoorMg33
import Derived.Test.YtlechjpaldpgnaaGreatDoorMg26
import Derived.Test.YtlechjpaldpgnaaGreatDoorMg24
import Derived.Test.YtlechjpaldpgnaaGreatDoorMg9
set_option maxRecDepth 100000
namespace Go.Proofs.YtlechjpaldpgnaaGreatDoor
open Go.ChangeShapes Go.WideShapes Go.ChangeAt Go.RowKit Sh Pn Mf Bt Pc

namespace Pc
/-- What the document's parcel has behind its manifest. -/
def tailR (ab n : Nat) : Array Value := #[.slice (some ⟨ab, 0, none⟩) n n]
/-- The document's parcel in blocks from B on. -/
structure Rcl (B : Nat) (w : World) (p : Nat) (m : Man) (A : Option Addr) (k ab n : Nat) (q : Nat → ByteArray) : Prop where
  hd : Head w p 79 m A k (tailR ab n)
  sin : SIn w A k m.sums
  row : w.rowIs ab 9 n (fun i => .string (q i))
  pa : p ≠ ab
  ns : 0 < m.sums.length → ∀ ad, A = some ad → ad.block ≠ ab
  lp : B ≤ p
  la : B ≤ ab
section
variable {B : Nat} {w w' : World} {p : Nat} {m : Man} {A : Option Addr} {k ab n : Nat} {q : Nat → ByteArray}
theorem sin_block' {w w' : World} {A : Option Addr} {k : Nat} {L : List (Nat → UInt8)} (h : SIn w A k L) (hb : 0 < L.length → ∀ ad, A = some ad → w'.heap[ad.block]? = w.heap[ad.block]?) : SIn w' A k L :=
  ⟨h.1, fun h0 => (sin_block h (hb h0)).2 h0⟩
theorem Rcl.of_blocks (h : Rcl B w p m A k ab n q) (e1 : w'.heap[p]? = w.heap[p]?) (e3 : w'.heap[ab]? = w.heap[ab]?) (e4 : 0 < m.sums.length → ∀ ad, A = some ad → w'.heap[ad.block]? = w.heap[ad.block]?) : Rcl B w' p m A k ab n q :=
  ⟨h.hd.of_block e1, sin_block' h.sin e4, h.row.of_block e3, h.pa, h.ns, h.lp, h.la⟩
theorem Rcl.keep (h : Rcl B w p m A k ab n q) (hb : Below w.heap.size w w') : Rcl B w' p m A k ab n q :=
  h.of_blocks (hb.block _ h.hd.lt) (hb.block _ h.row.lt) fun h0 ad e => hb.block _ (sin_lt h.sin h0 ad e)
/-- Beside two blocks that turn. -/
theorem Rcl.beside2 (h : Rcl B w p m A k ab n q) {a b : Nat} (ho : Only2 w w' a b) (h1 : p ≠ a ∧ p ≠ b) (h3 : ab ≠ a ∧ ab ≠ b) (h4 : 0 < m.sums.length → ∀ ad, A = some ad → ad.block ≠ a ∧ ad.block ≠ b) : Rcl B w' p m A k ab n q :=
  h.of_blocks (ho.block _ h.hd.lt h1.1 h1.2) (ho.block _ h.row.lt h3.1 h3.2) fun h0 ad e => ho.block _ (sin_lt h.sin h0 ad e) (h4 h0 ad e).1 (h4 h0 ad e).2
theorem Rcl.c37 (h : Rcl B w p m A k ab n q) : w.cell? ⟨p, 37, none⟩ = some (.slice (some ⟨ab, 0, none⟩) n n) := h.hd.tail 0 rfl
theorem Rcl.put (h : Rcl B w p m A k ab n q) (i : Nat) (d : ByteArray) : Rcl B (w.setCell ⟨ab, i, none⟩ (.string d)) p m A k ab n (putQ q i d) ∧ Only w (w.setCell ⟨ab, i, none⟩ (.string d)) ab := by
  have o : Only w (w.setCell ⟨ab, i, none⟩ (.string d)) ab := (Only.refl w ab).setCell (.inl rfl) _
  refine ⟨⟨h.hd.of_block (o.block _ h.hd.lt h.pa), sin_block' h.sin fun h0 ad e => o.block _ (sin_lt h.sin h0 ad e) (h.ns h0 ad e), ?_, h.pa, h.ns, h.lp, h.la⟩, o⟩
  refine row_of_block ?_
  have hb := row_block h.row
  rw [heap_setCell_same w ab i _ _ _ hb, vals_set]
  congr 2
  refine vals_congr fun j _ => ?_
  unfold putQ
  by_cases hj : j = i
  · rw [if_pos hj, if_pos hj]
  · rw [if_neg hj, if_neg hj]
end
theorem Rcl.lower {B C : Nat} {w : World} {p : Nat} {m : Man} {A : Option Addr} {k ab n : Nat} {q : Nat → ByteArray} (h : Rcl B w p m A k ab n q) (hc : C ≤ B) : Rcl C w p m A k ab n q := ⟨h.hd, h.sin, h.row, h.pa, h.ns, Nat.le_trans hc h.lp, Nat.le_trans hc h.la⟩
theorem newR_ends {B : Nat} {w1 w4 : World} {m : Man} {A : Option Addr} {k : Nat} (hS : SIn w1 A k m.sums) (hb : Below w1.heap.size w1 w4) (hB : B ≤ w1.heap.size) (n : Nat) :
    Rcl B ((w4.alloc (.cells (madeCells #[.string ⟨#[]⟩] n) 9)).alloc (.cells (manA m A k ++ tailR w4.heap.size n) 79)) (w4.alloc (.cells (madeCells #[.string ⟨#[]⟩] n) 9)).heap.size m A k w4.heap.size n noQ ∧
    Below w1.heap.size w1 ((w4.alloc (.cells (madeCells #[.string ⟨#[]⟩] n) 9)).alloc (.cells (manA m A k ++ tailR w4.heap.size n) 79)) := by
  have hr := World.rowIs_made w4 (.string ⟨#[]⟩) n 9
  have hb5 := hb.alloc hb.size (.cells (madeCells #[.string ⟨#[]⟩] n) 9)
  generalize w4.alloc (.cells (madeCells #[.string ⟨#[]⟩] n) 9) = w5 at *
  have ha : Below w5.heap.size w5 (w5.alloc (.cells (manA m A k ++ tailR w4.heap.size n) 79)) := (Below.refl _ _).alloc (Nat.le_refl _) _
  have h1 := hb.size
  have h2 := hr.lt
  have h3 := hb5.size
  refine ⟨⟨⟨heap_alloc_new w5 _⟩, (hS.keep hb5).keep ha, hr.of_block (ha.block _ h2), by omega, fun h0 ad e => ?_, by omega, by omega⟩, hb5.trans (ha.mono h3)⟩
  have := sin_lt hS h0 ad e
  omega
theorem has_empty {q : Nat → ByteArray} {i : Nat} (h : hasQ q i = false) : q i = ⟨#[]⟩ := by
  unfold hasQ at h
  exact empty_of_size (by have := of_decide_eq_false h; omega)
theorem has_some {q : Nat → ByteArray} {i : Nat} (h : hasQ q i = true) : (q i).toList.isEmpty = false := by
  unfold hasQ at h
  exact not_empty (of_decide_eq_true h)
theorem rp_less (j n : Nat) (h : j < n) : n - ((j : Int) + 1).toNat < n - (j : Int).toNat := by omega
end Pc
theorem rcIL (m : Man) (A : Option Addr) (k : Nat) : (Tryz.prog.info? 33).map (·.size) = some (manA m A k).toList.length := manIL2 m A k
theorem rcBuilt (m : Man) (A : Option Addr) (k ab n : Nat) : Tryz.prog.built 79 [(0, .agg (manA m A k)), (1, .slice (some ⟨ab, 0, none⟩) n n)] = some (manA m A k ++ tailR ab n) := by kernel_rfl
theorem infoStr21 : (Tryz.prog.info? 9).map (fun i => (i.zero, i.size, i.bytes)) = some (some (.string ⟨#[]⟩), 1, 16) := by kernel_rfl
set_option maxRecDepth 100000 in
set_option maxHeartbeats 3200000 in
theorem ref21_new (w : World) (m : Man) (A : Option Addr) (k : Nat) (hS : SIn w A k m.sums) (hn : countM m ≤ 100000) :
    Calls Tryz.prog 6 #[.agg (manA m A k)] w fun e w' => ∃ p ab, e = .returned (.pointer (some ⟨p, 0, none⟩)) ∧ Rcl w.heap.size w' p m A k ab (countM m) noQ ∧ Below w.heap.size w w' := by
  have HC := Lib.hid (fun W => ref20_count W m A k)
  have HIL := Lib.hid (rcIL m A k)
  have HA := Lib.hid (at_new w 33 m A k)
  have HB := Lib.hid ((Below.refl w.heap.size w).alloc (Nat.le_refl _) (.cells (manA m A k) 33))
  have HKS := Lib.hid (show ∀ W, Below (w.alloc (.cells (manA m A k) 33)).heap.size (w.alloc (.cells (manA m A k) 33)) W → W.rangeAt w.heap.size 0 (manA m A k).toList from fun W hW j u hj => by
    have ha := HA.out.keep hW
    rw [cell_of_row _ _ (0 + j) _ _ _ ha.cells, Nat.zero_add, ← hj, Array.getElem?_toList])
  have HSI := Lib.hid hS
  have HN := Lib.hid hn
  clear hS
  generalize countM m = n at *
  have hmk : ∀ W, (Instr.makeSlice 42 (.int .i64 (n : Int)) (.int .i64 (n : Int))).run Tryz.prog W = .ok (.slice (some ⟨W.heap.size, 0, none⟩) n n) (W.alloc (.cells (madeCells #[.string ⟨#[]⟩] n) 9)) := fun W =>
    run_make_row' 42 9 (.string ⟨#[]⟩) 16 Tryz.underlying42 infoStr21 rfl .i64 .i64 n (by omega) (by omega) W
  clear hn
  go_enter Tryz.func6, Tryz.ntmps6
  go_wp2_with (fail)
  have k0 := HKS.out _ (below_drewN (Below.refl _ _) 1)
  -- HAND
  refine wp_region_noPanic ?_
  refine wp_region_held_drew (S := (fun W : World => W.rangeAt w.heap.size 0 (manA m A k).toList)) (by kernel_rfl) k0 (fun hHeld => ?_)
  refine wpAnyH_takeAt (i := 0) (v := .agg (manA m A k).toList.toArray) 3 rfl rfl (by kernel_rfl) (by kernel_rfl) (by kernel_rfl) (fun _ _ _ h => h) (yieldsIf_load_mid (by rfl) 33 _ rfl w.heap.size (0) rfl (manA m A k).toList _ (fun W hW => hW) Tryz.underlying33 rfl HIL.out) hHeld ?_
  simp only [Act.put, List.setIfInBounds_toArray, List.set_cons_succ, List.set_cons_zero]
  refine wpAnyH_takeAt (i := 1) (v := .agg (manA m A k).toList.toArray) 4 rfl rfl (by kernel_rfl) (by kernel_rfl) (by kernel_rfl) (fun _ _ _ h => h) (yieldsIf_load_mid (by rfl) 33 _ rfl w.heap.size (0) rfl (manA m A k).toList _ (fun W hW => hW) Tryz.underlying33 rfl HIL.out) hHeld ?_
  simp only [Act.put, List.setIfInBounds_toArray, List.set_cons_succ, List.set_cons_zero]
  refine wpAnyH_ready (rs := [2]) (by kernel_rfl) (by simp) ?_
  refine AllReadyH.cons rfl (fun K hK => ?_) AllReadyH.nil
  go_simp
  refine (HC.out _).mono ?_
  rintro e w4 ⟨rfl, b4⟩
  replace b4 := (below_drewN (Below.refl (w.alloc (.cells (manA m A k) 33)).heap.size (w.alloc (.cells (manA m A k) 33))) 1).trans b4
  refine hK.out _ _ (HKS.out _ b4) (fun hHeld2 => ?_)
  clear hK K hHeld
  have hHeld := hHeld2
  clear hHeld2
  try simp only [Act.put, List.setIfInBounds_toArray, List.set_cons_succ, List.set_cons_zero]
  refine wpAnyH_ready (rs := [3]) (by kernel_rfl) (by simp) ?_
  refine AllReadyH.cons rfl (fun K hK => ?_) AllReadyH.nil
  go_simp
  refine hK.out _ _ (HKS.out _ (b4.alloc b4.size _)) (fun hHeld2 => ?_)
  clear hK K hHeld
  have hHeld := hHeld2
  clear hHeld2
  try simp only [Act.put, List.setIfInBounds_toArray, List.set_cons_succ, List.set_cons_zero]
  refine wpAnyH_ready (rs := [4]) (by kernel_rfl) (by simp) ?_
  refine AllReadyH.cons rfl (fun K hK => ?_) AllReadyH.nil
  refine step_struct (by rfl) 79 #[(0, .tmp 3), (1, .tmp 6)] (by rfl) _ (by rw [Array.toList_map]; exact rcBuilt m A k _ n) ?_
  refine hK.out _ _ (HKS.out _ (b4.alloc b4.size _)) (fun hHeld2 => ?_)
  clear hK K hHeld
  have hHeld := hHeld2
  clear hHeld2
  try simp only [Act.put, List.setIfInBounds_toArray]
  refine wpAnyH_ready (rs := [5]) (by kernel_rfl) (by simp) ?_
  refine AllReadyH.cons rfl (fun K hK => ?_) AllReadyH.nil
  go_simp
  refine hK.out _ _ (HKS.out _ ((b4.alloc b4.size _).alloc (by have := b4.size; simp at this ⊢; omega) _)) (fun hHeld2 => ?_)
  clear hK K hHeld
  have hHeld := hHeld2
  clear hHeld2
  try simp only [Act.put, List.setIfInBounds_toArray, List.set_cons_succ, List.set_cons_zero]
  refine wpAnyH_takeAt (i := 6) (v := .pointer (some ⟨(w4.alloc (.cells (madeCells #[.string ⟨#[]⟩] n) 9)).heap.size, 0, none⟩)) 2 rfl rfl (by kernel_rfl) (by kernel_rfl) (by kernel_rfl) (fun _ _ _ h => h) (Or.inl ⟨by rfl, ?_⟩) hHeld ?_
  · intro W hW
    try dsimp only at hW
    go_simp
  simp only [Act.put, List.setIfInBounds_toArray, List.set_cons_succ, List.set_cons_zero]
  refine wpAnyH_done (by kernel_rfl) ?_ _
  refine NoPanic.normal ?_
  -- DNAH
  go_wp2_with (fail)
  refine bodyPost_ret (results_tmp rfl _ _ _) rfl ?_
  obtain ⟨h1, h2⟩ := newR_ends (HSI.out.keep HB.out) b4 (Nat.le_refl _) n
  exact ⟨_, w4.heap.size, rfl, h1.lower HB.out.size, HB.out.trans (h2.mono HB.out.size)⟩
set_option maxRecDepth 100000 in
set_option maxHeartbeats 1600000 in
theorem ref21_missing {B : Nat} {w : World} {p : Nat} {m : Man} {A : Option Addr} {k ab n : Nat} {q : Nat → ByteArray} (h : Rcl B w p m A k ab n q) (hn : n ≤ 100000) :
    Calls Tryz.prog 16 #[.pointer (some ⟨p, 0, none⟩)] w fun e w' => e = .returned (.int .i64 (fstB n (hasQ q))) ∧ w = w' := by
  have c37 := h.c37
  have H := Lib.hid h
  have HN := Lib.hid hn
  clear h hn
  go_enter Tryz.func16, Tryz.ntmps16
  go_wp2_with (fail)
  go_loopw [3] (fun i wr => ∃ j : Nat, i = .int .i64 (j : Int) ∧ j ≤ n ∧ (∀ l, l < j → hasQ q l = true) ∧ wr = w) (fun i _ => match i with | .int _ j => n - j.toNat | _ => 0)
  case atStart => exact ⟨0, rfl, Nat.zero_le _, fun l hl => absurd hl (Nat.not_lt_zero _), rfl⟩
  case round =>
    obtain ⟨j, rfl, hj, ha, rfl⟩ := hrel
    have HA := Lib.hid ha
    clear ha
    by_cases hlt : j < n
    · have x0 : (j : Int) < (n : Int) := by omega
      have x1 : decide ((j : Int) < (n : Int)) = true := decide_eq_true x0
      have x2 : 0 ≤ (j : Int) := by omega
      have c := H.out.row.cell hlt
      have HLT := Lib.hid hlt
      cases hu : hasQ q j with
      | false =>
        rw [has_empty hu] at c
        have HF := Lib.hid (fstB_at hlt hu HA.out)
        clear hlt hu hj
        go_wp2_with (fail)
        refine bodyPost_ret (results_tmp rfl _ _ _) rfl ?_
        rw [HF.out]
        exact ⟨rfl, rfl⟩
      | true =>
        have t4 := has_some hu
        have HNX := Lib.hid (show ∀ l, l < j + 1 → hasQ q l = true from fun l hl => by
          rcases Nat.lt_succ_iff_lt_or_eq.1 hl with h1 | h1
          · exact HA.out l h1
          · rw [h1]; exact hu)
        have hw1 := IntWalk.wrap64_in ((j : Int) + 1) (by have := HN.out; omega)
        clear hlt hu hj
        go_wp2_with (fail)
        try rw [hw1]
        exact ⟨⟨j + 1, rfl, HLT.out, HNX.out, trivial⟩, rp_less j n HLT.out⟩
    · have hje : j = n := by omega
      subst hje
      have x0 : ¬ (j : Int) < (j : Int) := by omega
      have x1 : decide ((j : Int) < (j : Int)) = false := decide_eq_false x0
      have HF := Lib.hid (fstB_all HA.out)
      go_wp2_with (fail)
      refine bodyPost_ret (results_tmp rfl _ _ _) rfl ?_
      rw [HF.out]
      exact ⟨rfl, rfl⟩
set_option maxRecDepth 100000 in
set_option maxHeartbeats 1600000 in
theorem ref21_text {B : Nat} {w : World} {p : Nat} {m : Man} {A : Option Addr} {k ab n : Nat} {q : Nat → ByteArray} (h : Rcl B w p m A k ab n q) (hn : n ≤ 64) (hf : ∀ i, (q i).size ≤ 256) :
    Calls Tryz.prog 14 #[.pointer (some ⟨p, 0, none⟩)] w fun e w' => e = .returned (.tuple #[.string (textP q n), .bool (wholeB q n)]) ∧ w = w' := by
  have c37 := h.c37
  have H := Lib.hid h
  have HN := Lib.hid hn
  have HM := Lib.hid (ref21_missing h (by omega))
  have HL := Lib.hid (catP_length hf)
  have HFT := Lib.hid hf
  clear h hn hf
  go_enter Tryz.func14, Tryz.ntmps14
  go_wp2_with (fail)
  go_loopw [4, 5] (fun x i wr => ∃ j : Nat, i = .int .i64 (j : Int) ∧ j ≤ n ∧ x = .string ⟨(catP q j).toArray⟩ ∧ wr = w) (fun _ i _ => match i with | .int _ j => n - j.toNat | _ => 0)
  case atStart => exact ⟨0, rfl, Nat.zero_le _, rfl, rfl⟩
  case round =>
    obtain ⟨j, rfl, hj, rfl, rfl⟩ := hrel
    by_cases hlt : j < n
    · have x0 : (j : Int) < (n : Int) := by omega
      have x1 : decide ((j : Int) < (n : Int)) = true := decide_eq_true x0
      have x2 : 0 ≤ (j : Int) := by omega
      have c := H.out.row.cell hlt
      have HLT := Lib.hid hlt
      have HCT := Lib.hid (show (⟨(catP q j).toArray⟩ : ByteArray) ++ q j = ⟨(catP q (j + 1)).toArray⟩ by
        rw [catP_next]
        apply ByteArray.ext
        rw [ByteArray.data_append]
        simp)
      have z1 : ¬ 9223372036854775807 < (⟨(catP q j).toArray⟩ : ByteArray).size + (q j).size := by
        have h1 := HL.out j
        have h2 := HFT.out j
        have h3 := Pn.size_list (catP q j)
        have := HN.out
        omega
      have hw1 := IntWalk.wrap64_in ((j : Int) + 1) (by have := HN.out; omega)
      clear hlt hj
      generalize (⟨(catP q j).toArray⟩ : ByteArray) = X at *
      generalize q j = Y at *
      go_wp2_with (fail)
      try rw [hw1]
      exact ⟨⟨j + 1, rfl, HLT.out, by rw [HCT.out], trivial⟩, rp_less j n HLT.out⟩
    · have hje : j = n := by omega
      subst hje
      have x0 : ¬ (j : Int) < (j : Int) := by omega
      have x1 : decide ((j : Int) < (j : Int)) = false := decide_eq_false x0
      have HE := Lib.hid (show textP q j = if wholeB q j = true then ⟨(catP q j).toArray⟩ else ⟨#[]⟩ from rfl)
      have HO := Lib.hid (first_or q j)
      generalize (⟨(catP q j).toArray⟩ : ByteArray) = X at *
      generalize fstB j (hasQ q) = z at *
      go_wp2_with (fail)
      refine HM.out.mono ?_
      rintro e w2 ⟨rfl, rfl⟩
      rcases HO.out with ⟨hv, hz⟩ | ⟨hv, hz⟩
      · rw [hv] at HE
        have z0 : decide (0 ≤ z) = true := decide_eq_true hz
        have HV := Lib.hid hv
        clear hv
        go_wp2_with (fail)
        refine bodyPost_ret (results_tmp2 rfl _ _ _) rfl ?_
        rw [HE.out, HV.out]
        exact ⟨rfl, rfl⟩
      · rw [hv] at HE
        have z0 : decide (0 ≤ z) = false := decide_eq_false (by omega)
        have HV := Lib.hid hv
        clear hv hz
        go_wp2_with (fail)
        refine bodyPost_ret (results_tmp2 rfl _ _ _) rfl ?_
        rw [HE.out, HV.out]
        exact ⟨rfl, rfl⟩
set_option maxRecDepth 100000 in
set_option maxHeartbeats 3200000 in
theorem ref21_put {B : Nat} {w : World} {p : Nat} {m : Man} {A : Option Addr} {k ab n : Nat} {q : Nat → ByteArray} (h : Rcl B w p m A k ab n q) (hn : n = m.sums.length) (a : Int) (d : ByteArray) :
    Calls Tryz.prog 11 #[.pointer (some ⟨p, 0, none⟩), .int .i64 a, .string d] w fun e w' => e = .returned (.int .i64 (putE m q a d)) ∧ Rcl B w' p m A k ab n (putS m q a d) ∧ Only w w' ab := by
  have HC := Lib.hid (ref20_check w m A k a d h.sin)
  have HM := Lib.hid h.hd.man
  have HIL := Lib.hid (rcIL m A k)
  have H := Lib.hid h
  by_cases hc : checkM m a d = 0
  case neg =>
    have HE := Lib.hid (show putE m q a d = checkM m a d from if_neg hc)
    have HS := Lib.hid (show putS m q a d = q from if_neg (by rw [HE.out]; exact hc))
    have t1 : (checkM m a d != 0) = true := bne_iff_ne.2 hc
    generalize checkM m a d = z at *
    clear h hc
    go_enter Tryz.func11, Tryz.ntmps11
    go_wp2_with (with_reducible refine wpList_load_mid rfl 33 _ rfl p 0 rfl (manA m A k).toList _ HM.out Tryz.underlying33 rfl HIL.out ?_)
    refine HC.out.mono ?_
    rintro e w1 ⟨rfl, b1⟩
    go_wp2_with (fail)
    refine bodyPost_ret (results_tmp rfl _ _ _) rfl ?_
    rw [HE.out, HS.out]
    exact ⟨rfl, H.out.keep b1, Only.of_below b1 _⟩
  obtain ⟨i, F⟩ := fits_of hc
  have ha := F.ha
  subst ha
  have hin : i < n := by rw [hn]; exact F.hi
  have HPE := Lib.hid (show putE m q (i : Int) d = if hasQ q i = true then 9 else 0 from if_pos hc)
  have HPS := Lib.hid (show putS m q (i : Int) d = if putE m q (i : Int) d = 0 then putQ q i d else q from rfl)
  rw [hc] at HC
  have x0 : (i : Int) < (n : Int) := by omega
  have x2 : 0 ≤ (i : Int) := by omega
  clear hc F hn
  cases hu : hasQ q i with
  | true =>
    rw [hu] at HPE
    have HE := Lib.hid (show putE m q (i : Int) d = 9 from HPE.out)
    have HS := Lib.hid (show putS m q (i : Int) d = q from HPS.out.trans (if_neg (by rw [HE.out]; decide)))
    have t4 := has_some hu
    clear h hu
    go_enter Tryz.func11, Tryz.ntmps11
    go_wp2_with (with_reducible refine wpList_load_mid rfl 33 _ rfl p 0 rfl (manA m A k).toList _ HM.out Tryz.underlying33 rfl HIL.out ?_)
    refine HC.out.mono ?_
    rintro e w1 ⟨rfl, b1⟩
    have H1 := Lib.hid (H.out.keep b1)
    have B1 := Lib.hid b1
    have c37 := H1.out.c37
    have c := H1.out.row.cell hin
    clear b1
    go_wp2_with (fail)
    refine bodyPost_ret (results_tmp rfl _ _ _) rfl ?_
    rw [HE.out, HS.out]
    exact ⟨rfl, H1.out, Only.of_below B1.out _⟩
  | false =>
    rw [hu] at HPE
    have HE := Lib.hid (show putE m q (i : Int) d = 0 from HPE.out)
    have HS := Lib.hid (show putS m q (i : Int) d = putQ q i d from HPS.out.trans (if_pos HE.out))
    have hem := has_empty hu
    clear h hu
    go_enter Tryz.func11, Tryz.ntmps11
    go_wp2_with (with_reducible refine wpList_load_mid rfl 33 _ rfl p 0 rfl (manA m A k).toList _ HM.out Tryz.underlying33 rfl HIL.out ?_)
    refine HC.out.mono ?_
    rintro e w1 ⟨rfl, b1⟩
    have H1 := Lib.hid (H.out.keep b1)
    have B1 := Lib.hid b1
    have c37 := H1.out.c37
    have c := H1.out.row.cell hin
    rw [hem] at c
    have fz := H1.out.row.frozen i
    clear b1 hem
    go_wp2_with (fail)
    refine bodyPost_ret (results_tmp rfl _ _ _) rfl ?_
    rw [HE.out, HS.out]
    obtain ⟨h1, h2⟩ := H1.out.put i d
    exact ⟨rfl, h1, (Only.of_below B1.out _).trans h2⟩
end Go.Proofs.YtlechjpaldpgnaaGreatDoor
