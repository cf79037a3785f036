/-
  BitsFill: from the first that isn't there on, one by one, all come. The walk. Conditions: none.
-/
import Derived.Test.YtmihladhopjloaaBtAwake08
import Derived.Deep.LoopGhost
import Derived.Deep.CutBlock
import Derived.Deep.DeepCutAuto
namespace Go.Proofs.Ytmihladhopjloaa
open Go.ChangeShapes Go.WideShapes Go.ChangeAt Go.RowKit Bt

namespace Bt
/-- How many of the numbers below n are there. -/
def cnt (u : Nat → Bool) (n : Nat) : Nat := (rowL u n).length
theorem cnt_next (u : Nat → Bool) (n : Nat) : cnt u (n + 1) = cnt u n + (u n).toNat := by
  unfold cnt
  rw [rowL_next]
  cases h : u n <;> simp
theorem cnt_le (u : Nat → Bool) (n : Nat) : cnt u n ≤ n := rowL_length u n
theorem cnt_upd_out (u : Nat → Bool) {k : Nat} (v : Bool) : ∀ n, n ≤ k → cnt (upd u k v) n = cnt u n
  | 0, _ => rfl
  | n + 1, h => by rw [cnt_next, cnt_next, cnt_upd_out u v n (by omega), upd_other u v (by omega)]
theorem cnt_more (u : Nat → Bool) {k : Nat} (hu : u k = false) : ∀ n, k < n → cnt (upd u k true) n = cnt u n + 1
  | n + 1, h => by
    rw [cnt_next, cnt_next]
    by_cases hk : k = n
    · subst hk
      rw [cnt_upd_out u true k (Nat.le_refl _), upd_same, hu]
      rfl
    · rw [cnt_more u hu n (by omega), upd_other u true (fun e => hk e.symm)]
      omega
theorem cnt_all {u : Nat → Bool} : ∀ n, (∀ j, j < n → u j = true) → cnt u n = n
  | 0, _ => rfl
  | n + 1, h => by
    rw [cnt_next, cnt_all n (fun j hj => h j (by omega)), h n (by omega)]
    rfl
theorem cnt_lt {u : Nat → Bool} {k n : Nat} (hk : k < n) (hu : u k = false) : cnt u n < n := by
  have h1 := cnt_more u hu n hk
  have h2 := cnt_le (upd u k true) n
  omega
theorem wrap_u64_ge (x : Int) : 0 ≤ IntKind.u64.wrap x := by
  simp [IntKind.wrap, IntKind.bits, IntKind.signed]
  omega
theorem cut_u64 (x : Int) (n : Nat) (hn : 0 < n) : ∃ i : Nat, i < n ∧ IntKind.u64.wrap x % (n : Int) = (i : Int) := by
  have h1 := Int.emod_nonneg (IntKind.u64.wrap x) (show (n : Int) ≠ 0 by omega)
  have h2 := Int.emod_lt_of_pos (IntKind.u64.wrap x) (show (0 : Int) < (n : Int) by omega)
  exact ⟨(IntKind.u64.wrap x % (n : Int)).toNat, by omega, by omega⟩
end Bt
namespace bitsFill
set_option maxRecDepth 100000 in
set_option maxHeartbeats 3200000 in
theorem walk (x : Int) (A : Option Addr) (len cap : Nat) (xs : Nat → Int) (w : World) (hA : IntsInB w A len xs) :
    Calls Try.prog 6 #[.int .i64 x, .slice A len cap] w fun e w' => e = .returned (.bool true) ∧ Below w.heap.size w w' := by
  have HA := Lib.hid hA
  obtain ⟨j, hj, hx⟩ := cut_u64 x 200 (by omega)
  have hw := wrap_u64_ge x
  have hx2 : (IntKind.u64.wrap x).tmod 200 = (j : Int) := by rw [Int.tmod_eq_emod_of_nonneg hw]; exact hx
  obtain ⟨k, hk⟩ : ∃ k, k = 1 + j := ⟨_, rfl⟩
  have ek : 1 + (j : Int) = (k : Int) := by omega
  have hk1 : 1 ≤ k := by omega
  have hk2 : k ≤ 200 := by omega
  have HAW := Lib.hid (awake8 w)
  have HJ := Lib.hid hj
  clear hA hx hk hj
  have hj0 : 0 ≤ (j : Int) := by omega
  have hj1 : (j : Int) < 200 := by have := HJ.out; omega
  go_enter Try.func6, Try.ntmps6
  go_wp2_with (fail)
  refine HAW.out.mono ?_
  rintro e w1 ⟨rfl, hb1⟩
  have HN := Lib.hid (newSet (n := k) hb1 hk1 (by omega))
  clear HAW hb1
  go_wp2_with (fail)
  refine HN.out.mono ?_
  rintro e w2 ⟨b, rfl, _, h2, _⟩
  have H2 := Lib.hid h2
  clear h2 HN hx2 hw hj0 hj1 ek
  go_upto_block 0 with (fail)
  go_cut [7] (fun _ wx => ∃ u, Low k u ∧ Stands w wx b k u)
  case first =>
    go_wp2_with (fail)
    go_loopg [7] 41 (fun gk vi wr => ∃ (i : Nat) (u : Nat → Bool), gk = 41 - i ∧ i ≤ 40 ∧ vi = .int .i64 (i : Int) ∧ Low k u ∧ Stands w wr b k u)
    case atStart => exact ⟨0, _, rfl, by omega, rfl, Low.none k, H2.out⟩
    case round =>
      clear H2
      obtain ⟨i, u, hgk, hi, rfl, hlow, h⟩ := hrel
      have HGK := Lib.hid hgk
      have HLOW := Lib.hid hlow
      have H := Lib.hid h
      clear hgk hlow h
      have i0 : 0 ≤ (i : Int) := by omega
      by_cases hlt : i < len ∧ i < 40
      · have x0 : (i : Int) < (len : Int) := by omega
        have x1 : decide ((i : Int) < (len : Int)) = true := decide_eq_true x0
        have y0 : (i : Int) < 40 := by omega
        have y1 : decide ((i : Int) < 40) = true := decide_eq_true y0
        obtain ⟨pb, po, rfl, hc⟩ := HA.out (by omega)
        have hcell := (H.out.below.cell (p := ⟨pb, po + i, none⟩) (block_lt_of_cell (hc i hlt.1))).trans (hc i hlt.1)
        obtain ⟨y, hy, hxy⟩ := cut_u64 (xs i) k (by omega)
        have hw := wrap_u64_ge (xs i)
        have hxy2 : (IntKind.u64.wrap (xs i)).tmod (k : Int) = (y : Int) := by rw [Int.tmod_eq_emod_of_nonneg hw]; exact hxy
        have HAD := Lib.hid (H.out.add1 (by omega) hy)
        have HL2 := Lib.hid (HLOW.out.upd hy true)
        have y2 : 0 ≤ (y : Int) := by omega
        have y3 : (y : Int) < 200 := by omega
        clear hc hlt hxy hy
        generalize xs i = xi at hcell hw hxy2
        go_wp2_with (fail)
        refine HAD.out.mono ?_
        rintro e w3 ⟨rfl, h3, _⟩
        have H3 := Lib.hid h3
        clear h3
        go_wp2_with (fail)
        go_roundg (41 - (i + 1))
        case measure => have := HGK.out; omega
        case rel => exact ⟨i + 1, _, rfl, by omega, rfl, HL2.out, H3.out⟩
      · by_cases hll : i < len
        · have x0 : (i : Int) < (len : Int) := by omega
          have x1 : decide ((i : Int) < (len : Int)) = true := decide_eq_true x0
          have y0 : ¬ (i : Int) < 40 := by omega
          have y1 : decide ((i : Int) < 40) = false := decide_eq_false y0
          clear hlt
          go_wp2_with (fail)
          go_meet
          exact ⟨u, HLOW.out, H.out⟩
        · have x0 : ¬ (i : Int) < (len : Int) := by omega
          have x1 : decide ((i : Int) < (len : Int)) = false := decide_eq_false x0
          clear hlt
          go_wp2_with (fail)
          go_meet
          exact ⟨u, HLOW.out, H.out⟩
  case rest =>
    clear H2
    obtain ⟨u, hlow, h⟩ := hcut
    have HLOW := Lib.hid hlow
    have H := Lib.hid h
    have HCT := Lib.hid (h.count (by omega))
    have hle := cnt_le u k
    have HCN := Lib.hid (show (rowL u k).length = cnt u k from rfl)
    rw [HCN.out] at HCT
    obtain ⟨L, hL⟩ : ∃ L, L = k - cnt u k := ⟨_, rfl⟩
    have eL : (k : Int) - (cnt u k : Int) = (L : Int) := by omega
    have hL2 : L ≤ 200 := by omega
    have HL := Lib.hid hL
    clear hlow h hle hL
    generalize (cnt u k : Int) = cn at HCT eL
    go_wp2_with (fail)
    refine HCT.out.mono ?_
    rintro e w3 ⟨rfl, h3, _⟩
    have H3 := Lib.hid h3
    clear h3 HCT H
    go_wp2_with (fail)
    clear eL
    go_loopg [8, 9, 10] L (fun gk vl vla vf wr => ∃ (u : Nat → Bool) (L : Nat) (la : Int), gk = L ∧ L ≤ 200 ∧ vl = .int .i64 (L : Int) ∧ vla = .int .i64 la ∧ -1 ≤ la ∧ L = k - cnt u k ∧ (∀ j : Nat, (j : Int) ≤ la → u j = true) ∧ Low k u ∧ Stands w wr b k u)
    case atStart => exact ⟨u, L, -1, rfl, hL2, rfl, rfl, by omega, HL.out, fun j hj => by omega, HLOW.out, H3.out⟩
    case round =>
      clear H3 HLOW HL hL2
      obtain ⟨u, L, la, hgk, hL2, rfl, rfl, hla, hL, hlj, hlow, h⟩ := hrel
      have HGK := Lib.hid hgk
      have HL := Lib.hid hL
      have HLJ := Lib.hid hlj
      have HLOW := Lib.hid hlow
      have H := Lib.hid h
      have HFS := Lib.hid (h.first (by omega))
      have HLA := Lib.hid hla
      clear hgk hL hlj hlow h hla
      rcases fstB_or k u with ⟨f, hfk, hf, huf, hbe⟩ | ⟨hf, hall⟩
      · rw [hf] at HFS
        have HL1 := Lib.hid (show 1 ≤ L by have := cnt_lt hfk huf; have := HL.out; omega)
        have hfl : la < (f : Int) := by
          rcases Int.lt_or_le la (f : Int) with h | h
          · exact h
          · rw [HLJ.out f h] at huf
            cases huf
        have HCM := Lib.hid (cnt_more u huf k hfk)
        have HBE := Lib.hid hbe
        have HFK := Lib.hid hfk
        have f0 : 0 ≤ (f : Int) := by omega
        have f1 : decide (0 ≤ (f : Int)) = true := decide_eq_true f0
        have f2 : ¬ (f : Int) ≤ la := by omega
        have f3 : decide ((f : Int) ≤ la) = false := decide_eq_false f2
        have l0 : ((L : Int) == 0) = false := beq_eq_false_iff_ne.2 (by have := HL1.out; omega)
        have HUF := Lib.hid huf
        have HF := Lib.hid hf
        clear hf huf hbe hfk hfl
        go_wp2_with (fail)
        refine HFS.out.mono ?_
        rintro e w4 ⟨rfl, h4, _⟩
        have HFS4 := Lib.hid (h4.first (by omega))
        rw [HF.out] at HFS4
        clear h4 HFS H
        go_wp2_with (fail)
        refine HFS4.out.mono ?_
        rintro e w5 ⟨rfl, h5, _⟩
        have HHS := Lib.hid (h5.has1 (by omega) HFK.out)
        rw [HUF.out] at HHS
        clear h5 HFS4
        go_wp2_with (fail)
        refine HHS.out.mono ?_
        rintro e w6 ⟨rfl, h6, _⟩
        have HAD := Lib.hid (h6.add1 (by omega) HFK.out)
        clear h6 HHS
        go_wp2_with (fail)
        refine HAD.out.mono ?_
        rintro e w7 ⟨rfl, h7, _⟩
        have H7 := Lib.hid h7
        clear h7 HAD
        obtain ⟨L', hL'⟩ : ∃ L', L' = k - cnt (upd u f true) k := ⟨_, rfl⟩
        have hLL : L = L' + 1 := by have a := HCM.out; have b := HL1.out; have c := HL.out; omega
        have eL : (L : Int) - 1 = (L' : Int) := by omega
        have l1 : 1 ≤ (L : Int) := by omega
        have l2 : (L : Int) ≤ 200 := by omega
        have l3 : L' ≤ 200 := by omega
        have HLL := Lib.hid (show L' < L by omega)
        have HL' := Lib.hid hL'
        clear hLL hL'
        go_wp2_with (fail)
        go_roundg L'
        case measure => rw [HGK.out]; exact HLL.out
        case rel => exact ⟨upd u f true, L', f, rfl, l3, rfl, rfl, by omega, HL'.out, fun j hj => by
          rcases Nat.lt_or_ge j f with h | h
          · rw [upd_other u true (by omega)]; exact HBE.out j h
          · obtain rfl : j = f := by omega
            exact upd_same u _ true, HLOW.out.upd HFK.out true, H7.out⟩
      · rw [hf] at HFS
        have HC := Lib.hid (cnt_all k hall)
        have hL0 : L = 0 := by have := HL.out; rw [HC.out] at this; omega
        subst hL0
        clear hf hall
        go_wp2_with (fail)
        refine HFS.out.mono ?_
        rintro e w4 ⟨rfl, h4, _⟩
        have HCT := Lib.hid (h4.count (by omega))
        rw [show (rowL u k).length = k from HC.out] at HCT
        clear h4 HFS H
        go_wp2_with (fail)
        refine HCT.out.mono ?_
        rintro e w5 ⟨rfl, h5, _⟩
        have HRW := Lib.hid (h5.row (by omega))
        clear h5 HCT
        go_wp2_with (fail)
        refine HRW.out.mono ?_
        rintro e w6 ⟨⟨A6, c6, rfl, _, _⟩, h6⟩
        rw [show (rowL u k).length = k from HC.out]
        go_wp2_with (fail)
        refine bodyPost_ret (results_tmp rfl _ _ _) rfl ?_
        exact ⟨rfl, h6.below⟩
end bitsFill
end Go.Proofs.Ytmihladhopjloaa
