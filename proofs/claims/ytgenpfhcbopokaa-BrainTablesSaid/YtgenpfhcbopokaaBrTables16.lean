/-
  BrainTables: all tables of a model, one behind the other, are its weights. The walk. No conditions.
-/
import Derived.Test.YtgenpfhcbopokaaBrAwake16
import Derived.Test.YtgenpfhcbopokaaVc2
import Derived.Test.YtgenpfhcbopokaaTextRow
import Derived.Deep.OwnRows
import Derived.Laws.BitsAll
namespace Go.Proofs.Ytgenpfhcbopokaa
open Go.ChangeShapes Go.WideShapes Go.ChangeAt Go.RowKit Vc Cf Br

namespace Br
/-- The law's state: the shape that came in, in its box, and the model in its block. -/
structure At (w : World) (x : Cfg) (s : ByteArray) (b : Nat) (W : World) : Prop where
  box : W.heap[w.heap.size]? = some (cfO 23 x)
  blk : W.heap[b]? = some (brO x s)
  below : Below w.heap.size w W
theorem At.step {w W W' : World} {x : Cfg} {s : ByteArray} {b : Nat} (h : At w x s b W) (hb : Below W.heap.size W W') : At w x s b W' := ⟨Cf.stays h.box hb, Br.stays h.blk hb, h.below.trans (hb.mono h.below.size)⟩
theorem u64_ge (x : Int) : 0 ≤ IntKind.u64.wrap x := by
  simp [IntKind.wrap, IntKind.bits, IntKind.signed]
  omega
theorem u64_in (n : Nat) (hn : n ≤ 1000000) : IntKind.u64.wrap (n : Int) = (n : Int) := by
  simp [IntKind.wrap, IntKind.bits, IntKind.signed]
  omega
theorem cut64 (x : Int) (n : Nat) (hn : 0 < n) : ∃ i : Nat, i < n ∧ (IntKind.u64.wrap x).tmod (n : Int) = (i : Int) := by
  have h := u64_ge x
  have h1 := Int.tmod_nonneg (n : Int) h
  have h2 := Int.tmod_lt_of_pos (IntKind.u64.wrap x) (show (0 : Int) < (n : Int) by omega)
  exact ⟨((IntKind.u64.wrap x).tmod (n : Int)).toNat, by omega, by omega⟩
theorem xor8 (a b : UInt8) : bits .xor .u8 (a.toNat : Int) (b.toNat : Int) = ((a ^^^ b).toNat : Int) := by
  rw [u8_xor_nat a.toNat b.toNat (UInt8.toNat_lt a) (UInt8.toNat_lt b), UInt8.toNat_xor]
/-- A text with one byte turned: the same model only where nothing was turned. -/
theorem turned_same (x : Cfg) {s : ByteArray} {l : List UInt8} (hl : s.data.toList = l) {i : Nat} (hi : i < l.length) {d B Y : UInt8} (hd : l.getD i 0 = d) (hY : d ^^^ B = Y) : decide (bytesB x s = bytesB x ⟨(l.set i Y).toArray⟩) = ((B.toNat : Int) == 0) := by
  rw [Bool.eq_iff_iff, decide_eq_true_iff, beq_iff_eq]
  constructor
  · intro h
    have h1 := congrArg restT h
    rw [rest_bytes, rest_bytes] at h1
    have h2 : l = l.set i Y := hl.symm.trans (congrArg (fun q : ByteArray => q.data.toList) h1)
    have h3 : d = Y := by
      have h4 := congrArg (fun q : List UInt8 => q.getD i 0) h2
      simp only [List.getD_eq_getElem?_getD, List.getElem?_set_self hi] at h4
      rw [← List.getD_eq_getElem?_getD, hd] at h4
      exact h4
    have h5 : B = 0 := by
      have h6 : d ^^^ (d ^^^ B) = B := by rw [← UInt8.xor_assoc, UInt8.xor_self, UInt8.zero_xor]
      rw [hY, ← h3, UInt8.xor_self] at h6
      exact h6.symm
    rw [h5]
    rfl
  · intro h
    have h5 : B = 0 := UInt8.toNat_inj.1 (by show B.toNat = 0; omega)
    rw [h5, UInt8.xor_zero] at hY
    have h6 : l.set i Y = l := by
      rw [← hY, ← hd, List.getD_eq_getElem?_getD, List.getElem?_eq_getElem hi]
      exact List.set_getElem_self hi
    rw [h6, ← hl]
theorem turned_ok {x : Cfg} {s : ByteArray} (h : Ok x s) {l : List UInt8} (hl : l.length = s.size) (i : Nat) (Y : UInt8) : Ok x ⟨(l.set i Y).toArray⟩ :=
  ⟨h.good, by rw [← h.size, show (⟨(l.set i Y).toArray⟩ : ByteArray).size = s.size from by show (l.set i Y).toArray.size = s.size; rw [List.size_toArray, List.length_set, hl]]⟩
theorem less1 (a b : Nat) (h : a < b) : b - ((a : Int) + 1).toNat < b - (a : Int).toNat := by omega
end Br
namespace brainTables
section
variable (w : World) (x : Cfg) (s : ByteArray) (a : Int) (B : UInt8)
set_option maxRecDepth 100000 in
set_option maxHeartbeats 3200000 in
theorem walk_no (h : ¬ Ok x s) : Calls Try.prog 3 #[cfV x, .string s, .int .i64 a, .int .u8 (B.toNat : Int)] w fun e w' => e = .returned (.bool true) ∧ Below w.heap.size w w' := by
  obtain ⟨m, hm, ho⟩ : ∃ m : Int, m ≠ 0 ∧ ∀ W, Calls Try.prog 5 #[cfV x, .string s] W fun e w' => e = .returned (.tuple #[.pointer none, .int .i64 m]) ∧ Below W.heap.size W w' := by
    cases hg : goodZ x with
    | false => exact ⟨1, by decide, fun W => brain_of_arg W x s hg⟩
    | true => exact ⟨5, by decide, fun W => brain_of_form W x s hg fun hs => h ⟨good_iff.1 hg, hs⟩⟩
  have HO := Lib.hid ho
  have HAW := Lib.hid awake16
  have HB0 := Lib.hid ((Below.refl w.heap.size w).alloc (Nat.le_refl _) (cfO 23 x))
  have HH0 := Lib.hid (heap_alloc_new w (cfO 23 x))
  have t1 : (m == 0) = false := beq_eq_false_iff_ne.2 hm
  clear h ho hm
  unfold cfV cfA at *
  go_enter Try.func3, Try.ntmps3
  go_wp2_with (fail)
  refine (HAW.out _).mono ?_
  rintro e w1 ⟨rfl, b1⟩
  have HB1 := Lib.hid (HB0.out.trans (b1.mono HB0.out.size))
  have HH1 := Lib.hid (Cf.stays HH0.out b1)
  obtain ⟨e0, e1, e2, e3, e4, e5⟩ := six HH1.out
  clear b1 HAW HB0 HH0
  go_wp2_with (fail)
  refine (HO.out _).mono ?_
  rintro e w2 ⟨rfl, b2⟩
  have HB2 := Lib.hid (HB1.out.trans (b2.mono HB1.out.size))
  clear b2
  go_wp2_with (fail)
  exact bodyPost_ret (results_tmp rfl _ _ _) rfl ⟨rfl, HB2.out⟩
set_option maxRecDepth 100000 in
set_option maxHeartbeats 12800000 in
theorem walk_ok (h : Ok x s) : Calls Try.prog 3 #[cfV x, .string s, .int .i64 a, .int .u8 (B.toNat : Int)] w fun e w' => e = .returned (.bool true) ∧ Below w.heap.size w w' := by
  have HAW := Lib.hid awake16
  have HO := Lib.hid (fun W => brain_of W x s h)
  have HOK := Lib.hid h
  have HB0 := Lib.hid ((Below.refl w.heap.size w).alloc (Nat.le_refl _) (cfO 23 x))
  have HH0 := Lib.hid (heap_alloc_new w (cfO 23 x))
  have HTB := Lib.hid (show ∀ (W : World) (b : Nat) (p k : Int), W.heap[b]? = some (brO x s) → isZ x p k = true → Calls Try.prog 6 #[.pointer (some ⟨b, 0, none⟩), .int .i64 p, .int .i64 k] W fun e w' => ∃ A, e = .returned (.tuple #[.agg #[.int .i64 (rowsZ x p), .int .i64 (colsZ x p), .slice A (pieceB x s p k).size (pieceB x s p k).size], .bool true]) ∧ KIn .i8 w' A (listD (pieceB x s p k)) ∧ Below W.heap.size W w' from fun W b p k hb hi => brain_table W b x s hb h p k hi)
  have HBT := Lib.hid (show ∀ (W : World) (R C : Int) (A : Option Addr) (P : ByteArray), P.size ≤ 4096 → KIn .i8 W A (listD P) → Calls Try.prog 7 #[.agg #[.int .i64 R, .int .i64 C, .slice A P.size P.size]] W fun e w' => e = .returned (.string P) ∧ Below W.heap.size W w' from fun W R C A P hP hA => by
    have := vecs_bytes W R C A P.size P.size (listD P) (listD_length P) hP hA
    rw [textD_listD] at this
    exact this)
  have HPS := Lib.hid (show ∀ p k : Int, isZ x p k = true → (pieceB x s p k).size ≤ 4096 from fun p k hi => by
    obtain ⟨hg, h0, h1, _, _⟩ := is_iff.1 hi
    have h2 := piece_sizeZ h hi
    have h3 := area_in hg.is h0 h1
    omega)
  have HSD := Lib.hid (show ∀ W p, Calls Try.prog 8 #[cfV x, .int .i64 p] W fun e w' => e = .returned (.tuple #[.int .i64 (rowsZ x p), .int .i64 (colsZ x p)]) ∧ Below W.heap.size W w' from fun W p => by
    have := conf_Side W x p
    rw [if_pos (good_iff.2 h.good), if_pos (good_iff.2 h.good)] at this
    exact this)
  have HSZ := Lib.hid (show ∀ W, Calls Try.prog 9 #[cfV x] W fun e w' => e = .returned (.int .i64 (s.size : Int)) ∧ Below W.heap.size W w' from fun W => by
    have := conf_size W x
    rw [if_pos (good_iff.2 h.good), ← h.size] at this
    exact this)
  obtain ⟨N, hN⟩ : ∃ N : Nat, (N : Int) = x.b := ⟨x.b.toNat, by have := h.good.is.b1; omega⟩
  have HN := Lib.hid (show (N : Int) = x.b ∧ 1 ≤ N ∧ N ≤ 3 by have := h.good.is.b1; have := h.good.is.b3; omega)
  clear h hN
  unfold cfV cfA at *
  go_enter Try.func3, Try.ntmps3
  go_wp2_with (fail)
  refine (HAW.out _).mono ?_
  rintro e w1 ⟨rfl, b1⟩
  have HB1 := Lib.hid (HB0.out.trans (b1.mono HB0.out.size))
  have HH1 := Lib.hid (Cf.stays HH0.out b1)
  obtain ⟨e0, e1, e2, e3, e4, e5⟩ := six HH1.out
  clear b1 HAW HB0 HH0
  go_wp2_with (fail)
  refine (HO.out _).mono ?_
  rintro e w2 ⟨b, rfl, hb, hh, b2⟩
  have HA := Lib.hid (show At w x s b w2 from ⟨Cf.stays HH1.out b2, hh, HB1.out.trans (b2.mono HB1.out.size)⟩)
  clear e0 e1 e2 e3 e4 e5 hb hh b2 HB1 HH1
  go_wp2_with (fail)
  go_loopw [11, 12] (fun vs vp wr => ∃ p : Nat, vp = .int .i64 (p : Int) ∧ p ≤ 2 ∧ vs = .string (preF x s p) ∧ At w x s b wr) (fun _ vp _ => match vp with | .int _ p => 2 - p.toNat | _ => 0)
  case atStart => exact ⟨0, rfl, by omega, by rw [pre_zero]; rfl, HA.out⟩
  case round =>
    clear HA
    obtain ⟨p, rfl, hp, rfl, ha⟩ := hrel
    have HA := Lib.hid ha
    clear ha
    by_cases hpt : p < 2
    · have x0 : (p : Int) ≤ 1 := by omega
      have x1 : decide ((p : Int) ≤ 1) = true := decide_eq_true x0
      have X2 := Lib.hid (IntWalk.wrap64_in ((p : Int) + 1) (by omega))
      have HP := Lib.hid (show p + 1 ≤ 2 from hpt)
      have HPM := Lib.hid (less1 p 2 hpt)
      have his : isZ x (p : Int) 0 = true := is_iff.2 ⟨HOK.out.good, by omega, by omega, by omega, by rw [times_one (.inl hpt)]; omega⟩
      have HT := Lib.hid (HTB.out wr b (p : Int) 0 HA.out.blk his)
      have HP4 := Lib.hid (HPS.out _ _ his)
      have HNX := Lib.hid (show preF x s p ++ pieceB x s (p : Int) 0 = preF x s (p + 1) from pre_first HOK.out hpt)
      have HSS := Lib.hid (pre_sizes HOK.out 0 0 p).2.1
      clear hp hpt his
      generalize pieceB x s (p : Int) 0 = P at *
      generalize preF x s p = S at *
      go_wp2_with (fail)
      refine HT.out.mono ?_
      rintro e w3 ⟨A, rfl, hA, b3⟩
      have HA3 := Lib.hid ((HA.out.step b3).step ((Below.refl _ _).alloc (Nat.le_refl _) (tbO (rowsZ x (p : Int)) (colsZ x (p : Int)) A P.size P.size)))
      have HK3 := Lib.hid (show KIn .i8 (w3.alloc (tbO (rowsZ x (p : Int)) (colsZ x (p : Int)) A P.size P.size)) A (listD P) from hA.below ((Below.refl _ _).alloc (Nat.le_refl _) _) (Nat.le_refl _))
      have hN3 := heap_alloc_new w3 (tbO (rowsZ x (p : Int)) (colsZ x (p : Int)) A P.size P.size)
      have d0 := tb0 hN3
      have d1 := tb1 hN3
      have d2 := tb2 hN3
      unfold tbO tbA at d0 d1 d2 HA3 HK3
      clear hA b3 hN3 HT HA
      go_wp2_with (fail)
      refine (HBT.out _ _ _ _ _ HP4.out HK3.out).mono ?_
      rintro e w4 ⟨rfl, b4⟩
      have HA4 := Lib.hid (HA3.out.step b4)
      have z1 : ¬ 9223372036854775807 < S.size + P.size := by have := HP4.out; have := HSS.out; omega
      clear b4 d0 d1 d2 HA3 HK3
      have x2 := X2.out
      go_wp2_with (fail)
      rw [HNX.out]
      exact ⟨⟨p + 1, rfl, HP.out, rfl, HA4.out⟩, HPM.out⟩
    · have x0 : ¬ (p : Int) ≤ 1 := by omega
      have x1 : decide ((p : Int) ≤ 1) = false := decide_eq_false x0
      obtain rfl : p = 2 := by omega
      rw [pre_two]
      clear hp hpt
      go_wp2_with (fail)
      clear x0 x1
      go_loopw [11, 15] (fun vs vk wr => ∃ k : Nat, vk = .int .i64 (k : Int) ∧ k ≤ N ∧ vs = .string (preM x s k 0) ∧ At w x s b wr) (fun _ vk _ => match vk with | .int _ k => N - k.toNat | _ => 0)
      case atStart => exact ⟨0, rfl, Nat.zero_le _, rfl, HA.out⟩
      case round =>
        clear HA
        obtain ⟨k, rfl, hk, rfl, ha⟩ := hrel
        have HA := Lib.hid ha
        clear ha
        obtain ⟨e0, e1, e2, e3, e4, e5, e6⟩ := seven HA.out.blk
        by_cases hkt : k < N
        · have x0 : (k : Int) < x.b := by have := HN.out; omega
          have x1 : decide ((k : Int) < x.b) = true := decide_eq_true x0
          have X2 := Lib.hid (IntWalk.wrap64_in ((k : Int) + 1) (by have := HN.out; omega))
          have HK := Lib.hid (show k < N from hkt)
          have HKM := Lib.hid (less1 k N hkt)
          clear hk hkt
          go_wp2_with (fail)
          clear e0 e1 e2 e3 e4 e5 e6 x0 x1
          go_loopw [11, 16] (fun vs vp wr => ∃ q : Nat, vp = .int .i64 ((2 + q : Nat) : Int) ∧ q ≤ 9 ∧ vs = .string (preM x s k q) ∧ At w x s b wr) (fun _ vp _ => match vp with | .int _ p => 11 - p.toNat | _ => 0)
          case atStart => exact ⟨0, rfl, Nat.zero_le _, rfl, HA.out⟩
          case round =>
            clear HA
            obtain ⟨q, rfl, hq, rfl, ha⟩ := hrel
            have HA := Lib.hid ha
            clear ha
            by_cases hqt : q < 9
            · have his : isZ x ((2 + q : Nat) : Int) (k : Int) = true := is_iff.2 ⟨HOK.out.good, by omega, by omega, by omega, by rw [times_mid (by omega) (by omega)]; have := HK.out; have := HN.out; omega⟩
              have HT := Lib.hid (HTB.out wr b ((2 + q : Nat) : Int) (k : Int) HA.out.blk his)
              have HP4 := Lib.hid (HPS.out _ _ his)
              have HNX := Lib.hid (show preM x s k q ++ pieceB x s ((2 + q : Nat) : Int) (k : Int) = preM x s k (q + 1) from pre_mid HOK.out hqt)
              have HSS := Lib.hid (pre_sizes HOK.out k q 0).1
              have HSP := Lib.hid (fun W => HSD.out W ((2 + q : Nat) : Int))
              obtain ⟨p, hp⟩ : ∃ p : Nat, 2 + q = p := ⟨_, rfl⟩
              have HQ := Lib.hid (show q + 1 ≤ 9 ∧ p + 1 = 2 + (q + 1) by omega)
              rw [hp] at HT HP4 HNX HSP his
              rw [hp]
              have y0 : (p : Int) ≤ 10 := by omega
              have y1 : decide ((p : Int) ≤ 10) = true := decide_eq_true y0
              have Y2 := Lib.hid (IntWalk.wrap64_in ((p : Int) + 1) (by omega))
              have HPM := Lib.hid (less1 p 11 (by omega))
              clear hq hqt hp his
              generalize pieceB x s (p : Int) (k : Int) = P at *
              generalize preM x s k q = S at *
              generalize rowsZ x (p : Int) = R at *
              generalize colsZ x (p : Int) = C at *
              go_wp2_with (fail)
              refine HT.out.mono ?_
              rintro e w3 ⟨A, rfl, hA, b3⟩
              have HA3 := Lib.hid ((HA.out.step b3).step ((Below.refl _ _).alloc (Nat.le_refl _) (tbO R C A P.size P.size)))
              have HK3 := Lib.hid (show KIn .i8 (w3.alloc (tbO R C A P.size P.size)) A (listD P) from hA.below ((Below.refl _ _).alloc (Nat.le_refl _) _) (Nat.le_refl _))
              have HT3 := Lib.hid (heap_alloc_new w3 (tbO R C A P.size P.size))
              obtain ⟨e0, e1, e2, e3, e4, e5, e6⟩ := seven HA3.out.blk
              unfold tbO tbA at e0 e1 e2 e3 e4 e5 e6
              clear hA b3 HT HA
              go_wp2_with (fail)
              refine (HSP.out _).mono ?_
              rintro e w4 ⟨rfl, b4⟩
              have HA4 := Lib.hid (HA3.out.step b4)
              have HK4 := Lib.hid (HK3.out.below b4 (Nat.le_refl _))
              have hT4 := (b4.block _ (Array.getElem?_eq_some_iff.1 HT3.out).1).trans HT3.out
              have d0 := tb0 hT4
              have d1 := tb1 hT4
              have d2 := tb2 hT4
              have r0 : (R != R) = false := bne_self_eq_false _
              have r1 : (C != C) = false := bne_self_eq_false _
              clear b4 hT4 e0 e1 e2 e3 e4 e5 e6 HA3 HK3 HT3
              go_wp2_with (fail)
              refine (HBT.out _ _ _ _ _ HP4.out HK4.out).mono ?_
              rintro e w5 ⟨rfl, b5⟩
              have HA5 := Lib.hid (HA4.out.step b5)
              have z1 : ¬ 9223372036854775807 < S.size + P.size := by have := HP4.out; have := HSS.out; omega
              clear b5 d0 d1 d2 r0 r1 HA4 HK4
              have y2 := Y2.out
              go_wp2_with (fail)
              rw [HNX.out]
              exact ⟨⟨q + 1, by rw [← HQ.out.2]; rfl, HQ.out.1, rfl, HA5.out⟩, HPM.out⟩
            · obtain rfl : q = 9 := by omega
              rw [pre_nine]
              have y0 : ¬ ((2 + 9 : Nat) : Int) ≤ 10 := by omega
              have y1 : decide (((2 + 9 : Nat) : Int) ≤ 10) = false := decide_eq_false y0
              clear hq hqt
              have x2 := X2.out
              go_wp2_with (fail)
              rw [x2]
              exact ⟨⟨k + 1, rfl, HK.out, rfl, HA.out⟩, HKM.out⟩
        · obtain rfl : k = N := by omega
          have x0 : ¬ (k : Int) < x.b := by have := HN.out; omega
          have x1 : decide ((k : Int) < x.b) = false := decide_eq_false x0
          have his : isZ x 11 0 = true := is_iff.2 ⟨HOK.out.good, by omega, by omega, by omega, by rw [show timesZ x 11 = 1 from times_one (p := 11) (.inr (by omega))]; omega⟩
          have HT := Lib.hid (fun W hb => HTB.out W b 11 0 hb his)
          have HP4 := Lib.hid (HPS.out _ _ his)
          have HNX := Lib.hid (show preM x s k 0 ++ pieceB x s 11 0 = s from pre_last HOK.out HN.out.1)
          have HSS := Lib.hid (pre_sizes HOK.out k 0 0).1
          clear hk hkt his
          generalize pieceB x s 11 0 = P at *
          generalize preM x s k 0 = S at *
          go_wp2_with (fail)
          refine (HT.out _ HA.out.blk).mono ?_
          rintro e w3 ⟨A, rfl, hA, b3⟩
          generalize rowsZ x 11 = R at *
          generalize colsZ x 11 = C at *
          have HA3 := Lib.hid ((HA.out.step b3).step ((Below.refl _ _).alloc (Nat.le_refl _) (tbO R C A P.size P.size)))
          have HK3 := Lib.hid (show KIn .i8 (w3.alloc (tbO R C A P.size P.size)) A (listD P) from hA.below ((Below.refl _ _).alloc (Nat.le_refl _) _) (Nat.le_refl _))
          have hN3 := heap_alloc_new w3 (tbO R C A P.size P.size)
          have d0 := tb0 hN3
          have d1 := tb1 hN3
          have d2 := tb2 hN3
          unfold tbO tbA at d0 d1 d2 HA3 HK3
          clear hA b3 hN3 HT HA e0 e1 e2 e3 e4 e5 e6 x0 x1
          go_wp2_with (fail)
          refine (HBT.out _ _ _ _ _ HP4.out HK3.out).mono ?_
          rintro e w4 ⟨rfl, b4⟩
          have HA4 := Lib.hid (HA3.out.step b4)
          have z1 : ¬ 9223372036854775807 < S.size + P.size := by have := HP4.out; have := HSS.out; omega
          have hnx := HNX.out
          have z2 : ((S ++ P).toList == s.toList) = true := by rw [hnx]; exact beq_self_eq_true _
          clear b4 d0 d1 d2 HA3 HK3
          obtain ⟨e0, e1, e2, e3, e4, e5, e6⟩ := seven HA4.out.blk
          have z3 : ((s.size : Int) != (s.size : Int)) = false := bne_self_eq_false _
          go_wp2_with (fail)
          refine (HSZ.out _).mono ?_
          rintro e w5 ⟨rfl, b5⟩
          have HA5 := Lib.hid (HA4.out.step b5)
          obtain ⟨i, hi, hii⟩ := cut64 a s.size (by have := HOK.out.least; omega)
          have n1 : ¬ (s.size : Int) = 0 := by have := HOK.out.least; omega
          have n2 : ((s.size : Int) == 0) = false := beq_eq_false_iff_ne.2 n1
          have u1 := u64_in s.size (by have := HOK.out.most; omega)
          have u2 := IntWalk.wrap64_in (i : Int) (by have := HOK.out.most; omega)
          obtain ⟨l, hl⟩ : ∃ l : List UInt8, s.data.toList = l := ⟨_, rfl⟩
          have HL := Lib.hid (show s.data.toList = l ∧ l.length = s.size from ⟨hl, by rw [← hl]; rfl⟩)
          have HI := Lib.hid hi
          have hil : i < l.length := by have := HL.out.2; omega
          have i0 : 0 ≤ (i : Int) := by omega
          have i1 : (i : Int) < (l.length : Int) := by omega
          obtain ⟨d, hd⟩ : ∃ d : UInt8, l.getD i 0 = d := ⟨_, rfl⟩
          have hx := xor8 d B
          obtain ⟨Y, hY⟩ : ∃ Y : UInt8, d ^^^ B = Y := ⟨_, rfl⟩
          rw [hY] at hx
          have HY := Lib.hid hY
          have HF := Lib.hid (show ∀ w6 : World, Tx.TRow w6 w5.heap.size l → w5.grownBy w6 none → w6.cell? ⟨w5.heap.size, i, none⟩ = some (.int .u8 (d.toNat : Int)) ∧ w6.frozen? ⟨w5.heap.size, i, none⟩ = false ∧ At w x s b (w6.setCell ⟨w5.heap.size, i, none⟩ (.int .u8 (Y.toNat : Int))) ∧
              ∀ cap, (convert 43 9 (.slice (some ⟨w5.heap.size, 0, none⟩) l.length cap)).run Try.prog (w6.setCell ⟨w5.heap.size, i, none⟩ (.int .u8 (Y.toNat : Int))) = .ok (.string ⟨(l.set i Y).toArray⟩) (w6.setCell ⟨w5.heap.size, i, none⟩ (.int .u8 (Y.toNat : Int))) from fun w6 hrow hgr => by
            have h6 : At w x s b w6 := HA5.out.step ((Below.refl _ _).grown hgr (Nat.le_refl _) (fun k hk => by cases hk))
            have h1 := (Array.getElem?_eq_some_iff.1 HA5.out.box).1
            have h2 := (Array.getElem?_eq_some_iff.1 HA5.out.blk).1
            refine ⟨by rw [← hd]; exact hrow.cell hil, hrow.frozen hil, ⟨?_, ?_, ?_⟩, fun cap => ?_⟩
            · exact (heap_setCell_other _ ⟨w5.heap.size, i, none⟩ _ _ (by show w.heap.size ≠ w5.heap.size; omega)).trans h6.box
            · exact (heap_setCell_other _ ⟨w5.heap.size, i, none⟩ _ _ (by show b ≠ w5.heap.size; omega)).trans h6.blk
            · exact h6.below.setCell (p := ⟨w5.heap.size, i, none⟩) (by show w.heap.size ≤ w5.heap.size; omega) _
            · have := (hrow.set hil Y).text cap
              rwa [List.length_set] at this)
          have HD := Lib.hid hd
          have HIL := Lib.hid hil
          clear b5 e0 e1 e2 e3 e4 e5 e6 z1 z2 hnx HA4 hl hi hd hil hY
          go_wp2_with (refine Tx.wpList_bytes rfl (.tmp 135) rfl s rfl l HL.out.1 ?_; intro cap w6 hrow hgr; have HG6 := Lib.hid (HF.out w6 hrow hgr); have c1 := HG6.out.1; have f1 := HG6.out.2.1; have hk := six HG6.out.2.2.1.box; have hcv := HG6.out.2.2.2 cap; clear hrow hgr)
          have HA8 := Lib.hid HG6.out.2.2.1
          have HOK' := Lib.hid (turned_ok HOK.out HL.out.2 i Y)
          have HSE := Lib.hid (turned_same x HL.out.1 HIL.out HD.out HY.out)
          clear hk hcv c1 f1 HG6 HF hx hii n1 n2 u1 u2 i0 i1
          generalize w6.setCell ⟨w5.heap.size, i, none⟩ (.int .u8 (Y.toNat : Int)) = w7 at *
          generalize (⟨(l.set i Y).toArray⟩ : ByteArray) = s' at *
          refine (brain_of w7 x s' HOK'.out).mono ?_
          rintro e w8 ⟨o, rfl, ho, hh, b8⟩
          have HA9 := Lib.hid (HA8.out.step b8)
          have HO9 := Lib.hid hh
          have HSM := Lib.hid (fun (W : World) (hW : Below w8.heap.size w8 W) => brain_same W b o x x s s' (HA9.out.step hW).blk (Br.stays HO9.out hW) (by have := HOK.out.most; omega) (by have := HOK'.out.most; omega))
          rw [HSE.out] at HSM
          have HS2 := Lib.hid (fun (W : World) (hW : Below w8.heap.size w8 W) => brain_same W b b x x s s (HA9.out.step hW).blk (HA9.out.step hW).blk (by have := HOK.out.most; omega) (by have := HOK.out.most; omega))
          rw [decide_eq_true rfl] at HS2
          obtain ⟨z, hz⟩ : ∃ z, ((B.toNat : Int) == 0) = z := ⟨_, rfl⟩
          rw [hz] at HSM
          have zz : (z == z) = true := beq_self_eq_true z
          clear ho hh b8 HA8
          go_wp2_with (fail)
          refine (HSM.out _ (Below.refl _ _)).mono ?_
          rintro e w9 ⟨rfl, b9⟩
          have HB9 := Lib.hid b9
          clear b9
          go_wp2_with (fail)
          refine (HS2.out _ HB9.out).mono ?_
          rintro e w10 ⟨rfl, b10⟩
          have HB10 := Lib.hid (HB9.out.trans (b10.mono HB9.out.size))
          clear b10
          go_wp2_with (fail)
          exact bodyPost_ret (results_tmp rfl _ _ _) rfl ⟨rfl, (HA9.out.step HB10.out).below⟩
theorem walk : Calls Try.prog 3 #[cfV x, .string s, .int .i64 a, .int .u8 (B.toNat : Int)] w fun e w' => e = .returned (.bool true) ∧ Below w.heap.size w w' := by
  by_cases h : Ok x s
  · exact walk_ok w x s a B h
  · exact walk_no w x s a B h
end
end brainTables
end Go.Proofs.Ytgenpfhcbopokaa
