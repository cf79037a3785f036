/-
  Proved: PenWrites: of every row of deeds the bytes, and whether a number couldn't be, are the document's. No condition.
-/
import Derived.Test.YtdadcpkkpopbcaaPenAwake
import Derived.Test.YtdadcpkkpopbcaaPenActs
import Derived.Test.YtdadcpkkpopbcaaPenRefW
import Derived.Test.YtdadcpkkpopbcaaPenDigs
import Derived.Test.YtdadcpkkpopbcaaGuard
import Derived.Deep.RegionHeld3
import Derived.Deep.Cut
import Derived.Great.Walk
namespace Go.Proofs.Ytdadcpkkpopbcaa.penWrites
open Go.ChangeShapes Go.WideShapes Go.ChangeAt Go.RowKit Pn

theorem hbD : Try.prog.built 29 [] = some (dgV fun _ => 0) := by kernel_rfl
theorem wpList_sliceOne {P : Program} {ops : Array Oper} {rest : List Oper} {o : Oper} {a : Act} {w : World} {Q : Exit → Act → World → Prop} (hg : o.guard = none) (t e : TypeId) (x : Operand) (ho : o.op = .buildSlice t 1 #[(0, x)])
    (dst : Option Tmp) (hdst : o.dst = dst) (hu : P.underlying t = some (.slice e)) (cells : Array Value) (hx : a.eval x = .agg cells) (hf : P.builtSlice e 1 [(0, .agg cells)] = some cells)
    (h : wpList P ops Q rest (a.put dst (.slice (some ⟨w.heap.size, 0, none⟩) 1 1)) (w.alloc (.cells cells e))) : wpList P ops Q (o :: rest) a w :=
  Great.wpList_buildSliceTo hg t e 1 #[(0, x)] ho _ rfl dst hdst hu cells (by
    have e : ((#[(0, x)] : Array (Nat × Operand)).map fun (i, y) => (i, a.eval y)).toList = [(0, a.eval x)] := by simp
    rw [e, hx]
    exact hf) h
theorem dgOne (f : Nat → UInt8) : Try.prog.builtSlice 29 1 [(0, .agg (dgV f))] = some (dgV f) := by kernel_rfl
theorem join1 (l : List ByteArray) (L : List UInt8) : (⟨(penL l).toArray⟩ : ByteArray) ++ ⟨L.toArray⟩ = ⟨(penL (⟨L.toArray⟩ :: l)).toArray⟩ := by
  apply ByteArray.ext
  simp [ByteArray.data_append, penL]
theorem join2 (l : List ByteArray) (L M : List UInt8) : (⟨(penL l).toArray⟩ : ByteArray) ++ ⟨L.toArray⟩ ++ ⟨M.toArray⟩ = ⟨(penL (⟨(L ++ M).toArray⟩ :: l)).toArray⟩ := by
  apply ByteArray.ext
  simp [ByteArray.data_append, penL]
theorem join0 (l : List ByteArray) (L : List UInt8) : (⟨(penL l).toArray⟩ : ByteArray) ++ ⟨L.toArray⟩ = ⟨(penL (⟨#[]⟩ :: ⟨L.toArray⟩ :: l)).toArray⟩ := by
  apply ByteArray.ext
  simp [ByteArray.data_append, penL]
theorem two_nums (a b : Int) : numsL (fun k => [a, b].getD k 0) 2 = numL a ++ numL b := by
  simp [numsL, List.range, List.range.loop]
theorem two_texts (s : ByteArray) : textsL (fun _ => s) 2 = textL s ++ textL s := by
  simp [textsL, List.range, List.range.loop]
theorem one_dig (f : Nat → UInt8) : digsL (fun _ => f) 1 = digL f := by
  simp [digsL, List.range, List.range.loop]
theorem size_pen (l : List ByteArray) : (⟨(penL l).toArray⟩ : ByteArray).size = total l := by
  show (penL l).toArray.size = _
  rw [List.size_toArray, penL_length]
theorem plus_one (b : UInt8) : (((b.toNat : Int)) + 1) % 256 = (((b + 1).toNat : Nat) : Int) := by
  rw [UInt8.toNat_add]
  have := b.toNat_lt
  show _ = (((b.toNat + 1) % 256 : Nat) : Int)
  omega

theorem keepS {w4 W W' : World} {X : Nat} {S : ByteArray} (hb : Below W.heap.size W W') (h : W.cell? ⟨X, 3, none⟩ = some (.string S) ∧ Below w4.heap.size w4 W) : W'.cell? ⟨X, 3, none⟩ = some (.string S) ∧ Below w4.heap.size w4 W' :=
  ⟨(hb.cell (p := ⟨X, 3, none⟩) (block_lt_of_cell h.1)).trans h.1, h.2.trans (hb.mono h.2.size)⟩
theorem gen_exit {Q : Exit → Act → World → Prop} {e : Exit} {a : Act} {w : World} (R : World → Prop) (h0 : R w) (h : ∀ wr, R wr → Q e a wr) : Q e a w := h w h0
set_option maxRecDepth 100000 in
set_option maxHeartbeats 16000000 in
theorem walk (w : World) (A : Option Addr) (n cap : Nat) (C : Nat → Array Value) (hnb : n ≤ 9223372036854775807)
    (hC : ∀ i, i < n → ∃ (k n m : Int) (s : ByteArray) (b : UInt8) (f : Nat → UInt8), (-9223372036854775808 ≤ n ∧ n ≤ 9223372036854775807) ∧ (-9223372036854775808 ≤ m ∧ m ≤ 9223372036854775807) ∧ C i = actC k n m s b f)
    (hA : 0 < n → ∃ b o, A = some ⟨b, o, none⟩ ∧ ∀ i, i < n → w.rangeAt b (o + 37 * i) (C i).toList) :
    Calls Try.prog 3 #[.slice A n cap] w fun e w' => e = .returned (.bool true) ∧ Below w.heap.size w w' := by
  have HC := Lib.hid hC
  have HA := Lib.hid hA
  clear hC hA
  go_enter Try.func3, Try.ntmps3
  go_wp2_with (fail)
  refine (awake_any w).mono ?_
  rintro e w1 ⟨rfl, b1⟩
  have s1 := b1.size
  go_wp2_with (fail)
  refine gen_world (fun wr => Below w.heap.size w wr ∧ PenAt wr w1.heap.size [] false) ⟨b1.alloc s1 _, pen_new _ _ (heap_alloc_new w1 _)⟩ ?_
  rintro w2 ⟨b2, p2⟩
  have hP : w.heap.size ≤ w1.heap.size := s1
  generalize w1.heap.size = P at p2 hP ⊢
  clear b1 s1
  have P2 := Lib.hid p2
  have B2 := Lib.hid b2
  clear p2 b2
  go_loopw [4, 5, 6] (fun q x i wr => ∃ (k : Nat) (l : List ByteArray) (bad : Bool), k ≤ n ∧ i = .int .i64 k ∧ q = .string ⟨(penL l).toArray⟩ ∧ x = .bool bad ∧ PenAt wr P l bad ∧ total l ≤ 208 * k ∧ Below w.heap.size w wr) (fun _ _ i _ => n - (intOf i).toNat)
  case atStart => exact ⟨0, [], false, Nat.zero_le _, rfl, rfl, rfl, P2.out, Nat.zero_le _, B2.out⟩
  case round =>
    clear P2 B2
    obtain ⟨k, l, bad, hk, rfl, rfl, rfl, hpen, htot, hbel⟩ := hrel
    by_cases hlt : k < n ∧ k < 40
    case neg =>
      have HB := Lib.hid hbel
      clear hpen htot hbel
      by_cases hkn : k < n
      case' pos =>
        have mk : (k : Int) < (n : Int) := by omega
        have m4 : ¬ (k : Int) < 40 := by omega
      case' neg => have mk : ¬ (k : Int) < (n : Int) := by omega
      all_goals
        clear hlt
        go_wp2_with (fail)
        refine (pen_byte_nil _ _).mono ?_
        rintro e w4 ⟨rfl, rfl⟩
        have B3 := Lib.hid (HB.out.alloc HB.out.size (.cells #[.int .u8 1] 5))
        go_wp2_with (fail)
        have B4 := Lib.hid (B3.out.alloc B3.out.size (.cells #[.int .i64 1] 3))
        refine (pen_num_nil _ (some ⟨wr.heap.size + 1, 0, none⟩) 1 1 (fun _ => 1) (by omega) (fun _ => ⟨_, 0, rfl, fun k hk => ?_⟩)).mono ?_
        · obtain rfl : k = 0 := by omega
          have h := heap_alloc_new (wr.alloc (.cells #[.int .u8 1] 5)) (.cells #[.int .i64 1] 3)
          rw [World.size_alloc] at h
          exact cell_of_row _ _ 0 _ _ _ h
        rintro e w5 ⟨rfl, b5⟩
        have B5 := Lib.hid (B4.out.trans (b5.mono B4.out.size))
        clear b5 B3 B4
        go_wp2_with (fail)
        have B6 := Lib.hid (B5.out.alloc B5.out.size (.cells #[.string ⟨#[97]⟩] 9))
        refine (pen_text_nil _ (some ⟨w5.heap.size, 0, none⟩) 1 1 (fun _ => ⟨#[97]⟩) (by omega) (fun _ _ => (by decide : (1 : Nat) ≤ 1000000)) (fun _ => ⟨_, 0, rfl, fun k hk => ?_⟩)).mono ?_
        · obtain rfl : k = 0 := by omega
          exact cell_of_row _ _ 0 _ _ _ (heap_alloc_new w5 _)
        rintro e w7 ⟨rfl, b7⟩
        have B7 := Lib.hid (B6.out.trans (b7.mono B6.out.size))
        clear b7 B5 B6
        go_upto_region 34 with (fail)
        go_wp2_with (first
          | (refine wpList_build_to rfl 29 #[] rfl [] rfl _ hbD ?_)
          | (refine Great.wpList_buildSliceTo rfl 54 29 1 #[(0, .tmp 141)] rfl _ rfl (some 142) rfl Try.underlying54 (dgV fun _ => 0) (dgOne _) ?_))
        have B8 := Lib.hid (B7.out.alloc B7.out.size (.cells (dgV fun _ => 0) 29))
        refine (pen_digest_nil _ (some ⟨w7.heap.size, 0, none⟩) 1 1 (fun _ _ => 0) (by omega) (fun _ => ⟨_, 0, rfl, fun k hk j v hj => ?_⟩)).mono ?_
        · obtain rfl : k = 0 := by omega
          rw [cell_of_row _ _ _ _ _ _ (heap_alloc_new w7 _), ← Array.getElem?_toList, ← hj]
          congr 1
          omega
        rintro e w9 ⟨rfl, b9⟩
        have B9 := Lib.hid (B8.out.trans (b9.mono B8.out.size))
        clear b9 B7 B8
        go_wp2_with (fail)
        refine (pen_bytes_nil w9).mono ?_
        rintro e wa ⟨rfl, rfl⟩
        go_wp2_with (fail)
        refine (pen_bad_nil w9).mono ?_
        rintro e wa ⟨rfl, rfl⟩
        go_wp2
        go_ret
        exact ⟨rfl, B9.out⟩
    obtain ⟨hkn, hk40⟩ := hlt
    obtain ⟨b, o, rfl, hc⟩ := HA.out (by omega)
    have hck := hc k hkn
    obtain ⟨K, N, M, S, Bb, D, hNb, hMb, hCk⟩ := HC.out k hkn
    have hsz : (C k).size = 37 := by rw [hCk, actC_size]
    have h0 : (C k)[0]? = some (.int .i64 K) := by rw [hCk, actC_low _ _ _ _ _ _ _ (by omega)]; rfl
    have h1 : (C k)[1]? = some (.int .i64 N) := by rw [hCk, actC_low _ _ _ _ _ _ _ (by omega)]; rfl
    have h2 : (C k)[2]? = some (.int .i64 M) := by rw [hCk, actC_low _ _ _ _ _ _ _ (by omega)]; rfl
    have h3 : (C k)[3]? = some (.string S) := by rw [hCk, actC_low _ _ _ _ _ _ _ (by omega)]; rfl
    have h4 : (C k)[4]? = some (.int .u8 (Bb.toNat : Int)) := by rw [hCk, actC_low _ _ _ _ _ _ _ (by omega)]; rfl
    have h5 : ∀ j, (C k)[5 + j]? = (dgV D)[j]? := fun j => by rw [hCk]; exact actC_high _ _ _ _ _ _ j
    have hone : (C k).all (·.oneCell') = true := by rw [hCk]; exact actC_one K N M S Bb D
    clear hCk
    generalize C k = c at hck hsz h0 h1 h2 h3 h4 h5 hone
    rw [Nat.mul_comm] at hck
    have hr0 : wr.rangeAt b (o + k * 37) c.toList := fun j v hj => (hbel.cell (p := ⟨b, o + k * 37 + j, none⟩) (block_lt_of_cell (hck j v hj))).trans (hck j v hj)
    have HR0 := Lib.hid hr0
    have hPl := hpen.lt
    have hwl := hbel.size
    have HPEN := Lib.hid hpen
    have HTOT := Lib.hid htot
    have HBEL := Lib.hid hbel
    clear hpen htot hbel hr0 hck hc
    have l0 : 0 ≤ (k : Int) := by omega
    have m0 : (k : Int) < (n : Int) := by omega
    have m1 : (k : Int) < 40 := by omega
    have hci : (Try.prog.info? 31).map (·.size) = some c.size := by rw [hsz]; kernel_rfl
    have HAI := Lib.hid (show (Try.prog.info? 31).map (·.size) = some c.toList.length by rw [Array.length_toList]; exact hci)
    have HCI := Lib.hid hci
    have HAO := Lib.hid hone
    have HZS := Lib.hid (show ∀ z : Array Value, z.size = 37 → z.size = c.size from fun z h => h.trans hsz.symm)
    have H0 := Lib.hid h0
    have H1 := Lib.hid h1
    have H2 := Lib.hid h2
    have H3 := Lib.hid h3
    have H4 := Lib.hid h4
    have H5 := Lib.hid h5
    clear hci hone hsz h0 h1 h2 h3 h4 h5
    have HNW := Lib.hid (show ∀ o, (wr.alloc o).heap[wr.heap.size]? = some o from fun o => heap_alloc_new wr o)
    go_upto_region 10 with (first
      | (refine wpList_load_mid rfl 31 _ rfl b (o + k * 37) rfl c.toList _ HR0.out Try.underlying31 rfl HAI.out ?_)
      | (refine wpList_store_row rfl 31 _ _ rfl _ c rfl rfl 31 _ (HNW.out _) HCI.out (HZS.out _ (by kernel_rfl)) HAO.out ?_))
    refine gen_world (fun wx => Below w.heap.size w wx ∧ PenAt wx P l bad ∧ wx.heap[wr.heap.size]? = some (.cells c 31 (0, 0))) ⟨below_setRow' (HBEL.out.alloc hwl _) hwl _, HPEN.out.below (below_setRow' ((Below.refl _ _).alloc (Nat.le_refl _) _) (Nat.le_refl _) _), setRow_heap _ _ _ _ _ _ (HNW.out _)⟩ ?_
    clear HNW HAI HCI HAO HZS HR0 HA HPEN HBEL
    rintro wx ⟨hbx, hpx, hcx⟩
    have hXP : wr.heap.size ≠ P := by omega
    generalize wr.heap.size = X at hcx hXP
    have x0 : wx.cell? ⟨X, 0, none⟩ = some (.int .i64 K) := (cell_of_row _ _ 0 _ _ _ hcx).trans H0.out
    have x1 : wx.cell? ⟨X, 1, none⟩ = some (.int .i64 N) := (cell_of_row _ _ 1 _ _ _ hcx).trans H1.out
    have x2 : wx.cell? ⟨X, 2, none⟩ = some (.int .i64 M) := (cell_of_row _ _ 2 _ _ _ hcx).trans H2.out
    have x3 : wx.cell? ⟨X, 3, none⟩ = some (.string S) := (cell_of_row _ _ 3 _ _ _ hcx).trans H3.out
    have x4 : wx.cell? ⟨X, 4, none⟩ = some (.int .u8 (Bb.toNat : Int)) := (cell_of_row _ _ 4 _ _ _ hcx).trans H4.out
    have HX5 := Lib.hid (show ∀ j, wx.cell? ⟨X, 5 + j, none⟩ = (dgV D)[j]? from fun j => (cell_of_row _ _ (5 + j) _ _ _ hcx).trans (H5.out j))
    have hXl : X < wx.heap.size := (Array.getElem?_eq_some_iff.1 hcx).1
    have HPX := Lib.hid hpx
    have HBX := Lib.hid hbx
    have hsx := hbx.size
    have hPx := hpx.lt
    clear hcx hbx hpx H0 H1 H2 H3 H4 H5
    by_cases hS : S.size ≤ 100
    case neg =>
      have hSi : (100 : Int) < (S.size : Int) := by omega
      go_wp2
      go_ret
      exact ⟨rfl, HBX.out⟩
    have hSi : ¬ (100 : Int) < (S.size : Int) := by omega
    have HSS := Lib.hid hS
    have HQS := Lib.hid (size_pen l)
    have HJ1 := Lib.hid (join1 l)
    have HJ2 := Lib.hid (join2 l)
    have HJ0 := Lib.hid (join0 l)
    clear hS
    generalize (⟨(penL l).toArray⟩ : ByteArray) = Q at HQS HJ1 HJ2 HJ0 ⊢
    by_cases hK1 : K = 1
    · subst hK1
      obtain ⟨B1, e1⟩ : ∃ B1 : UInt8, ((Bb.toNat : Int) + 1) % 256 = (B1.toNat : Int) := ⟨Bb + 1, plus_one Bb⟩
      have hTT : (⟨[Bb, B1].toArray⟩ : ByteArray).size = 2 := rfl
      have HJ := Lib.hid (HJ1.out [Bb, B1])
      have HCV := Lib.hid (show ∀ W g, W.heap[g]? = some (.cells #[.int .u8 (Bb.toNat : Int), .int .u8 (B1.toNat : Int)] 5 (0, 0)) → (convert 33 9 (.slice (some ⟨g, 0, none⟩) 2 2)).run Try.prog W = .ok (.string ⟨[Bb, B1].toArray⟩) W from fun W g h => run_text W _ 2 2 [Bb, B1] rfl fun j u hj => by
        rw [Addr.add_lit, Nat.zero_add, cell_of_row _ _ _ _ _ _ h, ← hj]
        exact List.getElem?_toArray)
      generalize (⟨[Bb, B1].toArray⟩ : ByteArray) = T at hTT HJ HCV
      have q2 : ¬ 9223372036854775807 < Q.size + T.size := by have := HQS.out; have := HTOT.out; omega
      have HT2 := Lib.hid (show total (T :: l) ≤ 208 * (k + 1) by have := HTOT.out; simp only [total]; omega)
      clear HJ1 HJ2 HJ0
      go_upto_region 18 with (fail)
      refine (pen_byte _ P l bad (HPX.out.below ((Below.refl _ _).alloc (Nat.le_refl _) _)) (some ⟨wx.heap.size, 0, none⟩) 2 2 T hTT.symm (by have := HT2.out; omega) (fun W hW => HCV.out W _ (by rw [hW]; exact heap_alloc_new wx _))).mono ?_
      rintro e w4 ⟨rfl, p4, o4⟩
      have y4 : w4.cell? ⟨X, 4, none⟩ = some (.int .u8 (Bb.toNat : Int)) := (o4.cell (a := ⟨X, 4, none⟩) (by simp; omega) hXP).trans (by rw [World.cell?_alloc_lt _ _ _ hXl]; exact x4)
      have HB4 := Lib.hid (below_only (HBX.out.alloc hsx (.cells #[.int .u8 (Bb.toNat : Int), .int .u8 (B1.toNat : Int)] 5)) o4 hP (by simp; omega))
      have hcw := HCV.out (w4.alloc (.cells #[.int .u8 (Bb.toNat : Int), .int .u8 (B1.toNat : Int)] 5)) w4.heap.size (heap_alloc_new w4 _)
      have HP2 := Lib.hid (p4.below ((Below.refl _ _).alloc (Nat.le_refl _) (.cells #[.int .u8 (Bb.toNat : Int), .int .u8 (B1.toNat : Int)] 5)))
      have HB2 := Lib.hid (HB4.out.alloc HB4.out.size (.cells #[.int .u8 (Bb.toNat : Int), .int .u8 (B1.toNat : Int)] 5))
      clear p4 o4 HB4 x0 x1 x2 x3 x4 HBX HPX HCV
      go_wp2_with (fail)
      have ht2 := HT2.out
      refine (as_val (pen_bytes _ P (T :: l) _ HP2.out (by omega)) (congrArg Value.string HJ.out.symm)).mono ?_
      rintro e w8 ⟨rfl, b8⟩
      have HP8 := Lib.hid (HP2.out.below b8)
      have HB8 := Lib.hid (HB2.out.trans (b8.mono HB2.out.size))
      have HREL := Lib.hid (show ∀ bx, PenAt w8 P (T :: l) bx → ∃ (k' : Nat) (l : List ByteArray) (bad : Bool), k' ≤ n ∧ Value.int .i64 ((k : Int) + 1) = .int .i64 k' ∧ Value.string (Q ++ T) = .string ⟨(penL l).toArray⟩ ∧ Value.bool bx = .bool bad ∧ PenAt w8 P l bad ∧ total l ≤ 208 * k' ∧ Below w.heap.size w w8 from fun bx hp => ⟨k + 1, (T :: l), bx, by omega, by go_num, by rw [HJ.out], rfl, hp, HT2.out, HB8.out⟩)
      clear b8 HP2 HB2 HT2 HJ ht2 HB8
      go_wp2_with (fail)
      refine (pen_bad w8 P _ _ HP8.out).mono ?_
      rintro e w9 ⟨rfl, rfl⟩
      go_wp2
      go_roundw
      case rel => exact HREL.out _ HP8.out
      case measure => simp [intOf]; omega
    by_cases hK2 : K = 2
    · subst hK2
      have hTN : (⟨(numL N).toArray⟩ : ByteArray).size = 4 := by show (numL N).toArray.size = 4; rw [List.size_toArray, numL_length]
      have hTM : (⟨(numL M).toArray⟩ : ByteArray).size = 4 := by show (numL M).toArray.size = 4; rw [List.size_toArray, numL_length]
      have HJ := Lib.hid (show Q ++ ⟨(numL N).toArray⟩ ++ ⟨(numL M).toArray⟩ = ⟨(penL (⟨(numsL (fun k => [N, M].getD k 0) 2).toArray⟩ :: l)).toArray⟩ by rw [two_nums]; exact HJ2.out _ _)
      have HT2 := Lib.hid (show total (⟨(numsL (fun k => [N, M].getD k 0) 2).toArray⟩ :: l) ≤ 208 * (k + 1) by
        have := HTOT.out
        have h8 := numsL_length (fun k => [N, M].getD k 0) 2
        simp only [total, ByteArray.size, List.size_toArray]
        omega)
      have HOK := Lib.hid (show (bad || !numsOk (fun k => [N, M].getD k 0) 2) = (bad || !numOk N || !numOk M) by
        have : numsOk (fun k => [N, M].getD k 0) 2 = (numOk N && numOk M) := by simp [numsOk, List.range, List.range.loop]
        rw [this]
        cases bad <;> cases numOk N <;> cases numOk M <;> rfl)
      have HRN := Lib.hid (fun W => refw_num W N hNb.1 hNb.2)
      have HRM := Lib.hid (fun W => refw_num W M hMb.1 hMb.2)
      go_upto_region 21 with (fail)
      refine (pen_num _ P l bad (HPX.out.below ((Below.refl _ _).alloc (Nat.le_refl _) _)) (some ⟨wx.heap.size, 0, none⟩) 2 2 (fun k => [N, M].getD k 0) (by omega) (fun _ => ⟨wx.heap.size, 0, rfl, by omega, fun j hj => ?_⟩) (by have := HTOT.out; omega)).mono ?_
      · rw [Nat.zero_add]
        match j, hj with
        | 0, _ => exact cell_of_row _ _ 0 _ _ _ (heap_alloc_new wx _)
        | 1, _ => exact cell_of_row _ _ 1 _ _ _ (heap_alloc_new wx _)
      rintro e w4 ⟨rfl, p4, o4⟩
      rw [HOK.out] at p4
      have y1 : w4.cell? ⟨X, 1, none⟩ = some (.int .i64 N) := (o4.cell (a := ⟨X, 1, none⟩) (by simp; omega) hXP).trans (by rw [World.cell?_alloc_lt _ _ _ hXl]; exact x1)
      have y2 : w4.cell? ⟨X, 2, none⟩ = some (.int .i64 M) := (o4.cell (a := ⟨X, 2, none⟩) (by simp; omega) hXP).trans (by rw [World.cell?_alloc_lt _ _ _ hXl]; exact x2)
      have hX4 : X < w4.heap.size := block_lt_of_cell y1
      have HB4 := Lib.hid (below_only (HBX.out.alloc hsx (.cells #[.int .i64 N, .int .i64 M] 3)) o4 hP (by simp; omega))
      have HP4 := Lib.hid p4
      clear p4 o4 x0 x1 x2 x3 x4 HBX HPX HJ1 HJ2 HJ0 HOK
      go_wp2_with (fail)
      refine (HRN.out w4).mono ?_
      rintro e w5 ⟨rfl, b5⟩
      have z2 : w5.cell? ⟨X, 2, none⟩ = some (.int .i64 M) := (b5.cell (p := ⟨X, 2, none⟩) hX4).trans y2
      have HP5 := Lib.hid (HP4.out.below b5)
      have HB5 := Lib.hid (HB4.out.trans (b5.mono HB4.out.size))
      clear b5 HP4 HB4 y1 y2
      go_wp2_with (fail)
      refine (HRM.out w5).mono ?_
      rintro e w6 ⟨rfl, b6⟩
      have HP2 := Lib.hid (HP5.out.below b6)
      have HB2 := Lib.hid (HB5.out.trans (b6.mono HB5.out.size))
      clear b6 HP5 HB5 HRN HRM z2
      generalize (⟨(numsL (fun k => [N, M].getD k 0) 2).toArray⟩ : ByteArray) = T at HP2 HJ HT2
      generalize numOk N = okN at HP2 ⊢
      generalize numOk M = okM at HP2 ⊢
      generalize (⟨(numL N).toArray⟩ : ByteArray) = TN at hTN HJ ⊢
      generalize (⟨(numL M).toArray⟩ : ByteArray) = TM at hTM HJ ⊢
      have q1 : ¬ 9223372036854775807 < Q.size + TN.size := by have := HQS.out; have := HTOT.out; omega
      have q2 : ¬ 9223372036854775807 < (Q ++ TN).size + TM.size := by rw [ByteArray.size_append]; have := HQS.out; have := HTOT.out; omega
      have q3 : ¬ 9223372036854775807 < Q.size + TN.size + TM.size := by have := HQS.out; have := HTOT.out; omega
      clear hTN hTM
      cases bad <;> cases okN <;> cases okM
      all_goals
        simp only [Bool.not_true, Bool.not_false, Bool.or_true, Bool.or_false] at HP2
        go_wp2_with (fail)
        have ht2 := HT2.out
        refine (as_val (pen_bytes _ P (T :: l) _ HP2.out (by omega)) (congrArg Value.string HJ.out.symm)).mono ?_
        rintro e w8 ⟨rfl, b8⟩
        have HP8 := Lib.hid (HP2.out.below b8)
        have HB8 := Lib.hid (HB2.out.trans (b8.mono HB2.out.size))
        have HREL := Lib.hid (show ∀ bx, PenAt w8 P (T :: l) bx → ∃ (k' : Nat) (l : List ByteArray) (bad : Bool), k' ≤ n ∧ Value.int .i64 ((k : Int) + 1) = .int .i64 k' ∧ Value.string (Q ++ TN ++ TM) = .string ⟨(penL l).toArray⟩ ∧ Value.bool bx = .bool bad ∧ PenAt w8 P l bad ∧ total l ≤ 208 * k' ∧ Below w.heap.size w w8 from fun bx hp => ⟨k + 1, (T :: l), bx, by omega, by go_num, by rw [HJ.out], rfl, hp, HT2.out, HB8.out⟩)
        clear b8 HP2 HB2 HT2 HJ ht2 HB8
        go_wp2_with (fail)
        refine (pen_bad w8 P _ _ HP8.out).mono ?_
        rintro e w9 ⟨rfl, rfl⟩
        go_wp2
        go_roundw
        case rel => exact HREL.out _ HP8.out
        case measure => simp [intOf]; omega
    by_cases hK3 : K = 3
    · subst hK3
      have hTS : (⟨(textL S).toArray⟩ : ByteArray).size ≤ 104 := by show (textL S).toArray.size ≤ 104; rw [List.size_toArray, textL_length]; have := HSS.out; omega
      have HJ := Lib.hid (show Q ++ ⟨(textL S).toArray⟩ ++ ⟨(textL S).toArray⟩ = ⟨(penL (⟨(textsL (fun _ => S) 2).toArray⟩ :: l)).toArray⟩ by rw [two_texts]; exact HJ2.out _ _)
      have HT2 := Lib.hid (show total (⟨(textsL (fun _ => S) 2).toArray⟩ :: l) ≤ 208 * (k + 1) by
        have := HTOT.out
        have h8 : (textsL (fun _ => S) 2).length ≤ 208 := by rw [two_texts, List.length_append, textL_length]; have := HSS.out; omega
        simp only [total, ByteArray.size, List.size_toArray]
        omega)
      go_upto_region 27 with (fail)
      refine (pen_text _ P l bad (HPX.out.below ((Below.refl _ _).alloc (Nat.le_refl _) _)) (some ⟨wx.heap.size, 0, none⟩) 2 2 (fun _ => S) (by omega) (fun _ _ => by have := HSS.out; omega) (fun _ => ⟨wx.heap.size, 0, rfl, by omega, fun j hj => ?_⟩) (by have := HTOT.out; omega)).mono ?_
      · rw [Nat.zero_add]
        match j, hj with
        | 0, _ => exact cell_of_row _ _ 0 _ _ _ (heap_alloc_new wx _)
        | 1, _ => exact cell_of_row _ _ 1 _ _ _ (heap_alloc_new wx _)
      rintro e w4 ⟨rfl, p4, o4⟩
      have y3 : w4.cell? ⟨X, 3, none⟩ = some (.string S) := (o4.cell (a := ⟨X, 3, none⟩) (by simp; omega) hXP).trans (by rw [World.cell?_alloc_lt _ _ _ hXl]; exact x3)
      have hX4 : X < w4.heap.size := block_lt_of_cell y3
      have HB4 := Lib.hid (below_only (HBX.out.alloc hsx (.cells #[.string S, .string S] 9)) o4 hP (by simp; omega))
      have HP4 := Lib.hid p4
      have HRT := Lib.hid (fun W => refw_text W S (by have := HSS.out; omega))
      clear p4 o4 x0 x1 x2 x3 x4 HBX HPX HJ1 HJ2 HJ0
      generalize (⟨(textsL (fun _ => S) 2).toArray⟩ : ByteArray) = T at HP4 HJ HT2
      generalize (⟨(textL S).toArray⟩ : ByteArray) = TS at hTS HJ HRT
      have q1 : ¬ 9223372036854775807 < Q.size + TS.size := by have := HQS.out; have := HTOT.out; omega
      have q2 : ¬ 9223372036854775807 < (Q ++ TS).size + TS.size := by rw [ByteArray.size_append]; have := HQS.out; have := HTOT.out; omega
      have q3 : ¬ 9223372036854775807 < Q.size + TS.size + TS.size := by have := HQS.out; have := HTOT.out; omega
      have hS0 : w4.cell? ⟨X, 3, none⟩ = some (.string S) ∧ Below w4.heap.size w4 w4 := ⟨y3, Below.refl _ _⟩
      go_upto_region 27 with (fail)
      go_region_held3 (fun W : World => W.cell? ⟨X, 3, none⟩ = some (.string S) ∧ Below w4.heap.size w4 W) (first | exact ⟨y3, below_drewN (Below.refl _ _) 1⟩ | exact keepS (by assumption) (by assumption))
        ((go_at_call 9; refine (HRT.out _).mono ?_; rintro e w5 ⟨rfl, b5⟩))
      all_goals
        refine gen_exit (fun W => Below w4.heap.size w4 W) (And.right (by assumption)) ?_
        intro w6 b6
        have HP2 := Lib.hid (HP4.out.below b6)
        have HB2 := Lib.hid (HB4.out.trans (b6.mono HB4.out.size))
        go_wp2_with (fail)
        have ht2 := HT2.out
        refine (as_val (pen_bytes _ P (T :: l) _ HP2.out (by omega)) (congrArg Value.string HJ.out.symm)).mono ?_
        rintro e w8 ⟨rfl, b8⟩
        have HP8 := Lib.hid (HP2.out.below b8)
        have HB8 := Lib.hid (HB2.out.trans (b8.mono HB2.out.size))
        have HREL := Lib.hid (show ∀ bx, PenAt w8 P (T :: l) bx → ∃ (k' : Nat) (l : List ByteArray) (bad : Bool), k' ≤ n ∧ Value.int .i64 ((k : Int) + 1) = .int .i64 k' ∧ Value.string (Q ++ TS ++ TS) = .string ⟨(penL l).toArray⟩ ∧ Value.bool bx = .bool bad ∧ PenAt w8 P l bad ∧ total l ≤ 208 * k' ∧ Below w.heap.size w w8 from fun bx hp => ⟨k + 1, (T :: l), bx, by omega, by go_num, by rw [HJ.out], rfl, hp, HT2.out, HB8.out⟩)
        clear b8 HP2 HB2 HT2 HJ ht2 HB8
        go_wp2_with (fail)
        refine (pen_bad w8 P _ _ HP8.out).mono ?_
        rintro e w9 ⟨rfl, rfl⟩
        go_wp2
        go_roundw
        case rel => exact HREL.out _ HP8.out
        case measure => simp [intOf]; omega
    have k1 : (K == 1) = false := beq_eq_false_iff_ne.2 hK1
    have k2 : (K == 2) = false := beq_eq_false_iff_ne.2 hK2
    have k3 : (K == 3) = false := beq_eq_false_iff_ne.2 hK3
    have hTD : (⟨(digL D).toArray⟩ : ByteArray).size = 32 := by show (digL D).toArray.size = 32; rw [List.size_toArray, digL_length]
    have HJ := Lib.hid (HJ0.out (digL D))
    have HT2 := Lib.hid (show total (⟨#[]⟩ :: ⟨(digL D).toArray⟩ :: l) ≤ 208 * (k + 1) by
      have := HTOT.out
      simp only [total]
      rw [hTD]
      show 0 + (32 + total l) ≤ _
      omega)
    have hrD : wx.rangeAt X 5 (dgV D).toList := fun j v hj => by rw [HX5.out j, ← Array.getElem?_toList]; exact hj
    have HRD := Lib.hid hrD
    have HIL := Lib.hid (show (Try.prog.info? 29).map (·.size) = some (dgV D).toList.length by rw [Array.length_toList]; exact dgI D)
    clear hrD
    go_upto_region 14 with (first
      | (with_reducible refine wpList_load_mid rfl 29 _ rfl X 5 rfl (dgV D).toList (.array 32 5) HRD.out Try.underlying29 rfl HIL.out ?_)
      | (refine wpList_sliceOne rfl 54 29 (.tmp 39) rfl (some 40) rfl Try.underlying54 (dgV D) rfl (dgOne D) ?_))
    refine (pen_digest _ P l bad (HPX.out.below ((Below.refl _ _).alloc (Nat.le_refl _) (.cells (dgV D) 29))) (some ⟨wx.heap.size, 0, none⟩) 1 1 (fun _ => D) (by omega) (fun _ => ⟨wx.heap.size, 0, rfl, by omega, fun j hj i v hv => ?_⟩) (by have := HTOT.out; omega)).mono ?_
    · obtain rfl : j = 0 := by omega
      rw [cell_of_row _ _ _ _ _ _ (heap_alloc_new wx _), ← Array.getElem?_toList, ← hv]
      congr 1
      omega
    rintro e w4 ⟨rfl, p4, o4⟩
    rw [one_dig] at p4
    have hcd : ∀ j u, (bcells (digL D))[j]? = some u → w4.cell? ((⟨X, 5, none⟩ : Addr).add j) = some u := fun j u hj => by
      rw [Addr.add_lit]
      refine (o4.cell (a := ⟨X, 5 + j, none⟩) (by simp; omega) hXP).trans ?_
      rw [World.cell?_alloc_lt _ _ _ hXl, HX5.out j, ← Array.getElem?_toList, ← dig_cells]
      exact hj
    have hcv := run_text w4 ⟨X, 5, none⟩ 32 32 (digL D) (digL_length D).symm hcd
    have HB4 := Lib.hid (below_only (HBX.out.alloc hsx (.cells (dgV D) 29)) o4 hP (by simp; omega))
    have HP4 := Lib.hid p4
    clear p4 o4 hcd x0 x1 x2 x3 x4 HBX HPX HJ1 HJ2 HJ0 k1 k2 k3
    generalize (⟨(digL D).toArray⟩ : ByteArray) = TD at hTD HJ HT2 HP4 hcv
    have q1 : ¬ 9223372036854775807 < Q.size + TD.size := by have := HQS.out; have := HTOT.out; omega
    have ht4 : total (TD :: l) < 1099511627776 := by have := HT2.out; simp only [total] at this ⊢; omega
    have HT4 := Lib.hid ht4
    clear ht4 hTD
    go_upto_region 28 with (fail)
    refine (pen_digest w4 P (TD :: l) bad HP4.out none 0 0 (fun _ _ => 0) (by omega) (fun h => by omega) (by have := HT4.out; omega)).mono ?_
    rintro e w5 ⟨rfl, p5, o5⟩
    have HP2 := Lib.hid (show PenAt w5 P (⟨#[]⟩ :: TD :: l) bad from p5)
    have HB2 := Lib.hid (below_only HB4.out o5 hP HB4.out.size)
    clear p5 o5 HB4 HP4 hcv
    go_wp2_with (fail)
    have ht2 := HT2.out
    refine (as_val (pen_bytes _ P (⟨#[]⟩ :: TD :: l) _ HP2.out (by omega)) (congrArg Value.string HJ.out.symm)).mono ?_
    rintro e w8 ⟨rfl, b8⟩
    have HP8 := Lib.hid (HP2.out.below b8)
    have HB8 := Lib.hid (HB2.out.trans (b8.mono HB2.out.size))
    have HREL := Lib.hid (show ∀ bx, PenAt w8 P (⟨#[]⟩ :: TD :: l) bx → ∃ (k' : Nat) (l : List ByteArray) (bad : Bool), k' ≤ n ∧ Value.int .i64 ((k : Int) + 1) = .int .i64 k' ∧ Value.string (Q ++ TD) = .string ⟨(penL l).toArray⟩ ∧ Value.bool bx = .bool bad ∧ PenAt w8 P l bad ∧ total l ≤ 208 * k' ∧ Below w.heap.size w w8 from fun bx hp => ⟨k + 1, (⟨#[]⟩ :: TD :: l), bx, by omega, by go_num, by rw [HJ.out], rfl, hp, HT2.out, HB8.out⟩)
    clear b8 HP2 HB2 HT2 HJ ht2 HB8
    go_wp2_with (fail)
    refine (pen_bad w8 P _ _ HP8.out).mono ?_
    rintro e w9 ⟨rfl, rfl⟩
    go_wp2
    go_roundw
    case rel => exact HREL.out _ HP8.out
    case measure => simp [intOf]; omega
end Go.Proofs.Ytdadcpkkpopbcaa.penWrites
