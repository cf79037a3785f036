/-
  Proved: TwinTurns: of any texts, saved one behind the other, each is in the other copy, and the one ahead of it is there still; longer texts are let pass. Condition: both tables of sums lie as the program's text lays them.
-/
import Derived.Test.YtblgabdlpobbjaaDoorMg13
import Derived.Deep.LoopGhost
import Derived.Deep.CutBlock
import Derived.Deep.DeepCutAuto
import Derived.Deep.OwnRows
import Derived.Deep.RegionWith
set_option maxRecDepth 100000
namespace Go.Proofs.YtblgabdlpobbjaaDoor.twinTurns
open Go.ChangeShapes Go.WideShapes Go.ChangeAt Go.RowKit Pn Dk Sl Tw

def sNone : ByteArray := ⟨#[]⟩
def x0 : Dk.St := freshSt 12 fun _ => 0
theorem begins (w wr : World) (D Z T : Nat) (h1 : w.heap.size ≤ T) (h2 : ∀ z ∈ [(Z, zobj D 0 12)], z.1 ≠ T) (h3 : Zn w wr D ((x0.filled 0 (fun _ => 0) 12).placed 0 1 sNone) [(T, tobj Z sNone 1 0 false), (Z, zobj D 0 12)]) : Turn w wr D Z T ((x0.filled 0 (fun _ => 0) 12).placed 0 1 sNone) sNone 1 0 100 := by
  refine ⟨h3, h1, h2, (placed_away _ _ _ _).trans (filled_away _ _ _ _), placed_fuse _ _ _ _ (filled_fuse x0 _ _ rfl _), (placed_n _ _ _ _).trans (filled_n _ _ _ _), ?_, by decide, by decide, formatted (x := x0) (f := 0) (n := 12) (show x0.Full from rfl) (by decide) (by decide) (by decide) _ rfl⟩
  have h1 := placed_done (x0.filled 0 (fun _ => 0) 12) 0 1 sNone
  have h2 := (filled_done x0 0 (fun _ => 0) 12).2
  have h3 : szN sNone.size = 2 := by decide
  have h4 : x0.done = 0 := rfl
  omega
theorem made_zeros : madeCells #[Value.int .u8 0] 32 = (((List.range 32).map fun _ => (0 : UInt8)).map fun b => Value.int .u8 (b.toNat : Int)).toArray := by
  refine Array.ext (by simp [madeCells]) fun i h1 h2 => ?_
  simp [madeCells, Nat.mod_one]
theorem made_text (W V : World) (h : V.heap[W.heap.size]? = some (.cells (madeCells #[.int .u8 0] 32) 5 (0, 0))) :
    (convert 46 9 (.slice (some ⟨W.heap.size, 0, none⟩) 32 32)).run Tryd.prog V = .ok (.string (secS fun _ => 0)) V := by
  refine run_textK V _ 32 32 ((List.range 32).map fun _ => (0 : UInt8)) (by simp) fun j u hj => ?_
  rw [Addr.add_lit, Nat.zero_add, cell_of_row _ _ _ _ _ _ h, ← hj, made_zeros]
  exact List.getElem?_toArray
set_option maxRecDepth 100000 in
set_option maxHeartbeats 6400000 in
theorem walk (w : World) (A : Option Addr) (len cap : Nat) (ss : Nat → ByteArray) (hlc : len ≤ cap) (hcm : cap ≤ maxLen) (hX : 0 < len → ∃ pb po, A = some ⟨pb, po, none⟩ ∧ ∀ k, k < len → w.cell? ⟨pb, po + k, none⟩ = some (.string (ss k))) (hT : Tabs w) :
    Calls Tryd.prog 4 #[.slice A len cap] w fun e w' => e = .returned (.bool true) ∧ Below w.heap.size w w' := by
  have HAW := Lib.hid (awake07 w hT)
  unfold maxLen at hcm
  have bl : (len : Int) ≤ 9223372036854775807 := by omega
  have HT := Lib.hid hT
  have HX := Lib.hid hX
  clear hT hX hlc hcm
  go_enter Tryd.func4, Tryd.ntmps4
  go_wp2_with (fail)
  refine HAW.out.mono ?_
  rintro e w1 ⟨rfl, b1⟩
  have B1 := Lib.hid b1
  clear b1 HAW
  go_wp2_with (fail)
  refine (at_new w w1 B1.out 12 12 (by omega)).mono ?_
  rintro e w2 ⟨D, rfl, h2⟩
  have H2 := Lib.hid (show Zn w w2 D x0 [] from Zn.of_at h2)
  clear h2 B1
  go_wp2_with (fail)
  refine (H2.out.news 0 12 (by decide) (by decide)).mono ?_
  rintro e w3 ⟨Z, rfl, h3⟩
  have H3 := Lib.hid h3
  clear h3 H2
  go_wp2_with (fail)
  refine (H3.out.formatOn (Z := Z) (f := 0) (n := 12) (List.mem_cons_self ..) HT.out rfl rfl (by decide) (by decide) (by decide) rfl sNone (by decide) (by decide)).mono ?_
  rintro e w4 ⟨T, rfl, g1, g2, h4⟩
  have H4 := Lib.hid (begins w w4 D Z T g1 g2 h4)
  clear h4 H3 g1 g2
  go_wp2_with (fail)
  go_loopg [8, 9] 21 (fun gk vl vi wr => ∃ (i : Nat) (s : ByteArray) (x : Dk.St), gk = 21 - i ∧ i ≤ 20 ∧ vi = .int .i64 (i : Int) ∧ vl = .string s ∧ Turn w wr D Z T x s (i + 1) (i % 2) (100 + 15 * i))
  case atStart => exact ⟨0, sNone, _, rfl, Nat.zero_le _, rfl, rfl, H4.out⟩
  case round =>
    clear H4
    obtain ⟨i, s, x, hgk, hi20, rfl, rfl, hst⟩ := hrel
    have HST := Lib.hid hst
    have HGK := Lib.hid hgk
    clear hst hgk
    have y2 : 0 ≤ (i : Int) := by omega
    by_cases h1 : i < len
    · have y0 : (i : Int) < (len : Int) := by omega
      have y1 : decide ((i : Int) < (len : Int)) = true := decide_eq_true y0
      by_cases h2 : i < 20
      · have y3 : (i : Int) < 20 := by omega
        have y4 : decide ((i : Int) < 20) = true := decide_eq_true y3
        obtain ⟨pb, po, rfl, hc⟩ := HX.out (by omega)
        have hci := hc i h1
        have HCI := Lib.hid (show ∀ W : World, Below w.heap.size w W → W.cell? ⟨pb, po + i, none⟩ = some (.string (ss i)) from fun W hW => (World.cell?_of_block (w := w) (a := ⟨pb, po + i, none⟩) (hW.block pb (block_lt_of_cell hci))).trans hci)
        clear hc hci
        generalize ss i = u at HCI
        have cs := HCI.out _ HST.out.zn.below
        by_cases h60 : 60 < u.size
        · have z0 : (60 : Int) < (u.size : Int) := by omega
          have z1 : decide ((60 : Int) < (u.size : Int)) = true := decide_eq_true z0
          go_wp2_with (fail)
          refine bodyPost_ret (results_tmp rfl _ _ _) rfl ?_
          exact ⟨rfl, HST.out.zn.below⟩
        · have z0 : ¬ (60 : Int) < (u.size : Int) := by omega
          have z1 : decide ((60 : Int) < (u.size : Int)) = false := decide_eq_false z0
          have HSV := Lib.hid (show Calls Tryd.prog 10 #[.pointer (some ⟨T, 0, none⟩), .string u] wr.drew fun e w' => e = .returned (.int .i64 0) ∧ ∃ y, Turn w w' D Z T y u (i + 1 + 1) (1 - i % 2) (100 + 15 * i + 12) ∧ Whole y.now (0 + i % 2 * 6) s (i + 1) from (HST.out.step (below_drewN (Below.refl _ _) 1)).save HT.out (by omega) u (by omega))
          have HGN := Lib.hid (fun (W : World) y (h : Turn w W D Z T y u (i + 1 + 1) (1 - i % 2) (100 + 15 * i + 12)) => twin_gen W T Z (i + 1 + 1) (1 - i % 2) u false h.tfix)
          have HSD := Lib.hid (fun (W : World) y (h : Turn w W D Z T y u (i + 1 + 1) (1 - i % 2) (100 + 15 * i + 12)) => twin_side W T Z (i + 1 + 1) (1 - i % 2) u false h.tfix)
          have HTX := Lib.hid (fun (W : World) y (h : Turn w W D Z T y u (i + 1 + 1) (1 - i % 2) (100 + 15 * i + 12)) => twin_text W T Z (i + 1 + 1) (1 - i % 2) u false h.tfix)
          clear h60
          go_upto_region 16 with (fail)
          have s1 : ((i + 1 + 1 : Nat) : Int) = (i : Int) + 2 := by omega
          have s2 : wrap64 ((i : Int) + 2) = (i : Int) + 2 := IntWalk.wrap64_in _ (by omega)
          have s3 : IntKind.i64.wrap ((i : Int) + 2) = (i : Int) + 2 := IntWalk.i64_in _ (by omega)
          have s4 : IntKind.i64.wrap ((i : Int) + 1) = (i : Int) + 1 := IntWalk.i64_in _ (by omega)
          have s5 : ((i : Int) + 1).tmod 2 = ((1 - i % 2 : Nat) : Int) := by rw [Int.tmod_eq_emod_of_nonneg (by omega)]; omega
          have s6 : ((i : Int) + 1) % 2 = ((1 - i % 2 : Nat) : Int) := by omega
          have s7 : IntKind.i64.wrap ((1 - i % 2 : Nat) : Int) = ((1 - i % 2 : Nat) : Int) := IntWalk.i64_in _ (by omega)
          have s8 : ((i : Int) + 2 != (i : Int) + 2) = false := bne_self_eq_false _
          have s9 : (((1 - i % 2 : Nat) : Int) != ((1 - i % 2 : Nat) : Int)) = false := bne_self_eq_false _
          have sa : (u.toList != u.toList) = false := bne_self_eq_false _
          rw [s1] at HGN
          clear s1
          generalize ((1 - i % 2 : Nat) : Int) = kd at HSD s5 s6 s7 s9
          have cd : wr.drew.cell? ⟨pb, po + i, none⟩ = some (.string u) := cs
          go_region_held3 (fun W : World => W.cell? ⟨pb, po + i, none⟩ = some (.string u)) (first | exact cd | assumption) (first
            | (go_at_call 10; (with_reducible refine HSV.out.mono ?_); rintro e w5 ⟨rfl, h5⟩; have H5 := Lib.hid h5; have hs : w5.cell? ⟨pb, po + i, none⟩ = some (.string u) := (by obtain ⟨y, h5, _⟩ := h5; exact HCI.out _ h5.zn.below); clear h5)
            | (go_at_call 15; obtain ⟨y5, h5, _⟩ := H5.out; (with_reducible refine (HGN.out _ y5 h5).mono ?_); rintro e w6 ⟨rfl, rfl⟩; clear h5)
            | (go_at_call 17; obtain ⟨y5, h5, _⟩ := H5.out; (with_reducible refine (HSD.out _ y5 h5).mono ?_); rintro e w6 ⟨rfl, rfl⟩; clear h5)
            | (go_at_call 16; obtain ⟨y5, h5, _⟩ := H5.out; (with_reducible refine (HTX.out _ y5 h5).mono ?_); rintro e w6 ⟨rfl, rfl⟩; clear h5))
          obtain ⟨y5, h5, hw5⟩ := H5.out
          have H5 := Lib.hid h5
          have HW5 := Lib.hid hw5
          have HS := Lib.hid (And.intro HST.out.pair.size HST.out.pair.fits)
          clear h5 hw5 HSV HGN HSD HTX cs cd HST s2 s3 s4 s5 s6 s7 s8 s9 sa
          go_wp2_with (fail)
          refine (disk_image _ _ D y5 H5.out.zn.disk).mono ?_
          rintro e w6 ⟨rfl, b6⟩
          rw [H5.out.n]
          have H6 := Lib.hid (H5.out.step b6)
          clear b6 H5
          go_wp2_with (fail)
          refine (disk_Of (fun i => w6.heap.size ≤ i) w6 (imgS 12 y5.safe) 12 (by rw [imgS_size]; rfl) (by rw [imgS_size]; decide) (fun _ h => h)).mono ?_
          rintro e w7 ⟨D2, rfl, _, h7, b7⟩
          have Q7 := Lib.hid (show Zn w6 w7 D2 (freshSt 12 (bs (imgS 12 y5.safe))) [] from Zn.of_at ⟨h7, b7⟩)
          clear h7 b7
          go_wp2_with (fail)
          refine (Q7.out.news 0 12 (by decide) (Nat.le_refl _)).mono ?_
          rintro e w8 ⟨Z2, rfl, h8⟩
          have Q8 := Lib.hid h8
          clear h8 Q7
          go_upto_region 20 with (fail)
          have hsd := H6.out.sd
          have q8d := Lib.hid (show Zn w6 w8.drew D2 (freshSt 12 (bs (imgS 12 y5.safe))) [(Z2, zobj D2 0 12)] from Q8.out.drewN 1)
          have q8a := Lib.hid (show Zn w6 (w8.alloc (.cells (madeCells #[.int .u8 0] 32) 5)).drew D2 (freshSt 12 (bs (imgS 12 y5.safe))) [(Z2, zobj D2 0 12)] from (Q8.out.step ((Below.refl _ _).alloc (Nat.le_refl _) _)).drewN 1)
          have hmk : (Instr.makeSlice 46 (.int .i64 32) (.int .i64 32)).run Tryd.prog w8.drew = .ok (.slice (some ⟨w8.drew.heap.size, 0, none⟩) 32 32) (w8.drew.alloc (.cells (madeCells #[.int .u8 0] 32) 5)) := run_make_row' (P := Tryd.prog) 46 5 (.int .u8 0) 1 Tryd.underlying46 infoU rfl .i64 .i64 32 (by decide) (by decide) w8.drew
          have hcv := made_text w8 (w8.alloc (.cells (madeCells #[.int .u8 0] 32) 5)).drew (heap_alloc_new w8 _)
          have hcv2 := made_text w8 (w8.alloc (.cells (madeCells #[.int .u8 0] 32) 5)) (heap_alloc_new w8 _)
          have hcv3 := made_text w8.drew (w8.drew.alloc (.cells (madeCells #[.int .u8 0] 32) 5)) (heap_alloc_new w8.drew _)
          have hcv4 := made_text w8 (w8.drew.alloc (.cells (madeCells #[.int .u8 0] 32) 5)) (heap_alloc_new w8.drew _)
          have HSD := Lib.hid (fun (W : World) (h : Zn w6 W D2 (freshSt 12 (bs (imgS 12 y5.safe))) [(Z2, zobj D2 0 12)]) => twin_side W T Z (i + 1 + 1) (1 - i % 2) u false (H6.out.step h.below).tfix)
          have hp6 : (1 - i % 2) * 6 < 12 := by omega
          have HWR := Lib.hid (fun (W : World) (h : Zn w6 W D2 (freshSt 12 (bs (imgS 12 y5.safe))) [(Z2, zobj D2 0 12)]) => (h.write (Z := Z2) (f := 0) (n := 12) (List.mem_cons_self ..) rfl rfl (Nat.zero_le _) (by show 0 < 4611686018427387904; decide) (Nat.le_refl _) ((1 - i % 2) * 6) hp6 (secS fun _ => 0) (secS_size _)))
          have m1 : 6 * ((1 - i % 2 : Nat) : Int) = (((1 - i % 2) * 6 : Nat) : Int) := by omega
          have m2 : wrap64 (((1 - i % 2) * 6 : Nat) : Int) = (((1 - i % 2) * 6 : Nat) : Int) := IntWalk.wrap64_in _ (by omega)
          have m3 : IntKind.i64.wrap (((1 - i % 2) * 6 : Nat) : Int) = (((1 - i % 2) * 6 : Nat) : Int) := IntWalk.i64_in _ (by omega)
          have HWO := Lib.hid (show ∀ W, Zn w6 W D2 ((freshSt 12 (bs (imgS 12 y5.safe))).burnt.put (0 + (1 - i % 2) * 6) (bs (secS fun _ => 0))) [(Z2, zobj D2 0 12)] → Zn w6 W D2 (without 12 (0 + (1 - i % 2) * 6) y5.safe) [(Z2, zobj D2 0 12)] from fun W h => h)
          clear hsd hp6
          generalize hgm : (((1 - i % 2) * 6 : Nat) : Int) = mm at m1 m2 m3 HWR
          generalize hgk : ((1 - i % 2 : Nat) : Int) = kd at m1 HSD
          clear hgm hgk
          generalize (secS fun _ => 0) = zs at hcv hcv2 hcv3 hcv4 HWR HWO
          go_cut [98] (fun v wx => v = .bool false ∧ Zn w6 wx D2 (without 12 (0 + (1 - i % 2) * 6) y5.safe) [(Z2, zobj D2 0 12)])
          case first =>
            go_region_with (first
              | (go_at_call 17; (first | (with_reducible refine (HSD.out _ q8d.out).mono ?_) | (with_reducible refine (HSD.out _ q8a.out).mono ?_)); rintro e w9 ⟨rfl, rfl⟩)
              | (go_at_call 20; (with_reducible refine (HWR.out _ q8a.out).mono ?_); rintro e w9 ⟨rfl, h9⟩; have Q9 := Lib.hid h9; clear h9))
            all_goals (try go_wp2_with (fail))
            all_goals go_meet
            all_goals exact ⟨rfl, HWO.out _ Q9.out⟩
          case rest =>
            obtain ⟨rfl, h9⟩ := hcut
            have Q9 := Lib.hid h9
            clear h9 hmk hcv hcv2 hcv3 hcv4 HSD HWR HWO m1 m2 m3 q8d q8a Q8
            go_wp2_with (fail)
            have hac : acc (without 12 (0 + (1 - i % 2) * 6) y5.safe) 0 12 2 = (s, i + 1, i % 2) := by
              have h := H6.out.pair
              rw [show 1 - (1 - i % 2) = i % 2 by omega] at h
              exact without_opens h HW5.out HS.out.1 HS.out.2 (by omega) (by omega) (by omega) (by omega) rfl rfl rfl
            refine (Q9.out.open_ (Z := Z2) (f := 0) (n := 12) (List.mem_cons_self ..) (H6.out.zn.tabs HT.out) rfl (Nat.le_refl _) rfl).mono ?_
            rw [hac]
            rintro e w10 (⟨h0, _⟩ | ⟨T2, _, rfl, _, _, h10⟩)
            · simp only at h0
              omega
            have Q10 := Lib.hid h10
            have HTX := Lib.hid (twin_text w10 T2 Z2 (i + 1) (i % 2) s false (h10.fix (T2, tobj Z2 s (i + 1) (i % 2) false) (by simp)))
            have HGN := Lib.hid (twin_gen w10 T2 Z2 (i + 1) (i % 2) s false (h10.fix (T2, tobj Z2 s (i + 1) (i % 2) false) (by simp)))
            have H10 := Lib.hid (H6.out.step h10.below)
            have ce := HCI.out _ H10.out.zn.below
            clear h10 Q9 hac HW5 H6 HS
            have s1 : ((i + 1 : Nat) : Int) = (i : Int) + 1 := by omega
            rw [s1] at HGN
            clear s1
            have s2 : wrap64 ((i : Int) + 1) = (i : Int) + 1 := IntWalk.wrap64_in _ (by omega)
            have s3 : IntKind.i64.wrap ((i : Int) + 1) = (i : Int) + 1 := IntWalk.i64_in _ (by omega)
            have s8 : ((i : Int) + 1 != (i : Int) + 1) = false := bne_self_eq_false _
            have sa : (s.toList != s.toList) = false := bne_self_eq_false _
            go_wp2_with (fail)
            refine HTX.out.mono ?_
            rintro e w11 ⟨rfl, rfl⟩
            go_wp2_with (fail)
            refine HGN.out.mono ?_
            rintro e w11 ⟨rfl, rfl⟩
            go_wp2_with (fail)
            go_roundg (21 - (i + 1))
            case measure => have := HGK.out; omega
            case rel =>
              have h := H10.out.mono (C := 100 + 15 * (i + 1)) (by omega)
              rw [show 1 - i % 2 = (i + 1) % 2 by omega] at h
              exact ⟨i + 1, u, y5, rfl, by omega, rfl, rfl, h⟩
      · have y3 : ¬ (i : Int) < 20 := by omega
        have y4 : decide ((i : Int) < 20) = false := decide_eq_false y3
        go_wp2_with (fail)
        refine bodyPost_ret (results_tmp rfl _ _ _) rfl ?_
        exact ⟨rfl, HST.out.zn.below⟩
    · have y0 : ¬ (i : Int) < (len : Int) := by omega
      have y1 : decide ((i : Int) < (len : Int)) = false := decide_eq_false y0
      go_wp2_with (fail)
      refine bodyPost_ret (results_tmp rfl _ _ _) rfl ?_
      exact ⟨rfl, HST.out.zn.below⟩
end Go.Proofs.YtblgabdlpobbjaaDoor.twinTurns
