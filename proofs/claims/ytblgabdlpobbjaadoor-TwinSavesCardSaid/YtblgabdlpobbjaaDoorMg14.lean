/-
  Proved: TwinSaves: when the power goes in a save, whatever is kept, there is the text that was, or the new one, each with its number; so life by life; longer inputs are let pass. Condition: both tables of sums lie as the program's text lays them.
-/
import Derived.Test.YtblgabdlpobbjaaDoorMg13
import Derived.Deep.LoopGhost
import Derived.Deep.CutBlock
import Derived.Deep.DeepCutAuto
set_option maxRecDepth 100000
namespace Go.Proofs.YtblgabdlpobbjaaDoor.twinSaves
open Go.ChangeShapes Go.WideShapes Go.ChangeAt Go.RowKit Pn Dk Sl Tw

theorem small (r : Int) : ∃ k : Nat, wrap64 ((IntKind.u64.wrap r).tmod 20) = (k : Int) ∧ k ≤ 19 := by
  have h1 : 0 ≤ IntKind.u64.wrap r := by rw [IntKind.wrap_u64]; omega
  have h2 := Int.emod_nonneg (IntKind.u64.wrap r) (show (20 : Int) ≠ 0 by decide)
  have h3 := Int.emod_lt_of_pos (IntKind.u64.wrap r) (show (0 : Int) < 20 by decide)
  rw [Int.tmod_eq_emod_of_nonneg h1, show wrap64 (IntKind.u64.wrap r % 20) = IntKind.u64.wrap r % 20 from IntWalk.wrap64_in _ (by omega)]
  exact ⟨(IntKind.u64.wrap r % 20).toNat, by omega, by omega⟩
def sBegin : ByteArray := ⟨#[98, 101, 103, 105, 110]⟩
def x0 : Dk.St := freshSt 20 fun _ => 0
theorem begins (w wr : World) (D Z T : Nat) (h1 : w.heap.size ≤ T) (h2 : ∀ z ∈ [(Z, zobj D 2 14)], z.1 ≠ T) (h3 : Zn w wr D ((x0.filled 2 (fun _ => 0) 14).placed 2 1 sBegin) [(T, tobj Z sBegin 1 0 false), (Z, zobj D 2 14)]) : Stands w wr D Z T ((x0.filled 2 (fun _ => 0) 14).placed 2 1 sBegin) sBegin 1 0 100 := by
  refine ⟨h3, h1, h2, (placed_away _ _ _ _).trans (filled_away _ _ _ _), placed_Fz _ _ _ _ ((St.Fz.of_none (x := x0) rfl).filled _ _ _), (placed_n _ _ _ _).trans (filled_n _ _ _ _), ?_, by decide, by decide, formatted (x := x0) (f := 2) (n := 14) (show x0.Full from rfl) (by decide) (by decide) (by decide) _ rfl⟩
  have h1 := placed_done (x0.filled 2 (fun _ => 0) 14) 2 1 sBegin
  have h2 := (filled_done x0 2 (fun _ => 0) 14).2
  have h3 : szN sBegin.size = 2 := by decide
  have h4 : x0.done = 0 := rfl
  omega
set_option maxRecDepth 100000 in
set_option maxHeartbeats 6400000 in
theorem walk (w : World) (A : Option Addr) (len cap : Nat) (B : Nat → Option Addr) (L C : Nat → Nat) (ss : Nat → Nat → ByteArray) (hlc : len ≤ cap) (hcm : cap ≤ maxLen)
    (hX : 0 < len → ∃ pb po, A = some ⟨pb, po, none⟩ ∧ ∀ k, k < len → w.cell? ⟨pb, po + k, none⟩ = some (.slice (B k) (L k) (C k)) ∧ L k ≤ C k ∧ C k ≤ maxLen ∧ (0 < L k → ∃ qb qo, B k = some ⟨qb, qo, none⟩ ∧ ∀ j, j < L k → w.cell? ⟨qb, qo + j, none⟩ = some (.string (ss k j))))
    (A1 : Option Addr) (flen fcap : Nat) (X : Nat → Int) (hfc : flen ≤ fcap) (hfm : fcap ≤ maxLen) (hF : 0 < flen → ∃ pb po, A1 = some ⟨pb, po, none⟩ ∧ ∀ k, k < flen → w.cell? ⟨pb, po + k, none⟩ = some (.int .i64 (X k)))
    (K : Option Addr) (klen kcap : Nat) (Y : Nat → Bool) (hkc : klen ≤ kcap) (hkm : kcap ≤ maxLen) (hY : 0 < klen → ∃ pb po, K = some ⟨pb, po, none⟩ ∧ ∀ k, k < klen → w.cell? ⟨pb, po + k, none⟩ = some (.bool (Y k))) (hT : Tabs w) :
    Calls Tryd.prog 3 #[.slice A len cap, .slice A1 flen fcap, .slice K klen kcap] w fun e w' => e = .returned (.bool true) ∧ Below w.heap.size w w' := by
  have HAW := Lib.hid (awake07 w hT)
  unfold maxLen at hcm hfm hkm
  have bl : (len : Int) ≤ 9223372036854775807 := by omega
  have bk : (klen : Int) ≤ 9223372036854775807 := by omega
  by_cases c1 : 6 < len
  · have t1 : decide ((6 : Int) < (len : Int)) = true := decide_eq_true (by omega)
    have t1' : (6 : Int) < (len : Int) := by omega
    go_enter Tryd.func3, Tryd.ntmps3
    go_wp2_with (fail)
    refine HAW.out.mono ?_
    rintro e w1 ⟨rfl, b1⟩
    have B1 := Lib.hid b1
    clear b1
    go_wp2_with (fail)
    exact bodyPost_ret (results_tmp rfl _ _ _) rfl ⟨rfl, B1.out⟩
  have t1 : decide ((6 : Int) < (len : Int)) = false := decide_eq_false (by omega)
  by_cases c2 : 50 < klen
  · have t2 : decide ((50 : Int) < (klen : Int)) = true := decide_eq_true (by omega)
    have t2' : (50 : Int) < (klen : Int) := by omega
    go_enter Tryd.func3, Tryd.ntmps3
    go_wp2_with (fail)
    refine HAW.out.mono ?_
    rintro e w1 ⟨rfl, b1⟩
    have B1 := Lib.hid b1
    clear b1
    go_wp2_with (fail)
    exact bodyPost_ret (results_tmp rfl _ _ _) rfl ⟨rfl, B1.out⟩
  have t2 : decide ((50 : Int) < (klen : Int)) = false := decide_eq_false (by omega)
  have HT := Lib.hid hT
  have HX := Lib.hid hX
  have HF := Lib.hid hF
  have HBS := Lib.hid (bools_at w K klen kcap Y hkc hY)
  have HKL := Lib.hid (show ((List.range klen).map Y).length ≤ 1099511627776 by rw [List.length_map, List.length_range]; omega)
  have h6 : len ≤ 6 := by omega
  have HB := Lib.hid (And.intro h6 (And.intro hlc (And.intro hfc hfm)))
  generalize (List.range klen).map Y = kl at HBS HKL
  clear hT hX hF hY c1 c2 hlc hcm hfc hfm hkc hkm h6
  go_enter Tryd.func3, Tryd.ntmps3
  go_wp2_with (fail)
  refine HAW.out.mono ?_
  rintro e w1 ⟨rfl, b1⟩
  have B1 := Lib.hid b1
  clear b1 HAW
  go_wp2_with (fail)
  clear t1 t2
  refine (at_new w w1 B1.out 20 20 (by omega)).mono ?_
  rintro e w2 ⟨D, rfl, h2⟩
  have H2 := Lib.hid (show Zn w w2 D x0 [] from Zn.of_at h2)
  clear h2 B1
  go_wp2_with (fail)
  refine (H2.out.news 2 14 (by decide) (by decide)).mono ?_
  rintro e w3 ⟨Z, rfl, h3⟩
  have H3 := Lib.hid h3
  clear h3 H2
  go_wp2_with (fail)
  refine (H3.out.formatOn (Z := Z) (f := 2) (n := 14) (List.mem_cons_self ..) HT.out rfl rfl (by decide) (by decide) (by decide) rfl sBegin (by decide) (by decide)).mono ?_
  rintro e w4 ⟨T, rfl, g1, g2, h4⟩
  have H4 := Lib.hid (begins w w4 D Z T g1 g2 h4)
  clear h4 H3 g1 g2
  go_wp2_with (fail)
  go_loopg [10, 12, 13, 14] 7 (fun gk vt vs vg vk wr => ∃ (k T g side : Nat) (s : ByteArray) (x : Dk.St), gk = 7 - k ∧ k ≤ len ∧ vk = .int .i64 (k : Int) ∧ vt = .pointer (some ⟨T, 0, none⟩) ∧ vs = .string s ∧ vg = .int .i64 (g : Int) ∧ Stands w wr D Z T x s g side (100 + 100 * k))
  case atStart => exact ⟨0, T, 1, 0, sBegin, _, rfl, Nat.zero_le _, rfl, rfl, rfl, rfl, H4.out⟩
  case round =>
    clear H4
    obtain ⟨k, T', g, side, s, x, hgk, hkl, rfl, rfl, rfl, rfl, hst⟩ := hrel
    have HST := Lib.hid hst
    have HGK := Lib.hid hgk
    clear hst hgk
    have x2 : 0 ≤ (k : Int) := by omega
    by_cases hlt : k < len
    · have x0' : (k : Int) < (len : Int) := by omega
      have x1 : decide ((k : Int) < (len : Int)) = true := decide_eq_true x0'
      go_upto_if 54 with (fail)
      go_cut [] (fun wx => ∃ y, Stands w wx D Z T' y s g side (100 + 100 * k))
      case first =>
        by_cases hfl : k < flen
        · have f0 : (k : Int) < (flen : Int) := by omega
          have f1 : decide ((k : Int) < (flen : Int)) = true := decide_eq_true f0
          obtain ⟨fb, fo, rfl, hfc⟩ := HF.out (by omega)
          have hck := hfc k hfl
          have cf := (World.cell?_of_block (w := w) (a := ⟨fb, fo + k, none⟩) (HST.out.zn.below.block fb (block_lt_of_cell hck))).trans hck
          obtain ⟨n, en, hn⟩ := small (X k)
          have HFU := Lib.hid (HST.out.zn.fuse HST.out.on n (by omega) (.slice K klen kcap) kl HKL.out HBS.out)
          have HNX := Lib.hid (fun (W : World) (hW : Zn w W D { x with fuse := some (n, kl) } [(T', tobj Z s g side false), (Z, zobj D 2 14)]) => (show ∃ y, Stands w W D Z T' y s g side (100 + 100 * k) from ⟨_, hW, HST.out.new, HST.out.ne, HST.out.on, fun l kl' e => by injection e with e; injection e with _ e; rw [← e]; exact HKL.out, HST.out.n, HST.out.done, HST.out.gen, HST.out.sd, ⟨HST.out.pair.apart, HST.out.pair.size, HST.out.pair.fits, HST.out.pair.one, HST.out.pair.loose, HST.out.pair.full, HST.out.pair.cur, HST.out.pair.old⟩⟩))
          clear hfc hck hn hfl
          generalize X k = xk at cf en
          go_wp2_with (fail)
          refine HFU.out.mono ?_
          rintro e w5 ⟨rfl, h5⟩
          have H5 := Lib.hid h5
          clear h5 HFU
          go_wp2_with (fail)
          go_meet
          exact HNX.out _ H5.out
        · have f0 : ¬ (k : Int) < (flen : Int) := by omega
          have f1 : decide ((k : Int) < (flen : Int)) = false := decide_eq_false f0
          go_wp2_with (fail)
          go_meet
          exact ⟨x, HST.out⟩
      case rest =>
        clear HST
        obtain ⟨y, hst⟩ := hcut
        have HST := Lib.hid hst
        clear hst
        obtain ⟨pb, po, rfl, hc⟩ := HX.out (by omega)
        obtain ⟨hck, hLC, hCm, hrow⟩ := hc k hlt
        have hpb : pb < w.heap.size := block_lt_of_cell hck
        have HCK := Lib.hid (show ∀ W : World, Below w.heap.size w W → W.cell? ⟨pb, po + k, none⟩ = some (.slice (B k) (L k) (C k)) from fun W hW => (World.cell?_of_block (w := w) (a := ⟨pb, po + k, none⟩) (hW.block pb hpb)).trans hck)
        have HRW := Lib.hid hrow
        have HLC := Lib.hid (And.intro hLC hCm)
        clear hc hck hLC hCm hrow
        generalize B k = Bk at HCK HRW
        generalize L k = lk at HCK HRW HLC
        generalize C k = Ck at HCK HLC
        generalize ss k = sk at HRW
        go_upto_block 2 with (fail)
        go_cut [12, 13, 15, 16, 17, 18] (fun vs vg vn vi v7 v8 wx => ∃ (g2 side2 : Nat) (s2 u2 : ByteArray) (y2 : Dk.St), vs = .string s2 ∧ vg = .int .i64 (g2 : Int) ∧ vn = .string u2 ∧ Life w wx D Z y2 s2 u2 g2 side2 (165 + 100 * k))
        case first =>
          go_wp2_with (fail)
          go_loopg [12, 13, 15, 16] 5 (fun ik vs vg vn vi wr => ∃ (i g side : Nat) (s : ByteArray) (x : Dk.St), ik = 5 - i ∧ i ≤ 4 ∧ vi = .int .i64 (i : Int) ∧ vs = .string s ∧ vg = .int .i64 (g : Int) ∧ vn = .string s ∧ Stands w wr D Z T' x s g side (100 + 100 * k + 13 * i))
          case atStart => exact ⟨0, g, side, s, y, rfl, Nat.zero_le _, rfl, rfl, rfl, rfl, HST.out⟩
          case round =>
            clear HST
            obtain ⟨i, g, side, s, x, hik, hi4, rfl, rfl, rfl, rfl, hst⟩ := hrel
            have HST := Lib.hid hst
            have HIK := Lib.hid hik
            have HBD := Lib.hid (show 100 + 100 * k + 13 * i ≤ 100000 by have := HB.out.1; omega)
            have ck := HCK.out _ hst.zn.below
            have y2 : 0 ≤ (i : Int) := by omega
            have gB : (g : Int) ≤ 100000 := by have := hst.gen; have := HBD.out; omega
            have gB0 : 0 ≤ (g : Int) := by omega
            clear hst hik
            by_cases h1 : i < lk
            · have y0 : (i : Int) < (lk : Int) := by omega
              have y1 : decide ((i : Int) < (lk : Int)) = true := decide_eq_true y0
              by_cases h2 : i < 4
              · have y3 : (i : Int) < 4 := by omega
                have y4 : decide ((i : Int) < 4) = true := decide_eq_true y3
                obtain ⟨qb, qo, rfl, hs⟩ := HRW.out (by omega)
                have hsi := hs i h1
                have cs := (World.cell?_of_block (w := w) (a := ⟨qb, qo + i, none⟩) (HST.out.zn.below.block qb (block_lt_of_cell hsi))).trans hsi
                clear hs hsi
                generalize sk i = u at cs
                by_cases h60 : 60 < u.size
                · have z0 : (60 : Int) < (u.size : Int) := by omega
                  have z1 : decide ((60 : Int) < (u.size : Int)) = true := decide_eq_true z0
                  go_wp2_with (fail)
                  refine bodyPost_ret (results_tmp rfl _ _ _) rfl ?_
                  exact ⟨rfl, HST.out.zn.below⟩
                · have z0 : ¬ (60 : Int) < (u.size : Int) := by omega
                  have z1 : decide ((60 : Int) < (u.size : Int)) = false := decide_eq_false z0
                  have HSV := Lib.hid (HST.out.save HT.out HBD.out u (by omega))
                  have HAG := Lib.hid (fun (W : World) y (h : Fell w W D Z T' y s u g side (100 + 100 * k + 13 * i + 13)) => h.again (by have := HB.out.1; omega) (by omega))
                  clear HST h60
                  go_wp2_with (fail)
                  refine HSV.out.mono ?_
                  rintro e w5 ⟨m, rfl, ⟨rfl, x', h5⟩ | ⟨rfl, y', h5⟩⟩
                  · have H5 := Lib.hid h5
                    clear h5 HSV HAG
                    go_wp2_with (fail)
                    go_roundg (5 - (i + 1))
                    case measure => have := HIK.out; omega
                    case rel => exact ⟨i + 1, g + 1, 1 - side, u, x', rfl, by omega, rfl, rfl, rfl, rfl, H5.out.mono (by omega)⟩
                  · have H5 := Lib.hid h5
                    have HA := Lib.hid (HAG.out w5 y' h5)
                    clear h5 HSV HAG
                    go_wp2_with (fail)
                    refine HA.out.mono ?_
                    rintro e w6 ⟨rfl, rfl⟩
                    go_wp2_with (fail)
                    go_meet
                    exact ⟨g, side, s, u, y', rfl, rfl, rfl, H5.out.life.mono (by omega)⟩
              · have y3 : ¬ (i : Int) < 4 := by omega
                have y4 : decide ((i : Int) < 4) = false := decide_eq_false y3
                go_wp2_with (fail)
                go_meet
                exact ⟨g, side, s, s, x, rfl, rfl, rfl, HST.out.life.mono (by omega)⟩
            · have y0 : ¬ (i : Int) < (lk : Int) := by omega
              have y1 : decide ((i : Int) < (lk : Int)) = false := decide_eq_false y0
              go_wp2_with (fail)
              go_meet
              exact ⟨g, side, s, s, x, rfl, rfl, rfl, HST.out.life.mono (by omega)⟩
        case rest =>
          obtain ⟨g2, side2, s2, u2, y2, rfl, rfl, rfl, hl⟩ := hcut
          have HL := Lib.hid hl
          clear hl HST HRW HCK
          go_wp2_with (fail)
          refine HL.out.cut.mono ?_
          rintro e w5 ⟨rfl, z, hz, hza⟩
          have HZ := Lib.hid (And.intro hz hza)
          clear hz hza HL
          go_wp2_with (fail)
          refine (HZ.out.1.come HZ.out.2).mono ?_
          rintro e w6 ⟨rfl, z', s3, g3, side3, h6, on6, _, pr6, wh⟩
          have H6 := Lib.hid (And.intro h6 (And.intro on6 pr6))
          have hgb := h6.gen
          have WH := Lib.hid wh
          clear h6 on6 pr6 HZ wh
          go_wp2_with (fail)
          refine (disk_done _ w6 D z' H6.out.1.zn.disk).mono ?_
          rintro e w7 ⟨rfl, rfl⟩
          go_wp2_with (fail)
          refine (H6.out.1.opens HT.out (by have := HB.out.1; omega) H6.out.2.1 H6.out.2.2).mono ?_
          rintro e w7 ⟨T3, rfl, h7⟩
          have H7 := Lib.hid h7
          have HDN := Lib.hid (disk_done _ w7 D z' h7.zn.disk)
          have HGN := Lib.hid (twin_gen w7 T3 Z g3 side3 s3 false (h7.zn.fix (T3, tobj Z s3 g3 side3 false) (by simp)))
          have HTX := Lib.hid (twin_text w7 T3 Z g3 side3 s3 false (h7.zn.fix (T3, tobj Z s3 g3 side3 false) (by simp)))
          have d1 : ((z'.done : Int) != (z'.done : Int)) = false := bne_self_eq_false _
          clear h7 H6
          go_wp2_with (fail)
          refine HDN.out.mono ?_
          rintro e w8 ⟨rfl, rfl⟩
          clear d1 HDN
          rcases WH.out with ⟨e1, e2⟩ | ⟨e1, e2⟩
          · subst e1 e2
            have q1 : ((g3 : Int) == (g3 : Int)) = true := beq_self_eq_true _
            have q2 : (s3.toList == s3.toList) = true := beq_self_eq_true _
            clear WH
            go_wp2_with (fail)
            refine HGN.out.mono ?_
            rintro e w8 ⟨rfl, rfl⟩
            go_wp2_with (fail)
            refine HTX.out.mono ?_
            rintro e w8 ⟨rfl, rfl⟩
            go_wp2_with (fail)
            go_roundg (7 - (k + 1))
            case measure => have := HGK.out; have := HB.out.1; omega
            case rel => exact ⟨k + 1, T3, g3, side3, s3, z', rfl, by omega, rfl, rfl, rfl, rfl, H7.out.mono (by omega)⟩
          · subst e1 e2
            have q1 : (((g2 + 1 : Nat) : Int) == (g2 : Int)) = false := beq_eq_false_iff_ne.2 (by omega)
            have q2 : (s3.toList != s3.toList) = false := bne_self_eq_false _
            have q3 : (g2 : Int) + 1 = ((g2 + 1 : Nat) : Int) := by omega
            have q4 := (wrap_nat (m := g2 + 1) (by have := HB.out.1; omega))
            have q5 := q4.1
            have q6 := q4.2
            have q7 : (((g2 + 1 : Nat) : Int) != ((g2 + 1 : Nat) : Int)) = false := bne_self_eq_false _
            obtain ⟨gi, hgi⟩ : ∃ gi : Int, ((g2 + 1 : Nat) : Int) = gi := ⟨_, rfl⟩
            rw [hgi] at q1 q3 q5 q6 q7 HGN
            have HGI := Lib.hid hgi
            clear WH q4 hgb hgi
            go_wp2_with (fail)
            refine HGN.out.mono ?_
            rintro e w8 ⟨rfl, rfl⟩
            go_wp2_with (fail)
            refine HGN.out.mono ?_
            rintro e w8 ⟨rfl, rfl⟩
            go_wp2_with (fail)
            refine HTX.out.mono ?_
            rintro e w8 ⟨rfl, rfl⟩
            go_wp2_with (fail)
            go_roundg (7 - (k + 1))
            case measure => have := HGK.out; have := HB.out.1; omega
            case rel => exact ⟨k + 1, T3, g2 + 1, side3, s3, z', rfl, by omega, rfl, rfl, rfl, by rw [HGI.out], H7.out.mono (by omega)⟩
    · have x0' : ¬ (k : Int) < (len : Int) := by omega
      have x1 : decide ((k : Int) < (len : Int)) = false := decide_eq_false x0'
      go_wp2_with (fail)
      refine bodyPost_ret (results_tmp rfl _ _ _) rfl ?_
      exact ⟨rfl, HST.out.zn.below⟩
end Go.Proofs.YtblgabdlpobbjaaDoor.twinSaves
