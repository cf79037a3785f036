/-
  BitsExact: of every row of deeds each answer, and what is there, is the document's. The walk. Conditions: none.
-/
import Derived.Test.YtmihladhopjloaaBtEx08M
import Derived.Deep.LoopGhost
import Derived.Deep.CutBlock
import Derived.Deep.DeepCutAuto
import Derived.StillTailTactics
namespace Go.Proofs.Ytmihladhopjloaa
open Go.ChangeShapes Go.WideShapes Go.ChangeAt Go.RowKit Bt

namespace bitsExact
theorem h3row {w wr : World} {b G n : Nat} {u v : Nat → Bool} (h : Ex w wr b G n u v) {j : Nat} (hj : j < n) : wr.cell? ⟨G, j, none⟩ = some (.bool (v j)) := h.row.cell hj
set_option maxRecDepth 100000 in
set_option maxHeartbeats 6400000 in
theorem walk (x : Int) (A : Option Addr) (len cap : Nat) (K : Nat → Int) (B : Nat → Option Addr) (L C : Nat → Nat) (xs : Nat → Nat → Int) (w : World)
    (hA : 0 < len → ∃ pb po, A = some ⟨pb, po, none⟩ ∧ ∀ i, i < len → Deed w pb (po + i * 2) (K i) (B i) (L i) (C i) (xs i)) :
    Calls Try.prog 3 #[.int .i64 x, .slice A len cap] w fun e w' => e = .returned (.bool true) ∧ Below w.heap.size w w' := by
  have HA := Lib.hid hA
  have HAW := Lib.hid (awake8 w)
  clear hA
  by_cases hx : x < 1 ∨ 1024 < x
  · have HN := Lib.hid (fun W => bits_new_not W x hx)
    by_cases hx1 : x < 1
    · have y1 : decide (x < 1) = true := decide_eq_true hx1
      clear hx
      go_enter Try.func3, Try.ntmps3
      go_wp2_with (fail)
      refine HAW.out.mono ?_
      rintro e w1 ⟨rfl, hb1⟩
      go_wp2_with (fail)
      refine (HN.out w1).mono ?_
      rintro e w2 ⟨rfl, rfl⟩
      go_wp2_with (fail)
      refine bodyPost_ret (results_tmp rfl _ _ _) rfl ?_
      exact ⟨rfl, hb1⟩
    · have y1 : decide (x < 1) = false := decide_eq_false hx1
      have hx2 : 1024 < x := by omega
      have y2 : decide (1024 < x) = true := decide_eq_true hx2
      clear hx
      go_enter Try.func3, Try.ntmps3
      go_wp2_with (fail)
      refine HAW.out.mono ?_
      rintro e w1 ⟨rfl, hb1⟩
      go_wp2_with (fail)
      refine (HN.out w1).mono ?_
      rintro e w2 ⟨rfl, rfl⟩
      go_wp2_with (fail)
      refine bodyPost_ret (results_tmp rfl _ _ _) rfl ?_
      exact ⟨rfl, hb1⟩
  obtain ⟨n, rfl⟩ : ∃ n : Nat, x = (n : Int) := ⟨x.toNat, by omega⟩
  have hn1 : 1 ≤ n := by omega
  have hn2 : n ≤ 1024 := by omega
  have y0 : ¬ (n : Int) < 1 := by omega
  have y1 : decide ((n : Int) < 1) = false := decide_eq_false y0
  have y2 : ¬ 1024 < (n : Int) := by omega
  have y3 : decide (1024 < (n : Int)) = false := decide_eq_false y2
  obtain ⟨i0, hi, hz0, hz1, hz2⟩ := info_parts info_boolE
  have HI := Lib.hid hi
  have HZ0 := Lib.hid hz0
  have HZ1 := Lib.hid hz1
  have HZ2 := Lib.hid hz2
  clear hx hi hz0 hz1 hz2
  go_enter Try.func3, Try.ntmps3
  go_wp2_with (fail)
  refine HAW.out.mono ?_
  rintro e w1 ⟨rfl, hb1⟩
  have HN := Lib.hid (newSet (n := n) hb1 hn1 hn2)
  clear HAW hb1
  go_wp2_with (fail)
  refine HN.out.mono ?_
  rintro e w2 ⟨b, rfl, _, h2, _⟩
  have H2 := Lib.hid (show Ex w (w2.alloc (.cells (madeCells #[.bool false] n) 4)) b w2.heap.size n (fun _ => false) (fun _ => false) from ⟨h2.alloc _, World.rowIs_made w2 (.bool false) n 4, h2.size, by have := h2.lt; omega⟩)
  clear h2 HN
  go_upto_block 0 with (at_make; refine wpList_make_row _ rfl _ _ 26 rfl 4 i0 (.bool false) Try.underlying26 HI.out HZ0.out HZ1.out rfl .i64 .i64 n rfl rfl (by rw [HZ2.out]; omega) (by omega) ?_)
  generalize w2.heap.size = G at H2 ⊢
  go_cut [7, 8, 9, 10, 11, 12, 13] (fun _ _ _ _ _ _ _ wx => ∃ u, Low n u ∧ Ex w wx b G n u u)
  case first =>
    go_wp2_with (fail)
    go_loopg [7] 41 (fun gk vi wr => ∃ (i : Nat) (u : Nat → Bool), gk = 41 - i ∧ i ≤ 40 ∧ vi = .int .i64 (i : Int) ∧ Low n u ∧ Ex w wr b G n u u)
    case atStart => exact ⟨0, _, rfl, by omega, rfl, Low.none n, H2.out⟩
    case round =>
      clear H2
      obtain ⟨i, u, hgk, hi, rfl, hlow, h⟩ := hrel
      have HGK := Lib.hid hgk
      have HLOW := Lib.hid hlow
      have H := Lib.hid h
      clear hgk hlow h
      have i0' : 0 ≤ (i : Int) := by omega
      by_cases hlt : i < len ∧ i < 40
      · have x0 : (i : Int) < (len : Int) := by omega
        have x1 : decide ((i : Int) < (len : Int)) = true := decide_eq_true x0
        have z0 : (i : Int) < 40 := by omega
        have z1 : decide ((i : Int) < 40) = true := decide_eq_true z0
        obtain ⟨pb, po, rfl, hc⟩ := HA.out (by omega)
        have HD := Lib.hid (hc i hlt.1)
        have hpl := block_lt_of_cell HD.out.kind
        have ck := (H.out.s.below.cell (p := ⟨pb, po + i * 2, none⟩) hpl).trans HD.out.kind
        have cl := (H.out.s.below.cell (p := ⟨pb, po + i * 2 + 1, none⟩) hpl).trans HD.out.list
        generalize K i = Ki at ck HD
        generalize B i = Bi at cl HD
        generalize L i = Li at cl HD
        generalize C i = Ci at cl HD
        generalize xs i = xi at HD
        have HI2 := Lib.hid hlt.2
        clear hc hlt hpl
        go_upto_region 11 with (fail)
        have HIT := Lib.hid (show It w (wr.alloc (.cells #[.int .i64 Ki, .slice Bi Li Ci] 29)) b G n u u wr.heap.size Ki Bi Li Ci from
          ⟨H.out.alloc _, heap_alloc_new wr _, by have := H.out.s.lt; omega, by have := H.out.row.lt; omega⟩)
        have HNB := Lib.hid (show 0 < Li → ∀ a, Bi = some a → a.block ≠ b from fun h0 a ha => by
          obtain ⟨qb, qo, e, hq⟩ := HD.out.ints h0
          rw [ha] at e
          injection e with e
          have h1 := block_lt_of_cell (hq 0 h0)
          have h2 := H.out.s.new
          rw [e]
          show qb ≠ b
          have h3 : qb < w.heap.size := h1
          omega)
        have HIX := Lib.hid HD.out.ints
        clear H ck cl HD
        generalize wr.heap.size = X at HIT ⊢
        generalize wr.alloc (.cells #[.int .i64 Ki, .slice Bi Li Ci] 29) = w3 at HIT ⊢
        have d1 := HIT.out.c1
        by_cases h10 : 10 < Li
        · have k0 : (10 : Int) < (Li : Int) := by omega
          have k1 : decide ((10 : Int) < (Li : Int)) = true := decide_eq_true k0
          go_wp2_with (fail)
          refine bodyPost_ret (results_tmp rfl _ _ _) rfl ?_
          exact ⟨rfl, HIT.out.ex.s.below⟩
        have k0 : ¬ (10 : Int) < (Li : Int) := by omega
        have k1 : decide ((10 : Int) < (Li : Int)) = false := decide_eq_false k0
        have d0 := HIT.out.c0
        have HL10 := Lib.hid h10
        clear h10
        go_upto_if 54 with (fail)
        go_cut [9] (fun ve wx => ve = .int .i64 (chk n xi Li) ∧ It w wx b G n (deed n (Ki != 3) u xi Li) u X Ki Bi Li Ci)
        case first =>
          by_cases h3 : Ki = 3
          · have q1 : (Ki == 3) = true := beq_iff_eq.2 h3
            have HQ := Lib.hid (show (Ki != 3) = false by rw [bne, q1]; rfl)
            have HDR := Lib.hid (HIT.out.drop hn2 xi (by have := HL10.out; omega) HIX.out HNB.out)
            clear HIT h3
            go_wp2_with (fail)
            refine HDR.out.mono ?_
            rintro e w4 ⟨rfl, h4⟩
            have H4 := Lib.hid h4
            clear h4
            go_wp2_with (fail)
            go_meet
            rw [HQ.out]
            exact ⟨rfl, H4.out⟩
          · have q1 : (Ki == 3) = false := beq_eq_false_iff_ne.2 h3
            have HQ := Lib.hid (show (Ki != 3) = true by rw [bne, q1]; rfl)
            have HDR := Lib.hid (HIT.out.add hn2 xi (by have := HL10.out; omega) HIX.out HNB.out)
            clear HIT h3
            go_wp2_with (fail)
            refine HDR.out.mono ?_
            rintro e w4 ⟨rfl, h4⟩
            have H4 := Lib.hid h4
            clear h4
            go_wp2_with (fail)
            go_meet
            rw [HQ.out]
            exact ⟨rfl, H4.out⟩
        case rest =>
          clear HIT d0 d1
          obtain ⟨rfl, hit⟩ := hcut
          have HIT := Lib.hid hit
          have HIN := Lib.hid (ref8_in wc n Bi Li Ci xi (by have := HL10.out; omega) (HIX.out.below hit.ex.s.below))
          have d1 := hit.c1
          clear hit
          generalize hvb : (Ki != 3) = vb at HIT
          cases hin : allIn n xi Li with
          | false =>
            rw [hin] at HIN
            rw [chk_out hin]
            rw [deed_out hin] at HIT
            have HPS := Lib.hid (allIn_pos hin)
            have HAL := Lib.hid (allAt_out u hin)
            have p0 : (0 : Int) < (Li : Int) := by have := HPS.out; omega
            have p1 : decide ((0 : Int) < (Li : Int)) = true := decide_eq_true p0
            clear hin hvb
            go_wp2_with (fail)
            refine HIN.out.mono ?_
            rintro e w5 ⟨rfl, rfl⟩
            clear HIN
            go_wp2_with (fail)
            go_loopg [12] 0 (fun _ vk wr => vk = .int .i64 0 ∧ wr = wc)
            case atStart => exact ⟨rfl, rfl⟩
            case round =>
              obtain ⟨rfl, rfl⟩ := hrel
              go_wp2_with (fail)
              go_loopg [11, 13] 0 (fun _ va vk wx => va = .bool false ∧ vk = .int .i64 0 ∧ wx = wr)
              case atStart => exact ⟨rfl, rfl, rfl⟩
              case round =>
                obtain ⟨rfl, rfl, rfl⟩ := hrel
                have HHS := Lib.hid (HIT.out.has hn2 xi (by have := HL10.out; omega) HIX.out)
                rw [HAL.out] at HHS
                go_wp2_with (fail)
                refine HHS.out.mono ?_
                rintro e w6 ⟨rfl, h6⟩
                have H6 := Lib.hid h6
                clear h6 HHS HIT d1
                go_wp2_with (fail)
                go_roundg (41 - (i + 1))
                case measure => have := HGK.out; have := HI2.out; omega
                case rel => exact ⟨i + 1, u, rfl, by have := HI2.out; omega, rfl, HLOW.out, H6.out.ex⟩
          | true =>
            rw [hin] at HIN
            rw [chk_in hin]
            rw [deed_in hin] at HIT
            have HIA := Lib.hid hin
            obtain ⟨u', hu'⟩ : ∃ u', u' = puts vb u xi Li := ⟨_, rfl⟩
            rw [← hu'] at HIT
            have HUP := Lib.hid hu'
            have HLOW' := Lib.hid (show Low n u' by rw [hu']; exact puts_low HLOW.out Li hin)
            clear hin hu'
            go_wp2_with (fail)
            refine HIN.out.mono ?_
            rintro e w5 ⟨rfl, rfl⟩
            clear HIN d1
            go_wp2_with (fail)
            go_loopg [12] (Li + 1) (fun gk vk wr => ∃ k : Nat, gk = Li + 1 - k ∧ k ≤ Li ∧ vk = .int .i64 (k : Int) ∧ It w wr b G n u' (puts vb u xi k) X Ki Bi Li Ci)
            case atStart => exact ⟨0, rfl, Nat.zero_le _, rfl, HIT.out⟩
            case round =>
              clear HIT
              obtain ⟨k, hgk2, hk, rfl, hit⟩ := hrel
              have HGK2 := Lib.hid hgk2
              have HIT := Lib.hid hit
              have d1 := hit.c1
              have d0 := hit.c0
              clear hgk2 hit
              have kk0 : 0 ≤ (k : Int) := by omega
              by_cases hlt : k < Li
              · have p0 : (k : Int) < (Li : Int) := by omega
                have p1 : decide ((k : Int) < (Li : Int)) = true := decide_eq_true p0
                obtain ⟨qb, qo, rfl, hq⟩ := HIX.out (by omega)
                have hcell := (HIT.out.ex.s.below.cell (p := ⟨qb, qo + k, none⟩) (block_lt_of_cell (hq k hlt))).trans (hq k hlt)
                obtain ⟨z, hz, hzn⟩ := fitsB_nat (allIn_at hlt HIA.out)
                have HX := Lib.hid (show puts vb u xi (k + 1) = upd (puts vb u xi k) z vb by rw [puts_next, hz]; rfl)
                have HLT := Lib.hid hlt
                rw [hz] at hcell
                have f1 : wr.frozen? ⟨G, z, none⟩ = false := HIT.out.ex.row.frozen z
                have e1 := HIT.out.ex.row.cell hzn
                have s0 : 0 ≤ (z : Int) := by omega
                have s1 : (z : Int) < (n : Int) := by omega
                have s2 : IntKind.i64.wrap (z : Int) = (z : Int) := IntWalk.i64_in _ (by omega)
                have s3 : IntKind.i64.wrap (k : Int) = (k : Int) := IntWalk.i64_in _ (by omega)
                clear hq hz hlt
                go_wp2_with (fail)
                go_still_tail 10, (by kernel_rfl)
                change wpList _ _ _ _ _ wr.drew
                have f1d : wr.drew.frozen? ⟨G, z, none⟩ = false := f1
                have e1d : wr.drew.cell? ⟨G, z, none⟩ = some (.bool (puts vb u xi k z)) := e1
                have HITd := Lib.hid (show It w wr.drew b G n u' (puts vb u xi k) X Ki (some ⟨qb, qo, none⟩) Li Ci from HIT.out.drew)
                clear d0 d1 hcell f1 e1 HIT
                generalize wr.drew = wd at f1d e1d HITd ⊢
                go_wp2_with (fail)
                go_roundg (Li + 1 - (k + 1))
                case measure => have := HGK2.out; have := HLT.out; omega
                case rel => exact ⟨k + 1, rfl, by have := HLT.out; omega, rfl, by rw [HX.out]; exact HITd.out.put z vb⟩
              · have hkl : k = Li := by omega
                subst hkl
                have hit := HIT.out
                rw [← HUP.out] at hit
                have HITU := Lib.hid hit
                have p0 : ¬ (k : Int) < (k : Int) := by omega
                have p1 : decide ((k : Int) < (k : Int)) = false := decide_eq_false p0
                clear hit HIT hlt d0 p0
                go_wp2_with (fail)
                clear HUP hvb hk HGK2 HNB kk0 p1
                go_loopg [11, 13] (k + 1) (fun gk va vk wr => ∃ m : Nat, gk = k + 1 - m ∧ m ≤ k ∧ va = .bool (allU u' xi m) ∧ vk = .int .i64 (m : Int) ∧ It w wr b G n u' u' X Ki Bi k Ci)
                case atStart => exact ⟨0, rfl, Nat.zero_le _, rfl, rfl, HITU.out⟩
                case round =>
                  clear HITU d1
                  obtain ⟨m, hgk3, hm, rfl, rfl, hit⟩ := hrel
                  have HGK3 := Lib.hid hgk3
                  have HIT := Lib.hid hit
                  have d1 := hit.c1
                  clear hgk3 hit
                  have m0 : 0 ≤ (m : Int) := by omega
                  have HALN := Lib.hid (allU_next u' xi m)
                  by_cases hlt : m < k
                  · have p0 : (m : Int) < (k : Int) := by omega
                    have p1 : decide ((m : Int) < (k : Int)) = true := decide_eq_true p0
                    obtain ⟨qb, qo, rfl, hq⟩ := HIX.out (by omega)
                    have hcell := (HIT.out.ex.s.below.cell (p := ⟨qb, qo + m, none⟩) (block_lt_of_cell (hq m hlt))).trans (hq m hlt)
                    obtain ⟨z, hz, hzn⟩ := fitsB_nat (allIn_at hlt HIA.out)
                    have HLT := Lib.hid hlt
                    rw [hz] at hcell HALN
                    have e1 := HIT.out.ex.row.cell hzn
                    have s0 : 0 ≤ (z : Int) := by omega
                    have s1 : (z : Int) < (n : Int) := by omega
                    rw [Int.toNat_natCast] at HALN
                    clear hq hz hlt
                    cases hal : allU u' xi m with
                    | true =>
                      rw [hal] at HALN
                      rw [Bool.true_and] at HALN
                      clear hal
                      generalize u' z = uz at e1 HALN
                      go_wp2_with (fail)
                      go_roundg (k + 1 - (m + 1))
                      case measure => have := HGK3.out; have := HLT.out; omega
                      case rel => exact ⟨m + 1, rfl, by have := HLT.out; omega, by rw [HALN.out], rfl, HIT.out⟩
                    | false =>
                      rw [hal] at HALN
                      rw [Bool.false_and] at HALN
                      clear hal e1
                      go_wp2_with (fail)
                      go_roundg (k + 1 - (m + 1))
                      case measure => have := HGK3.out; have := HLT.out; omega
                      case rel => exact ⟨m + 1, rfl, by have := HLT.out; omega, by rw [HALN.out], rfl, HIT.out⟩
                  · have hmk : m = k := by omega
                    subst hmk
                    have HHS := Lib.hid (HIT.out.has hn2 xi (by have := HL10.out; omega) HIX.out)
                    rw [← allU_at u' HIA.out m (Nat.le_refl _)] at HHS
                    generalize allU u' xi m = av at HHS ⊢
                    have vv : (av != av) = false := by simp
                    have p0 : ¬ (m : Int) < (m : Int) := by omega
                    have p1 : decide ((m : Int) < (m : Int)) = false := decide_eq_false p0
                    clear hlt p0 HALN
                    go_wp2_with (fail)
                    refine HHS.out.mono ?_
                    rintro e w6 ⟨rfl, h6⟩
                    have H6 := Lib.hid h6
                    clear h6 HHS HIT d1
                    go_wp2_with (fail)
                    go_roundg (41 - (i + 1))
                    case measure => have := HGK.out; have := HI2.out; omega
                    case rel => exact ⟨i + 1, u', rfl, by have := HI2.out; omega, rfl, HLOW'.out, H6.out.ex⟩
      · by_cases hll : i < len
        · have x0 : (i : Int) < (len : Int) := by omega
          have x1 : decide ((i : Int) < (len : Int)) = true := decide_eq_true x0
          have z0 : ¬ (i : Int) < 40 := by omega
          have z1 : decide ((i : Int) < 40) = false := decide_eq_false z0
          clear hlt
          go_wp2_with (fail)
          go_meet
          exact ⟨u, HLOW.out, H.out⟩
        · have x0 : ¬ (i : Int) < (len : Int) := by omega
          have x1 : decide ((i : Int) < (len : Int)) = false := decide_eq_false x0
          clear hlt
          go_wp2_with (fail)
          go_meet
          exact ⟨u, HLOW.out, H.out⟩
  case rest =>
    clear H2 HA
    obtain ⟨u, hlow, h⟩ := hcut
    have HLOW := Lib.hid hlow
    have H := Lib.hid h
    clear hlow h
    have HRW := Lib.hid (H.out.s.row hn2)
    go_wp2_with (fail)
    refine HRW.out.mono ?_
    rintro e w3 ⟨⟨A3, c3, rfl, hown, hb3⟩, _⟩
    have H3 := Lib.hid (H.out.step hb3)
    have HIN := Lib.hid (own_ints hown)
    have HROW := Lib.hid (fun j (hj : j < n) => h3row H3.out hj)
    clear hown hb3 HRW H
    have HLE := Lib.hid (rowL_length u n)
    have HLC := Lib.hid (show (rowL u n).length = cnt u n from rfl)
    rw [HLC.out] at HIN HLE ⊢
    have HRA := Lib.hid (fun i hu hi => row_at u (i := i) hu n hi)
    generalize rowL u n = R at HIN HRA
    go_wp2_with (fail)
    go_loopg [16, 17] (n + 1) (fun gk vf vi wr => ∃ d : Nat, gk = n + 1 - d ∧ d ≤ n ∧ vf = .int .i64 (fF u n d) ∧ vi = .int .i64 ((n : Int) - 1 - (d : Int)) ∧ wr = w3)
    case atStart => exact ⟨0, rfl, Nat.zero_le _, rfl, by simp, rfl⟩
    case round =>
      obtain ⟨d, hgk, hd, rfl, rfl, rfl⟩ := hrel
      have HGK := Lib.hid hgk
      clear hgk
      by_cases hlt : d < n
      · obtain ⟨j, hj⟩ : ∃ j, j = n - (d + 1) := ⟨_, rfl⟩
        have ej : (n : Int) - 1 - (d : Int) = (j : Int) := by omega
        rw [ej]
        have HEJ := Lib.hid (show (j : Int) - 1 = (n : Int) - 1 - ((d + 1 : Nat) : Int) by omega)
        have HFF := Lib.hid (show fF u n (d + 1) = if u j then fF u n d else (j : Int) by rw [hj]; rfl)
        have hjn : j < n := by omega
        have e1 := HROW.out j hjn
        have s0 : 0 ≤ (j : Int) := by omega
        have s1 : (j : Int) < (n : Int) := by omega
        have s2 : decide (0 ≤ (j : Int)) = true := decide_eq_true s0
        have HD := Lib.hid hlt
        clear ej hj hlt
        cases hu : u j with
        | true =>
          rw [hu] at e1 HFF
          rw [if_pos rfl] at HFF
          go_wp2_with (fail)
          go_roundg (n + 1 - (d + 1))
          case measure => have := HGK.out; have := HD.out; omega
          case rel => exact ⟨d + 1, rfl, HD.out, by rw [HFF.out], by rw [← HEJ.out], rfl⟩
        | false =>
          rw [hu] at e1 HFF
          rw [if_neg Bool.false_ne_true] at HFF
          go_wp2_with (fail)
          go_roundg (n + 1 - (d + 1))
          case measure => have := HGK.out; have := HD.out; omega
          case rel => exact ⟨d + 1, rfl, HD.out, by rw [HFF.out], by rw [← HEJ.out], rfl⟩
      · have hdn : d = n := by omega
        subst hdn
        have ej : (d : Int) - 1 - (d : Int) = -1 := by omega
        rw [ej, fF_all]
        clear ej hlt hd HGK
        go_wp2_with (fail)
        go_loopg [15, 18] (d + 1) (fun gk vc vi wx => ∃ m : Nat, gk = d + 1 - m ∧ m ≤ d ∧ vc = .int .i64 (cnt u m : Int) ∧ vi = .int .i64 (m : Int) ∧ wx = wr)
        case atStart => exact ⟨0, rfl, Nat.zero_le _, rfl, rfl, rfl⟩
        case round =>
          obtain ⟨m, hgk, hm, rfl, rfl, rfl⟩ := hrel
          have HGK := Lib.hid hgk
          clear hgk
          have m0 : 0 ≤ (m : Int) := by omega
          by_cases hlt : m < d
          · have p0 : (m : Int) < (d : Int) := by omega
            have p1 : decide ((m : Int) < (d : Int)) = true := decide_eq_true p0
            have e1 := HROW.out m hlt
            have HCN := Lib.hid (cnt_next u m)
            have HMD := Lib.hid hlt
            cases hu : u m with
            | true =>
              rw [hu] at e1 HCN
              simp only [Bool.toNat_true] at HCN
              have hlc := cnt_under hu hlt
              obtain ⟨qb, qo, rfl, hq⟩ := HIN.out (by omega)
              have hcell : wr.cell? ⟨qb, qo + cnt u m, none⟩ = some (.int .i64 ((R.getD (cnt u m) 0 : Nat) : Int)) := hq (cnt u m) hlc
              rw [HRA.out m hu hlt] at hcell
              have hle1 := HLE.out
              clear hq hu hlt
              generalize cnt u m = c at hcell hlc HCN ⊢
              have c0 : ¬ ((cnt u d : Nat) : Int) ≤ (c : Int) := by omega
              have c1 : decide (((cnt u d : Nat) : Int) ≤ (c : Int)) = false := decide_eq_false c0
              have c2 : (c : Int) < ((cnt u d : Nat) : Int) := by omega
              have c4 : 0 ≤ (c : Int) := by omega
              have mm : ((m : Int) != (m : Int)) = false := by simp
              have c5 : (c : Int) ≤ 1024 := by omega
              clear hle1
              go_wp2_with (fail)
              go_roundg (d + 1 - (m + 1))
              case measure => have := HGK.out; have := HMD.out; omega
              case rel => exact ⟨m + 1, rfl, HMD.out, by rw [HCN.out]; rfl, rfl, rfl⟩
            | false =>
              rw [hu] at e1 HCN
              simp only [Bool.toNat_false, Nat.add_zero] at HCN
              clear hu hlt
              go_wp2_with (fail)
              go_roundg (d + 1 - (m + 1))
              case measure => have := HGK.out; have := HMD.out; omega
              case rel => exact ⟨m + 1, rfl, HMD.out, by rw [HCN.out], rfl, rfl⟩
          · have hmd : m = d := by omega
            subst hmd
            have p0 : ¬ (m : Int) < (m : Int) := by omega
            have p1 : decide ((m : Int) < (m : Int)) = false := decide_eq_false p0
            have HCT := Lib.hid (H3.out.s.count hn2)
            rw [HLC.out] at HCT
            clear hlt p0 hm HGK HROW HIN HRA
            go_wp2_with (fail)
            refine HCT.out.mono ?_
            rintro e w4 ⟨rfl, _, b4⟩
            have H4 := Lib.hid (H3.out.step b4)
            clear b4 HCT H3
            go_wp2_with (fail)
            refine H4.out.s.len.mono ?_
            rintro e w5 ⟨rfl, _, b5⟩
            have H5 := Lib.hid (H4.out.step b5)
            clear b5 H4
            go_wp2_with (fail)
            refine (H5.out.s.first hn2).mono ?_
            rintro e w6 ⟨rfl, _, b6⟩
            have H6 := Lib.hid (H5.out.step b6)
            clear b6 H5
            go_wp2_with (fail)
            refine (H6.out.s.text hn2).mono ?_
            rintro e w7 ⟨rfl, _, b7⟩
            have H7 := Lib.hid (H6.out.step b7)
            clear b7 H6
            have HRT := Lib.hid (ref8_text w7 (some ⟨G, 0, none⟩) m m u hn2 HLOW.out H7.out.bools)
            generalize textB m u = q at HRT ⊢
            go_wp2_with (fail)
            refine HRT.out.mono ?_
            rintro e w8 ⟨rfl, b8⟩
            have HB8 := Lib.hid (H7.out.step b8).s.below
            clear b8 HRT H7
            go_wp2_with (fail)
            refine (bits_Add_nil _ _).mono ?_
            rintro e w9 ⟨rfl, rfl⟩
            have HB9 := Lib.hid (HB8.out.alloc HB8.out.size (.cells #[.int .i64 1] 3))
            clear HB8
            generalize w8.alloc (.cells #[.int .i64 1] 3) = w9 at HB9 ⊢
            go_wp2_with (fail)
            refine (bits_Drop_nil _ _).mono ?_
            rintro e w10 ⟨rfl, rfl⟩
            go_wp2_with (fail)
            refine (bits_Has_nil _ _).mono ?_
            rintro e w10 ⟨rfl, rfl⟩
            go_wp2_with (fail)
            refine (bits_count_nil _).mono ?_
            rintro e w10 ⟨rfl, rfl⟩
            go_wp2_with (fail)
            refine (bits_len_nil _).mono ?_
            rintro e w10 ⟨rfl, rfl⟩
            go_wp2_with (fail)
            refine (bits_row_nil _).mono ?_
            rintro e w10 ⟨rfl, rfl⟩
            go_wp2_with (fail)
            refine (bits_first_nil _).mono ?_
            rintro e w10 ⟨rfl, rfl⟩
            go_wp2_with (fail)
            refine (bits_text_nil _).mono ?_
            rintro e w10 ⟨rfl, rfl⟩
            go_wp2_with (fail)
            refine bodyPost_ret (results_tmp rfl _ _ _) rfl ?_
            exact ⟨rfl, HB9.out⟩
end bitsExact
end Go.Proofs.Ytmihladhopjloaa
