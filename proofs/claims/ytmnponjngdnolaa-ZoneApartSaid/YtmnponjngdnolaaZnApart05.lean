/-
  ZoneApart's walk. No condition.
-/
import Derived.Test.YtmnponjngdnolaaZnAwake05
import Derived.Test.YtmnponjngdnolaaOpenBytes
namespace Go.Proofs.Ytmnponjngdnolaa.zoneApart
open Go.ChangeShapes Go.WideShapes Go.ChangeAt Go.RowKit Dk

/-- Which sector. -/
theorem place_of (b : UInt8) : IntKind.i64.wrap ((b.toNat : Int).tmod 4) = ((b.toNat % 4 : Nat) : Int) := by
  rw [Int.tmod_eq_emod_of_nonneg (by omega)]
  exact (IntWalk.i64_in _ (by omega)).trans (by omega)
/-- The disk behind k writes into the zone of four sectors from the sector 1 on. -/
structure Goes (k : Nat) (x : St) : Prop where
  n : x.n = 10
  on : x.away = false
  fu : x.fuse = none
  lo : x.loose.length ≤ k
  dn : x.done ≤ k
  out : ∀ p, p < 10 → (p < 1 ∨ 5 ≤ p) → ∀ j, j < 32 → sect x.now p j = 0
theorem goes_new : Goes 0 (freshSt 10 fun _ => 0) := ⟨rfl, rfl, rfl, Nat.le_refl _, Nat.le_refl _, fun _ _ _ _ _ => rfl⟩
theorem goes_put {k : Nat} {x : St} (h : Goes k x) (p : Nat) (hp : p < 4) (g : Nat → UInt8) : Goes (k + 1) (x.burnt.put (1 + p) g) := by
  refine ⟨h.n, h.on, ?_, ?_, ?_, fun q h10 hq j hj => ?_⟩
  · show x.fuse.map _ = none
    rw [h.fu]
    rfl
  · show (x.loose ++ [_]).length ≤ k + 1
    rw [List.length_append]
    have := h.lo
    simpa using this
  · show x.done + 1 ≤ k + 1
    have := h.dn
    omega
  · show sect (putS x.now (1 + p) g) q j = 0
    rw [sect_put_other _ _ _ _ _ hj (by omega)]
    exact h.out q h10 hq j hj
abbrev zs (A B D : Nat) : List (Nat × Obj) := [(B, zobj D 5 4), (A, zobj D 1 4)]
theorem za (A B D : Nat) : (A, zobj D 1 4) ∈ zs A B D := List.mem_cons_of_mem _ (List.mem_cons_self ..)
theorem zb (A B D : Nat) : (B, zobj D 5 4) ∈ zs A B D := List.mem_cons_self ..
theorem goes_write {w0 w : World} {A B D k : Nat} {x : St} (h : Zn w0 w D x (zs A B D)) (hd : Goes k x) (hk : k < 30) (p : Nat) (hp : p < 4) (q : ByteArray) (hq : q.size = 32) :
    Calls Try.prog 8 #[.pointer (some ⟨A, 0, none⟩), .int .i64 (p : Int), .string q] w fun e w' => e = .returned (.int .i64 0) ∧ ∃ y, Zn w0 w' D y (zs A B D) ∧ Goes (k + 1) y := by
  refine (h.write (za A B D) hd.on hd.fu (by have := hd.lo; omega) (by have := hd.dn; omega) (by rw [hd.n]; decide) p hp q hq).mono ?_
  rintro e w' ⟨rfl, h2⟩
  exact ⟨rfl, _, h2, goes_put hd p hp _⟩
theorem img_same {f m : Nat} {g h : Nat → UInt8} (e : ∀ p, p < m → ∀ j, j < 32 → sect g (f + p) j = sect h (f + p) j) : (imgS m fun j => g (f * 32 + j)) = imgS m fun j => h (f * 32 + j) := imgS_congr fun k hk => by
  have := e (k / 32) (by omega) (k % 32) (by omega)
  unfold sect at this
  rwa [show (f + k / 32) * 32 + k % 32 = f * 32 + k by omega] at this
/-- What is left behind the fill. -/
structure Ends (x y : St) (fill : UInt8) : Prop where
  n : y.n = 10
  on : y.away = false
  zero : ∀ p, p = 0 ∨ p = 9 → secS (sect y.now p) = secS fun _ => 0
  full : ∀ p, 5 ≤ p → p < 9 → secS (sect y.now p) = secS fun _ => fill
  same : (imgS 4 fun j => y.now (1 * 32 + j)) = imgS 4 fun j => x.now (1 * 32 + j)
  part : (imgS 2 fun j => y.now ((1 + 2) * 32 + j)) = (imgS 4 fun j => x.now (1 * 32 + j)).extract 64 128
theorem goes_ends {k : Nat} {x : St} (h : Goes k x) (fill : UInt8) : Ends x (x.filled 5 (fun _ => fill) 4) fill := by
  have e4 : (imgS 4 fun j => (x.filled 5 (fun _ => fill) 4).now (1 * 32 + j)) = imgS 4 fun j => x.now (1 * 32 + j) := img_same fun p hp j hj => filled_out x 5 _ 4 (1 + p) (by omega) j hj
  refine ⟨(filled_n _ _ _ _).trans h.n, (filled_away _ _ _ _).trans h.on, fun p hp => secS_congr fun j hj => ?_, fun p h5 h9 => secS_congr fun j hj => ?_, e4, ?_⟩
  · rw [filled_out x 5 _ 4 p (by omega) j hj]
    exact h.out p (by omega) (by omega) j hj
  · have := filled_in x 5 (fun _ => fill) 4 (p - 5) (by omega) j hj
    rwa [show 5 + (p - 5) = p by omega] at this
  · rw [← e4]
    exact img_part 1 2 2 _
set_option maxRecDepth 100000 in
set_option maxHeartbeats 6400000 in
theorem walk (w : World) (A0 : Option Addr) (len cap : Nat) (X : Nat → UInt8) (hX : BytesIn w A0 len cap X) (fill : UInt8) :
    Calls Try.prog 3 #[.slice A0 len cap, .int .u8 (fill.toNat : Int)] w fun e w' => e = .returned (.bool true) ∧ Below w.heap.size w w' := by
  have HX := Lib.hid hX
  clear hX
  go_enter Try.func3, Try.ntmps3
  go_wp2_with (fail)
  refine (awake05 w).mono ?_
  rintro e w1 ⟨rfl, b1⟩
  have B1 := Lib.hid b1
  clear b1
  go_wp2_with (fail)
  refine (at_new w w1 B1.out 10 10 (by omega)).mono ?_
  rintro e w2 ⟨D, rfl, h2⟩
  have H2 := Lib.hid (show Zn w w2 D (freshSt 10 fun _ => 0) [] from Zn.of_at h2)
  clear h2 B1
  go_wp2_with (fail)
  refine (H2.out.news 1 4 (by decide) (by decide)).mono ?_
  rintro e w3 ⟨A, rfl, h3⟩
  have H3 := Lib.hid h3
  clear h3 H2
  go_wp2_with (fail)
  refine (H3.out.news 5 4 (by decide) (by decide)).mono ?_
  rintro e w4 ⟨B, rfl, h4⟩
  have H4 := Lib.hid (show ∃ x, Zn w w4 D x (zs A B D) ∧ Goes 0 x from ⟨_, h4, goes_new⟩)
  clear h4 H3
  go_wp2_with (fail)
  go_loopw [10] (fun i wr => ∃ k : Nat, i = .int .i64 (k : Int) ∧ k ≤ len ∧ k ≤ 30 ∧ ∃ x, Zn w wr D x (zs A B D) ∧ Goes k x) (fun i _ => match i with | .int _ k => 30 - k.toNat | _ => 0)
  case atStart => exact ⟨0, rfl, Nat.zero_le _, Nat.zero_le _, H4.out⟩
  case round =>
    clear H4
    obtain ⟨k, rfl, hkl, hk30, x, hat, hd⟩ := hrel
    have HAT := Lib.hid hat
    have HD := Lib.hid hd
    clear hat hd
    have x2 : 0 ≤ (k : Int) := by omega
    by_cases hgo : k < len ∧ k < 30
    · obtain ⟨h1, h2⟩ := hgo
      have x0 : (k : Int) < (len : Int) := by omega
      have x1 : decide ((k : Int) < (len : Int)) = true := decide_eq_true x0
      have x3 : (k : Int) < 30 := by omega
      have x4 : decide ((k : Int) < 30) = true := decide_eq_true x3
      obtain ⟨hlc, hcm, hc⟩ := HX.out
      obtain ⟨pb, po, rfl, hcell⟩ := hc (by omega)
      have hpb : pb < w.heap.size := block_lt_of_cell (hcell k h1)
      have HC := Lib.hid (show ∀ W : World, Below w.heap.size w W → W.cell? ⟨pb, po + k, none⟩ = some (.int .u8 ((X k).toNat : Int)) from fun W hW => (World.cell?_of_block (w := w) (a := ⟨pb, po + k, none⟩) (hW.block pb hpb)).trans (hcell k h1))
      have c1 := HC.out wr HAT.out.below
      have hbl : (X k).toNat < 256 := (X k).toNat_lt
      clear hc hcell
      generalize X k = b at HC c1 hbl
      have HOF := Lib.hid (law_of b)
      have HWR := Lib.hid (show ∀ W, Below wr.drew.heap.size wr.drew W → Calls Try.prog 8 #[.pointer (some ⟨A, 0, none⟩), .int .i64 (IntKind.i64.wrap ((b.toNat : Int).tmod 4)), .string (secS fun _ => b)] W fun e w' => e = .returned (.int .i64 0) ∧ ∃ y, Zn w w' D y (zs A B D) ∧ Goes (k + 1) y from fun W hW => by
        have := goes_write (HAT.out.step (w' := W) (below_undrew hW)) HD.out h2 (b.toNat % 4) (by omega) (secS fun _ => b) (secS_size _)
        rwa [← place_of] at this)
      have HC2 := Lib.hid (show ∀ (W : World) (y : St), Zn w W D y (zs A B D) → W.cell? ⟨pb, po + k, none⟩ = some (.int .u8 (b.toNat : Int)) from fun W y hy => HC.out W hy.below)
      have HC3 := Lib.hid (show ∀ (W : World), Below wr.drew.heap.size wr.drew W → W.cell? ⟨pb, po + k, none⟩ = some (.int .u8 (b.toNat : Int)) from fun W hW => HC.out W (HAT.out.step (w' := W) (below_undrew hW)).below)
      have c2 : wr.drew.cell? ⟨pb, po + k, none⟩ = some (.int .u8 (b.toNat : Int)) := c1
      generalize secS (fun _ => b) = sb at HOF HWR
      go_wp2_with (fail)
      go_region_held3 (fun W : World => W.cell? ⟨pb, po + k, none⟩ = some (.int .u8 (b.toNat : Int))) (first | exact c2 | assumption) (first
        | (go_at_call 9; (with_reducible refine (HOF.out _).mono ?_); rintro e w' ⟨rfl, hb'⟩; have hc' := HC3.out w' hb')
        | (go_at_call 8; (with_reducible refine (HWR.out _ (by assumption)).mono ?_); rintro e w'' ⟨rfl, y, h5, d5⟩; have hc'' := HC2.out w'' y h5))
      have H5 := Lib.hid h5
      have D5 := Lib.hid d5
      clear h5 d5
      go_wp2_with (fail)
      exact ⟨⟨k + 1, rfl, by omega, by omega, y, H5.out, D5.out⟩, by show 30 - ((k : Int) + 1).toNat < 30 - (k : Int).toNat; omega⟩
    · have x0 : decide ((k : Int) < (len : Int)) = true ∧ decide ((k : Int) < 30) = false ∨ decide ((k : Int) < (len : Int)) = false := by
        by_cases h1 : k < len
        · exact .inl ⟨decide_eq_true (by omega), decide_eq_false (by omega)⟩
        · exact .inr (decide_eq_false (by omega))
      have hd := HD.out
      have HEN := Lib.hid (goes_ends hd fill)
      have HAL := Lib.hid (HAT.out.all (za A B D) hd.on (by rw [hd.n]; decide))
      have HFI := Lib.hid (show ∀ W, Zn w W D x (zs A B D) → Calls Try.prog 11 #[.pointer (some ⟨B, 0, none⟩), .int .u8 (fill.toNat : Int)] W fun e w' => e = .returned (.int .i64 0) ∧ Zn w w' D (x.filled 5 (fun _ => fill) 4) (zs A B D) from fun W hW =>
        hW.fill (zb A B D) hd.on hd.fu (by have := hd.lo; omega) (by have := hd.dn; omega) (by rw [hd.n]; decide) fill)
      have HSZ := Lib.hid (imgS_size 4 fun j => x.now (1 * 32 + j))
      have HO0 := Lib.hid (show ∀ W, Calls Try.prog 9 #[.int .u8 0] W fun e w' => e = .returned (.string (secS fun _ => 0)) ∧ Below W.heap.size W w' from law_of 0)
      have HOF := Lib.hid (law_of fill)
      clear hgo HX hd HD HAT
      generalize x.filled 5 (fun _ => fill) 4 = y at HEN HFI
      obtain ⟨hyn, hya, hy0, hyf, hys, hyp⟩ := HEN.out
      have HYN := Lib.hid hyn
      have HYA := Lib.hid hya
      have HY0 := Lib.hid hy0
      have HYF := Lib.hid hyf
      have HYS := Lib.hid hys
      have HYP := Lib.hid hyp
      clear hyn hya hy0 hyf hys hyp HEN
      generalize (imgS 4 fun j => x.now (1 * 32 + j)) = wa at HAL HSZ HYS HYP
      have z64 : (64 : Int) ≤ (wa.size : Int) := by rw [HSZ.out]; decide
      generalize (secS fun _ => (0 : UInt8)) = s0 at HO0 HY0
      generalize (secS fun _ => fill) = sf at HOF HYF
      rcases x0 with ⟨x0, x1⟩ | x0
      · have z0 : (k : Int) < (len : Int) := of_decide_eq_true x0
        have z1 : ¬ (k : Int) < 30 := of_decide_eq_false x1
        go_wp2_with (fail)
        refine HAL.out.mono ?_
        rintro e w5 ⟨rfl, h5⟩
        have H5 := Lib.hid h5
        clear h5 HAL
        go_wp2_with (fail)
        refine (HFI.out w5 H5.out).mono ?_
        rintro e w6 ⟨rfl, h6⟩
        have HA2 := Lib.hid (h6.all (za A B D) HYA.out (by rw [HYN.out]; decide))
        rw [HYS.out] at HA2
        clear h6 H5 HFI HYS
        go_wp2_with (fail)
        refine HA2.out.mono ?_
        rintro e w7 ⟨rfl, h7⟩
        have H7 := Lib.hid h7
        clear h7 HA2
        go_wp2_with (fail)
        go_loopw [15] (fun i wr => ∃ k : Nat, i = .int .i64 (k : Int) ∧ k ≤ 10 ∧ Zn w wr D y (zs A B D)) (fun i _ => match i with | .int _ k => 10 - k.toNat | _ => 0)
        case atStart => exact ⟨0, rfl, Nat.zero_le _, H7.out⟩
        case round =>
          clear H7
          obtain ⟨i, rfl, hi10, hz⟩ := hrel
          have HZ := Lib.hid hz
          clear hz
          have i2 : 0 ≤ (i : Int) := by omega
          by_cases hlt : i < 10
          · have i0 : (i : Int) < 10 := by omega
            have i1 : decide ((i : Int) < 10) = true := decide_eq_true i0
            have HRD := Lib.hid (disk_read _ wr D y HZ.out.disk HYA.out i (by rw [HYN.out]; exact hlt))
            have HFN := Lib.hid (show ∀ W, Zn w W D y (zs A B D) → (∃ j : Nat, Value.int .i64 ((i : Int) + 1) = .int .i64 (j : Int) ∧ j ≤ 10 ∧ Zn w W D y (zs A B D)) ∧ 10 - ((i : Int) + 1).toNat < 10 - (i : Int).toNat from fun W hW => ⟨⟨i + 1, rfl, by omega, hW⟩, by omega⟩)
            by_cases c0 : i = 0
            · rw [HY0.out i (.inl c0)] at HRD
              have f0 : ((i : Int) == 0) = true := by rw [c0]; rfl
              have f5 : ¬ (5 : Int) ≤ (i : Int) := by omega
              have f6 : decide ((5 : Int) ≤ (i : Int)) = false := decide_eq_false f5
              clear c0 hlt hi10
              go_wp2_with (fail)
              refine HRD.out.mono ?_
              rintro e w8 ⟨rfl, rfl⟩
              go_wp2_with (fail)
              refine (HO0.out wr).mono ?_
              rintro e w9 ⟨rfl, b9⟩
              have H9 := Lib.hid (HZ.out.step b9)
              clear b9 HZ HRD
              go_wp2_with (fail)
              exact HFN.out _ H9.out
            by_cases c9 : i = 9
            · rw [HY0.out i (.inr c9)] at HRD
              have f0 : ((i : Int) == 0) = false := by rw [c9]; rfl
              have f1 : ((i : Int) == 9) = true := by rw [c9]; rfl
              have f5 : (5 : Int) ≤ (i : Int) := by omega
              have f6 : decide ((5 : Int) ≤ (i : Int)) = true := decide_eq_true f5
              have f7 : ¬ (i : Int) < 9 := by omega
              have f8 : decide ((i : Int) < 9) = false := decide_eq_false f7
              clear c0 c9 hlt hi10
              go_wp2_with (fail)
              refine HRD.out.mono ?_
              rintro e w8 ⟨rfl, rfl⟩
              go_wp2_with (fail)
              refine (HO0.out wr).mono ?_
              rintro e w9 ⟨rfl, b9⟩
              have H9 := Lib.hid (HZ.out.step b9)
              clear b9 HZ HRD
              go_wp2_with (fail)
              exact HFN.out _ H9.out
            have f0 : ((i : Int) == 0) = false := beq_eq_false_iff_ne.2 (by omega)
            have f1 : ((i : Int) == 9) = false := beq_eq_false_iff_ne.2 (by omega)
            by_cases c5 : 5 ≤ i
            · rw [HYF.out i c5 (by omega)] at HRD
              have f5 : (5 : Int) ≤ (i : Int) := by omega
              have f6 : decide ((5 : Int) ≤ (i : Int)) = true := decide_eq_true f5
              have f7 : (i : Int) < 9 := by omega
              have f8 : decide ((i : Int) < 9) = true := decide_eq_true f7
              clear c0 c9 c5 hlt hi10
              go_wp2_with (fail)
              refine HRD.out.mono ?_
              rintro e w8 ⟨rfl, rfl⟩
              go_wp2_with (fail)
              refine (HOF.out wr).mono ?_
              rintro e w9 ⟨rfl, b9⟩
              have H9 := Lib.hid (HZ.out.step b9)
              clear b9 HZ HRD
              go_wp2_with (fail)
              exact HFN.out _ H9.out
            · have f5 : ¬ (5 : Int) ≤ (i : Int) := by omega
              have f6 : decide ((5 : Int) ≤ (i : Int)) = false := decide_eq_false f5
              generalize secS (sect y.now i) = si at HRD
              clear c0 c9 c5 hlt hi10
              go_wp2_with (fail)
              refine HRD.out.mono ?_
              rintro e w8 ⟨rfl, rfl⟩
              clear HRD
              go_wp2_with (fail)
              exact HFN.out _ HZ.out
          · have i0 : ¬ (i : Int) < 10 := by omega
            have i1 : decide ((i : Int) < 10) = false := decide_eq_false i0
            have HPT := Lib.hid (HZ.out.part (za A B D) (by rw [HYN.out]; decide) 2 2 (by decide) (by decide))
            have hsl : (wa.extract 64 128).toList = (wa.extract 64 wa.size).toList := by rw [HSZ.out]
            have HSL := Lib.hid hsl
            clear hsl hlt HY0 HYF HO0 HOF
            go_wp2_with (fail)
            refine HPT.out.mono ?_
            rintro e w8 ⟨P, rfl, h8⟩
            have HPA := Lib.hid (h8.all (Z := P) (f := 1 + 2) (n := 2) (List.mem_cons_self ..) HYA.out (by rw [HYN.out]; decide))
            rw [HYP.out] at HPA
            clear h8 HPT HZ HYP
            go_wp2_with (fail)
            refine HPA.out.mono ?_
            rintro e w9 ⟨rfl, h9⟩
            have H9 := Lib.hid h9
            have HPN := Lib.hid (zone_part_not w9 A D 1 4 (h9.fix _ (List.mem_cons_of_mem _ (za A B D))) (by decide) 3 2 (by decide) (by decide))
            have p9 := zone_c0 (h9.fix (P, zobj D (1 + 2) 2) (List.mem_cons_self ..))
            have HLO := Lib.hid (disk_loose _ w9 D y h9.disk)
            clear h9 HPA
            generalize (y.loose.length : Int) = lo at HLO
            go_wp2_with (fail)
            refine HPN.out.mono ?_
            rintro e w10 ⟨rfl, rfl⟩
            clear HPN
            have hsl := HSL.out
            have hse : ((wa.extract 64 128).toList == (wa.extract 64 wa.size).toList) = true := by rw [hsl]; exact beq_self_eq_true _
            clear hsl HSL
            go_wp2_with (fail)
            refine HLO.out.mono ?_
            rintro e w10 ⟨rfl, rfl⟩
            go_wp2_with (fail)
            refine HLO.out.mono ?_
            rintro e w10 ⟨rfl, rfl⟩
            go_wp2_with (fail)
            refine bodyPost_ret (results_tmp rfl _ _ _) rfl ?_
            exact ⟨rfl, H9.out.below⟩
      · have z0 : ¬ (k : Int) < (len : Int) := of_decide_eq_false x0
        go_wp2_with (fail)
        refine HAL.out.mono ?_
        rintro e w5 ⟨rfl, h5⟩
        have H5 := Lib.hid h5
        clear h5 HAL
        go_wp2_with (fail)
        refine (HFI.out w5 H5.out).mono ?_
        rintro e w6 ⟨rfl, h6⟩
        have HA2 := Lib.hid (h6.all (za A B D) HYA.out (by rw [HYN.out]; decide))
        rw [HYS.out] at HA2
        clear h6 H5 HFI HYS
        go_wp2_with (fail)
        refine HA2.out.mono ?_
        rintro e w7 ⟨rfl, h7⟩
        have H7 := Lib.hid h7
        clear h7 HA2
        go_wp2_with (fail)
        go_loopw [15] (fun i wr => ∃ k : Nat, i = .int .i64 (k : Int) ∧ k ≤ 10 ∧ Zn w wr D y (zs A B D)) (fun i _ => match i with | .int _ k => 10 - k.toNat | _ => 0)
        case atStart => exact ⟨0, rfl, Nat.zero_le _, H7.out⟩
        case round =>
          clear H7
          obtain ⟨i, rfl, hi10, hz⟩ := hrel
          have HZ := Lib.hid hz
          clear hz
          have i2 : 0 ≤ (i : Int) := by omega
          by_cases hlt : i < 10
          · have i0 : (i : Int) < 10 := by omega
            have i1 : decide ((i : Int) < 10) = true := decide_eq_true i0
            have HRD := Lib.hid (disk_read _ wr D y HZ.out.disk HYA.out i (by rw [HYN.out]; exact hlt))
            have HFN := Lib.hid (show ∀ W, Zn w W D y (zs A B D) → (∃ j : Nat, Value.int .i64 ((i : Int) + 1) = .int .i64 (j : Int) ∧ j ≤ 10 ∧ Zn w W D y (zs A B D)) ∧ 10 - ((i : Int) + 1).toNat < 10 - (i : Int).toNat from fun W hW => ⟨⟨i + 1, rfl, by omega, hW⟩, by omega⟩)
            by_cases c0 : i = 0
            · rw [HY0.out i (.inl c0)] at HRD
              have f0 : ((i : Int) == 0) = true := by rw [c0]; rfl
              have f5 : ¬ (5 : Int) ≤ (i : Int) := by omega
              have f6 : decide ((5 : Int) ≤ (i : Int)) = false := decide_eq_false f5
              clear c0 hlt hi10
              go_wp2_with (fail)
              refine HRD.out.mono ?_
              rintro e w8 ⟨rfl, rfl⟩
              go_wp2_with (fail)
              refine (HO0.out wr).mono ?_
              rintro e w9 ⟨rfl, b9⟩
              have H9 := Lib.hid (HZ.out.step b9)
              clear b9 HZ HRD
              go_wp2_with (fail)
              exact HFN.out _ H9.out
            by_cases c9 : i = 9
            · rw [HY0.out i (.inr c9)] at HRD
              have f0 : ((i : Int) == 0) = false := by rw [c9]; rfl
              have f1 : ((i : Int) == 9) = true := by rw [c9]; rfl
              have f5 : (5 : Int) ≤ (i : Int) := by omega
              have f6 : decide ((5 : Int) ≤ (i : Int)) = true := decide_eq_true f5
              have f7 : ¬ (i : Int) < 9 := by omega
              have f8 : decide ((i : Int) < 9) = false := decide_eq_false f7
              clear c0 c9 hlt hi10
              go_wp2_with (fail)
              refine HRD.out.mono ?_
              rintro e w8 ⟨rfl, rfl⟩
              go_wp2_with (fail)
              refine (HO0.out wr).mono ?_
              rintro e w9 ⟨rfl, b9⟩
              have H9 := Lib.hid (HZ.out.step b9)
              clear b9 HZ HRD
              go_wp2_with (fail)
              exact HFN.out _ H9.out
            have f0 : ((i : Int) == 0) = false := beq_eq_false_iff_ne.2 (by omega)
            have f1 : ((i : Int) == 9) = false := beq_eq_false_iff_ne.2 (by omega)
            by_cases c5 : 5 ≤ i
            · rw [HYF.out i c5 (by omega)] at HRD
              have f5 : (5 : Int) ≤ (i : Int) := by omega
              have f6 : decide ((5 : Int) ≤ (i : Int)) = true := decide_eq_true f5
              have f7 : (i : Int) < 9 := by omega
              have f8 : decide ((i : Int) < 9) = true := decide_eq_true f7
              clear c0 c9 c5 hlt hi10
              go_wp2_with (fail)
              refine HRD.out.mono ?_
              rintro e w8 ⟨rfl, rfl⟩
              go_wp2_with (fail)
              refine (HOF.out wr).mono ?_
              rintro e w9 ⟨rfl, b9⟩
              have H9 := Lib.hid (HZ.out.step b9)
              clear b9 HZ HRD
              go_wp2_with (fail)
              exact HFN.out _ H9.out
            · have f5 : ¬ (5 : Int) ≤ (i : Int) := by omega
              have f6 : decide ((5 : Int) ≤ (i : Int)) = false := decide_eq_false f5
              generalize secS (sect y.now i) = si at HRD
              clear c0 c9 c5 hlt hi10
              go_wp2_with (fail)
              refine HRD.out.mono ?_
              rintro e w8 ⟨rfl, rfl⟩
              clear HRD
              go_wp2_with (fail)
              exact HFN.out _ HZ.out
          · have i0 : ¬ (i : Int) < 10 := by omega
            have i1 : decide ((i : Int) < 10) = false := decide_eq_false i0
            have HPT := Lib.hid (HZ.out.part (za A B D) (by rw [HYN.out]; decide) 2 2 (by decide) (by decide))
            have hsl : (wa.extract 64 128).toList = (wa.extract 64 wa.size).toList := by rw [HSZ.out]
            have HSL := Lib.hid hsl
            clear hsl hlt HY0 HYF HO0 HOF
            go_wp2_with (fail)
            refine HPT.out.mono ?_
            rintro e w8 ⟨P, rfl, h8⟩
            have HPA := Lib.hid (h8.all (Z := P) (f := 1 + 2) (n := 2) (List.mem_cons_self ..) HYA.out (by rw [HYN.out]; decide))
            rw [HYP.out] at HPA
            clear h8 HPT HZ HYP
            go_wp2_with (fail)
            refine HPA.out.mono ?_
            rintro e w9 ⟨rfl, h9⟩
            have H9 := Lib.hid h9
            have HPN := Lib.hid (zone_part_not w9 A D 1 4 (h9.fix _ (List.mem_cons_of_mem _ (za A B D))) (by decide) 3 2 (by decide) (by decide))
            have p9 := zone_c0 (h9.fix (P, zobj D (1 + 2) 2) (List.mem_cons_self ..))
            have HLO := Lib.hid (disk_loose _ w9 D y h9.disk)
            clear h9 HPA
            generalize (y.loose.length : Int) = lo at HLO
            go_wp2_with (fail)
            refine HPN.out.mono ?_
            rintro e w10 ⟨rfl, rfl⟩
            clear HPN
            have hsl := HSL.out
            have hse : ((wa.extract 64 128).toList == (wa.extract 64 wa.size).toList) = true := by rw [hsl]; exact beq_self_eq_true _
            clear hsl HSL
            go_wp2_with (fail)
            refine HLO.out.mono ?_
            rintro e w10 ⟨rfl, rfl⟩
            go_wp2_with (fail)
            refine HLO.out.mono ?_
            rintro e w10 ⟨rfl, rfl⟩
            go_wp2_with (fail)
            refine bodyPost_ret (results_tmp rfl _ _ _) rfl ?_
            exact ⟨rfl, H9.out.below⟩
end Go.Proofs.Ytmnponjngdnolaa.zoneApart
