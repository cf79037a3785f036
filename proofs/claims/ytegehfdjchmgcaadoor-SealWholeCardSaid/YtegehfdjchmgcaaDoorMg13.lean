/-
  SealWhole's walk. Condition: both tables of sums lie as the program's text lays them.
-/
import Derived.Test.YtegehfdjchmgcaaDoorMg12
import Derived.Test.YtegehfdjchmgcaaDoorMg11
set_option maxRecDepth 100000
namespace Go.Proofs.YtegehfdjchmgcaaDoor.sealWhole
open Go.ChangeShapes Go.WideShapes Go.ChangeAt Go.RowKit Dk Sl

/-- Which number. -/
theorem small (r : Int) : ∃ i k : Nat, wrap64 ((IntKind.u64.wrap r).tmod 1000) = (k : Int) ∧ 1 + (k : Int) = (i : Int) ∧ 1 ≤ i ∧ i ≤ 1000 := by
  have h1 : 0 ≤ IntKind.u64.wrap r := by rw [IntKind.wrap_u64]; omega
  have h2 := Int.emod_nonneg (IntKind.u64.wrap r) (show (1000 : Int) ≠ 0 by decide)
  have h3 := Int.emod_lt_of_pos (IntKind.u64.wrap r) (show (0 : Int) < 1000 by decide)
  rw [Int.tmod_eq_emod_of_nonneg h1, show wrap64 (IntKind.u64.wrap r % 1000) = IntKind.u64.wrap r % 1000 from IntWalk.wrap64_in _ (by omega)]
  exact ⟨1 + (IntKind.u64.wrap r % 1000).toNat, (IntKind.u64.wrap r % 1000).toNat, by omega, by omega, by omega, by omega⟩
def x0 : St := freshSt 12 fun _ => 0
def x1 (a : ByteArray) (i : Nat) : St := x0.laid (0 + 2) (secF i (sealL a)) (szN a.size)
def x2 (a : ByteArray) (i : Nat) : St := (x1 a i).burnt.synced
def x3 (a b : ByteArray) (i k : Nat) : St := (x2 a i).laid (0 + 2) (secF k (sealL b)) (szN b.size)
section
variable (a b : ByteArray) (i k : Nat) (kl : List Bool)
theorem f0 : x0.Full := rfl
theorem f1 : (x1 a i).Full := laid_full _ _ _ f0 _
theorem n1 : (x1 a i).n = 12 := laid_n _ _ _ _
theorem a1 : (x1 a i).away = false := laid_away _ _ _ _
theorem u1 : (x1 a i).fuse = none := laid_fuse _ _ _ rfl _
theorem l1 : (x1 a i).loose.length = szN a.size := by unfold x1; rw [laid_len]; exact Nat.zero_add _
theorem d1 : (x1 a i).done = szN a.size := by unfold x1; rw [laid_done]; exact Nat.zero_add _
theorem n2 : (x2 a i).n = 12 := n1 a i
theorem a2 : (x2 a i).away = false := a1 a i
theorem u2 : (x2 a i).fuse = none := by
  show (x1 a i).fuse.map _ = none
  rw [u1]
  rfl
theorem l2 : (x2 a i).loose = [] := rfl
theorem d2 : (x2 a i).done = szN a.size + 1 := by
  show (x1 a i).done + 1 = _
  rw [d1]
theorem s2 : (x2 a i).safe = (x1 a i).now := (full_synced (x := (x1 a i).burnt) (f1 a i)).2
theorem n3 : (x3 a b i k).n = 12 := (laid_n _ _ _ _).trans (n2 a i)
theorem a3 : (x3 a b i k).away = false := (laid_away _ _ _ _).trans (a2 a i)
theorem l3 : (x3 a b i k).loose.length = szN b.size := by unfold x3; rw [laid_len, l2]; exact Nat.zero_add _
theorem rest (ha : a.size ≤ 200) (hb : b.size ≤ 200) (hi1 : 1 ≤ i) (hi2 : i ≤ 1000) (hk1 : 1 ≤ k) (hk2 : k ≤ 1000) (hne : i ≠ k) :
    getR (rdZ ((x3 a b i k).fall kl).come 0) 12 2 = (b, k, 0) ∨ (getR (rdZ ((x3 a b i k).fall kl).come 0) 12 2 = (a, i, 0) ∧ allB kl (szN b.size) = false) ∨ (getR (rdZ ((x3 a b i k).fall kl).come 0) 12 2 = (⟨#[]⟩, 0, 5) ∧ allB kl (szN b.size) = false ∧ noneB kl (szN b.size) = false) := by
  have ma : szN a.size ≤ 9 := by unfold szN; omega
  have mb : szN b.size ≤ 9 := by unfold szN; omega
  refine mixed_got a b i k kl (by omega) (by omega) hi1 (by omega) hk1 (by omega) hne _ 12 2 (by omega) (by omega) (fun _ _ => 0) (fun q => ?_) (fun q hq j hj => ?_)
  · rw [show numG (fun _ => (0 : UInt8)) = 0 by decide]
    omega
  · have e : ∀ q, 2 + q < 12 → sect (x1 a i).now (2 + q) j = if q < szN a.size then secF i (sealL a) q j else 0 := fun q hq => by
      by_cases h : q < szN a.size
      · rw [if_pos h]
        exact laid_in x0 (0 + 2) _ _ q h j hj
      · rw [if_neg h]
        exact laid_out x0 (0 + 2) _ _ (2 + q) (by omega) j hj
    show sect ((x3 a b i k).fall kl).now (0 + (2 + q)) j = _
    rw [Nat.zero_add]
    unfold x3
    rw [laid_fall (x2 a i) (0 + 2) _ (l2 a i) _ kl (2 + q) j hj, s2, show (x2 a i).now = (x1 a i).now from rfl, e q hq, show 2 + q - (0 + 2) = q by omega]
    by_cases h1 : q < szN b.size
    · rw [if_pos ⟨by omega, by omega⟩]
      by_cases h2 : kp kl q = true
      · rw [if_pos h2, if_pos (show q < szN b.size ∧ kp kl q = true from ⟨h1, h2⟩)]
      · rw [if_neg h2, if_neg (show ¬ (q < szN b.size ∧ kp kl q = true) from fun h => h2 h.2)]
    · rw [if_neg (by omega), if_neg (show ¬ (q < szN b.size ∧ kp kl q = true) from fun h => h1 h.1)]
end
set_option maxRecDepth 100000 in
set_option maxHeartbeats 6400000 in
theorem walk (w : World) (a b : ByteArray) (m n : Int) (B : Option Addr) (klen kcap : Nat) (Y : Nat → Bool) (wa : a.size ≤ maxLen) (wb : b.size ≤ maxLen) (hkc : klen ≤ kcap) (hkm : kcap ≤ maxLen)
    (hY : 0 < klen → ∃ pb po, B = some ⟨pb, po, none⟩ ∧ ∀ k, k < klen → w.cell? ⟨pb, po + k, none⟩ = some (.bool (Y k))) (hT : Tabs w) :
    Calls Tryd.prog 4 #[.string a, .string b, .int .i64 m, .int .i64 n, .slice B klen kcap] w fun e w' => e = .returned (.bool true) ∧ Below w.heap.size w w' := by
  have HAW := Lib.hid (awake06 w hT)
  obtain ⟨i, i', ei, ei2, hi1, hi2⟩ := small m
  obtain ⟨k, k', ek, ek2, hk1, hk2⟩ := small n
  unfold maxLen at wa wb hkm
  have bi : (i' : Int) ≤ 999 := by omega
  have bk : (k' : Int) ≤ 999 := by omega
  have ba : (a.size : Int) ≤ 9223372036854775807 := by omega
  have bb : (b.size : Int) ≤ 9223372036854775807 := by omega
  have bc : (klen : Int) ≤ 9223372036854775807 := by omega
  by_cases c1 : 200 < a.size
  · have t1 : decide ((200 : Int) < (a.size : Int)) = true := decide_eq_true (by omega)
    have t1' : (200 : Int) < (a.size : Int) := by omega
    go_enter Tryd.func4, Tryd.ntmps4
    go_wp2_with (fail)
    refine HAW.out.mono ?_
    rintro e w1 ⟨rfl, b1⟩
    have B1 := Lib.hid b1
    clear b1
    go_wp2_with (fail)
    exact bodyPost_ret (results_tmp rfl _ _ _) rfl ⟨rfl, B1.out⟩
  have t1 : decide ((200 : Int) < (a.size : Int)) = false := decide_eq_false (by omega)
  by_cases c2 : 200 < b.size
  · have t2 : decide ((200 : Int) < (b.size : Int)) = true := decide_eq_true (by omega)
    have t2' : (200 : Int) < (b.size : Int) := by omega
    go_enter Tryd.func4, Tryd.ntmps4
    go_wp2_with (fail)
    refine HAW.out.mono ?_
    rintro e w1 ⟨rfl, b1⟩
    have B1 := Lib.hid b1
    clear b1
    go_wp2_with (fail)
    exact bodyPost_ret (results_tmp rfl _ _ _) rfl ⟨rfl, B1.out⟩
  have t2 : decide ((200 : Int) < (b.size : Int)) = false := decide_eq_false (by omega)
  by_cases c3 : 20 < klen
  · have t3 : decide ((20 : Int) < (klen : Int)) = true := decide_eq_true (by omega)
    have t3' : (20 : Int) < (klen : Int) := by omega
    go_enter Tryd.func4, Tryd.ntmps4
    go_wp2_with (fail)
    refine HAW.out.mono ?_
    rintro e w1 ⟨rfl, b1⟩
    have B1 := Lib.hid b1
    clear b1
    go_wp2_with (fail)
    exact bodyPost_ret (results_tmp rfl _ _ _) rfl ⟨rfl, B1.out⟩
  have t3 : decide ((20 : Int) < (klen : Int)) = false := decide_eq_false (by omega)
  by_cases c4 : i = k
  · have t4 : ((i : Int) == (k : Int)) = true := by rw [c4]; exact beq_self_eq_true _
    clear hi1 hi2 hk1 hk2 c4
    go_enter Tryd.func4, Tryd.ntmps4
    go_wp2_with (fail)
    refine HAW.out.mono ?_
    rintro e w1 ⟨rfl, b1⟩
    have B1 := Lib.hid b1
    clear b1
    go_wp2_with (fail)
    exact bodyPost_ret (results_tmp rfl _ _ _) rfl ⟨rfl, B1.out⟩
  have t4 : ((i : Int) == (k : Int)) = false := beq_eq_false_iff_ne.2 (by omega)
  have t5 : ((k : Int) == (i : Int)) = false := beq_eq_false_iff_ne.2 (by omega)
  have ha : a.size ≤ 200 := by omega
  have hb : b.size ≤ 200 := by omega
  have ma : szN a.size ≤ 9 := by unfold szN; omega
  have mb : szN b.size ≤ 9 := by unfold szN; omega
  have HREST := Lib.hid (rest a b i k ((List.range klen).map Y) ha hb hi1 hi2 hk1 hk2 c4)
  have HBS := Lib.hid (bools_at w B klen kcap Y hkc hY)
  have HY := Lib.hid hY
  have HT := Lib.hid hT
  have HSZ := Lib.hid (fun W => seal_size W b (by omega))
  have HI := Lib.hid (And.intro (And.intro hi1 (show i ≤ 2147483647 by omega)) (And.intro hk1 (show k ≤ 2147483647 by omega)))
  have HAB := Lib.hid (And.intro (show a.size ≤ 1024 by omega) (show b.size ≤ 1024 by omega))
  have HM := Lib.hid (And.intro ma mb)
  clear hY hT c1 c2 c4 ha hb ma mb hi1 hi2 hk1 hk2
  go_enter Tryd.func4, Tryd.ntmps4
  go_wp2_with (fail)
  refine HAW.out.mono ?_
  rintro e w1 ⟨rfl, b1⟩
  have B1 := Lib.hid b1
  clear b1 HAW
  go_wp2_with (fail)
  clear ei ek t1 t2 t3
  refine (at_new w w1 B1.out 12 12 (by omega)).mono ?_
  rintro e w2 ⟨D, rfl, h2⟩
  have H2 := Lib.hid (show Zn w w2 D x0 [] from Zn.of_at h2)
  clear h2 B1
  go_wp2_with (fail)
  refine (H2.out.news 0 12 (by decide) (by decide)).mono ?_
  rintro e w3 ⟨Z, rfl, h3⟩
  have H3 := Lib.hid h3
  clear h3 H2
  go_wp2_with (fail)
  refine (H3.out.put (Z := Z) (f := 0) (nz := 12) (List.mem_cons_self ..) HT.out rfl rfl (by decide) (by decide) (by decide) i a HI.out.1.1 HI.out.1.2 HAB.out.1 2 (by have := HM.out.1; omega)).mono ?_
  rintro e w4 ⟨rfl, h4⟩
  have H4 := Lib.hid (show Zn w w4 D (x1 a i) [(Z, zobj D 0 12)] from h4)
  have c4 := zone_c0 (h4.fix (Z, zobj D 0 12) (List.mem_cons_self ..))
  clear h4 H3
  go_wp2_with (fail)
  refine (H4.out.sync (a1 a i) (u1 a i) (by rw [l1]; have := HM.out.1; omega) (by rw [d1]; have := HM.out.1; omega)).mono ?_
  rintro e w5 ⟨rfl, h5⟩
  have H5 := Lib.hid (show Zn w w5 D (x2 a i) [(Z, zobj D 0 12)] from h5)
  clear h5 H4 c4
  go_wp2_with (fail)
  refine (H5.out.put (Z := Z) (f := 0) (nz := 12) (List.mem_cons_self ..) HT.out (a2 a i) (u2 a i) (by rw [l2]; decide) (by rw [d2]; have := HM.out.1; omega) (by rw [n2]; decide) k b HI.out.2.1 HI.out.2.2 HAB.out.2 2 (by have := HM.out.2; omega)).mono ?_
  rintro e w6 ⟨rfl, h6⟩
  have H6 := Lib.hid (show Zn w w6 D (x3 a b i k) [(Z, zobj D 0 12)] from h6)
  clear h6 H5
  go_wp2_with (fail)
  obtain ⟨kl, hkl⟩ : ∃ kl, kl = (List.range klen).map Y := ⟨_, rfl⟩
  have HKP := Lib.hid (show ∀ j, kp kl j = if j < klen then Y j else false from fun j => by rw [hkl]; exact kp_of klen Y j)
  have HKL := Lib.hid (show kl.length ≤ 1099511627776 by rw [hkl, List.length_map, List.length_range]; omega)
  rw [← hkl] at HREST HBS
  clear hkl c3
  go_loopw [16, 17, 18] (fun va vn vi wr => ∃ j : Nat, vi = .int .i64 (j : Int) ∧ j ≤ szN b.size ∧ va = .bool (allB kl j) ∧ vn = .bool (noneB kl j) ∧ Zn w wr D (x3 a b i k) [(Z, zobj D 0 12)]) (fun _ _ vi _ => match vi with | .int _ j => szN b.size - j.toNat | _ => 0)
  case atStart => exact ⟨0, rfl, Nat.zero_le _, rfl, rfl, H6.out⟩
  case round =>
    clear H6
    obtain ⟨j, rfl, hjs, rfl, rfl, hz⟩ := hrel
    have HZ := Lib.hid hz
    clear hz
    have y2 : 0 ≤ (j : Int) := by omega
    by_cases hlt : j < szN b.size
    · have y0 : (j : Int) < (szN b.size : Int) := by omega
      have y1 : decide ((j : Int) < (szN b.size : Int)) = true := decide_eq_true y0
      have HA1 := Lib.hid (show allB kl (j + 1) = (allB kl j && kp kl j) from rfl)
      have HN1 := Lib.hid (show noneB kl (j + 1) = (noneB kl j && !kp kl j) from rfl)
      have HJ := Lib.hid hlt
      have HB9 := HM.out.2
      clear hlt hjs
      have FIN : ∀ va vn, allB kl (j + 1) = va → noneB kl (j + 1) = vn → ∃ j' : Nat, Value.int .i64 ((j : Int) + 1) = .int .i64 (j' : Int) ∧ j' ≤ szN b.size ∧ Value.bool va = .bool (allB kl j') ∧ Value.bool vn = .bool (noneB kl j') ∧ Zn w wr D (x3 a b i k) [(Z, zobj D 0 12)] := fun va vn h1 h2 => ⟨j + 1, rfl, HJ.out, by rw [h1], by rw [h2], HZ.out⟩
      have FI := Lib.hid FIN
      clear FIN
      generalize allB kl j = va at HA1 ⊢
      generalize noneB kl j = vn at HN1 ⊢
      generalize szN b.size = sz at HSZ HB9 HJ FI y0 y1 ⊢
      by_cases hjl : j < klen
      · have z0 : (j : Int) < (klen : Int) := by omega
        have z1 : decide ((j : Int) < (klen : Int)) = true := decide_eq_true z0
        have z3 : ¬ (klen : Int) ≤ (j : Int) := by omega
        have z4 : decide ((klen : Int) ≤ (j : Int)) = false := decide_eq_false z3
        have z5 : decide (klen ≤ j) = false := decide_eq_false (by omega)
        have z6 : decide (j < klen) = true := decide_eq_true hjl
        obtain ⟨pb, po, rfl, hc⟩ := HY.out (by omega)
        have hcj := hc j hjl
        have hcw := (World.cell?_of_block (w := w) (a := ⟨pb, po + j, none⟩) (HZ.out.below.block pb (block_lt_of_cell hcj))).trans hcj
        have hkp := HKP.out j
        rw [if_pos hjl] at hkp
        rw [hkp] at HA1 HN1
        clear hc hcj hkp HKP HREST HBS hjl
        generalize Y j = yj at hcw HA1 HN1
        cases va <;> cases vn <;> cases yj
        all_goals
          go_wp2_with (fail)
          refine (HSZ.out wr).mono ?_
          rintro e w7 ⟨rfl, rfl⟩
          go_wp2_with (fail)
          exact ⟨FI.out _ _ HA1.out HN1.out, by show sz - ((j : Int) + 1).toNat < sz - (j : Int).toNat; have := HJ.out; omega⟩
      · have z0 : ¬ (j : Int) < (klen : Int) := by omega
        have z1 : decide ((j : Int) < (klen : Int)) = false := decide_eq_false z0
        have z3 : (klen : Int) ≤ (j : Int) := by omega
        have z4 : decide ((klen : Int) ≤ (j : Int)) = true := decide_eq_true z3
        have z5 : decide (klen ≤ j) = true := decide_eq_true (by omega)
        have z6 : decide (j < klen) = false := decide_eq_false hjl
        have hkp := HKP.out j
        rw [if_neg hjl] at hkp
        rw [hkp] at HA1 HN1
        clear hkp HKP HREST HBS hjl HY
        cases va <;> cases vn
        all_goals
          go_wp2_with (fail)
          refine (HSZ.out wr).mono ?_
          rintro e w7 ⟨rfl, rfl⟩
          go_wp2_with (fail)
          exact ⟨FI.out _ _ HA1.out HN1.out, by show sz - ((j : Int) + 1).toNat < sz - (j : Int).toNat; have := HJ.out; omega⟩
    · have hke : j = szN b.size := by omega
      subst hke
      have y0 : ¬ (szN b.size : Int) < (szN b.size : Int) := by omega
      have y1 : decide ((szN b.size : Int) < (szN b.size : Int)) = false := decide_eq_false y0
      have HCUT := Lib.hid (HZ.out.cut (a3 a b i k) (by rw [l3]; have := HM.out.2; omega) _ kl HKL.out HBS.out)
      have c6 := zone_c0 (HZ.out.fix (Z, zobj D 0 12) (List.mem_cons_self ..))
      have HGET := Lib.hid (fun (W : World) (s : ByteArray) (m e0 : Nat) (hW : Zn w W D ((x3 a b i k).fall kl).come [(Z, zobj D 0 12)]) (hg : getR (rdZ ((x3 a b i k).fall kl).come 0) 12 2 = (s, m, e0)) => hW.get (Z := Z) (f := 0) (nz := 12) (List.mem_cons_self ..) HT.out rfl (by rw [show ((x3 a b i k).fall kl).come.n = 12 from n3 a b i k]; decide) 2 (by decide) hg)
      clear HI HAB HM hlt hjs HKP HKL HBS HY
      generalize allB kl (szN b.size) = va at HREST ⊢
      generalize noneB kl (szN b.size) = vn at HREST ⊢
      generalize szN b.size = sz at HSZ y0 y1 y2 ⊢
      go_wp2_with (fail)
      refine (HSZ.out wr).mono ?_
      rintro e w7 ⟨rfl, rfl⟩
      go_wp2_with (fail)
      refine HCUT.out.mono ?_
      rintro e w8 ⟨rfl, h8⟩
      have H8 := Lib.hid h8
      have c8 := zone_c0 (h8.fix (Z, zobj D 0 12) (List.mem_cons_self ..))
      clear h8 c6 HCUT HZ HSZ
      go_wp2_with (fail)
      refine H8.out.come.mono ?_
      rintro e w9 ⟨rfl, h9⟩
      have H9 := Lib.hid h9
      clear h9 c8 H8
      go_wp2_with (fail)
      rcases HREST.out with hg | ⟨hg, hv⟩ | ⟨hg, hv, hu⟩
      · have HG := Lib.hid (HGET.out w9 b k 0 H9.out hg)
        clear hg HREST HGET
        refine HG.out.mono ?_
        rintro e wa ⟨rfl, ha⟩
        have HA := Lib.hid ha
        clear ha HG
        go_wp2_with (fail)
        refine bodyPost_ret (results_tmp rfl _ _ _) rfl ?_
        exact ⟨rfl, HA.out.below⟩
      · subst hv
        have HG := Lib.hid (HGET.out w9 a i 0 H9.out hg)
        clear hg HREST HGET
        refine HG.out.mono ?_
        rintro e wa ⟨rfl, ha⟩
        have HA := Lib.hid ha
        clear ha HG
        go_wp2_with (fail)
        refine bodyPost_ret (results_tmp rfl _ _ _) rfl ?_
        exact ⟨rfl, HA.out.below⟩
      · subst hv hu
        have HG := Lib.hid (HGET.out w9 ⟨#[]⟩ 0 5 H9.out hg)
        clear hg HREST HGET
        refine HG.out.mono ?_
        rintro e wa ⟨rfl, ha⟩
        have HA := Lib.hid ha
        clear ha HG
        go_wp2_with (fail)
        refine bodyPost_ret (results_tmp rfl _ _ _) rfl ?_
        exact ⟨rfl, HA.out.below⟩
end Go.Proofs.YtegehfdjchmgcaaDoor.sealWhole
