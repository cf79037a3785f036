/-
  Package gen: what say answers, by what takes a token. Conditions: a model stands in its block, its weights are as many as its shape asks; the prompt is there, and something can be said behind it; what takes a token turns nothing that lay; the tables lie where they are looked up.
  append of a row, or of none, onto a row of numbers that one owns: where the new slice lies. No program's function here. No conditions.
  append of a row, or of none, or of nil, onto a row that one owns: in the walk, and in a region that draws its order. No program's function here. No conditions.
-/
import Derived.Test.YtkdkeokldcehhaaGreatDoorMg23
import Derived.Test.YtkdkeokldcehhaaGreatDoorMg18
import Derived.Test.YtkdkeokldcehhaaGreatDoorMg25
import Derived.Test.YtkdkeokldcehhaaGreatDoorMg16
import Derived.Test.YtkdkeokldcehhaaGreatDoorMg12
import Derived.Laws.OwnMore
set_option maxRecDepth 100000
namespace Go.Proofs.YtkdkeokldcehhaaGreatDoor
open Go.ChangeShapes Go.WideShapes Go.ChangeAt Go.RowKit Cf Vc Br Nr Sf Ac Sp Gn

namespace Gn
/-- What is said, as an answer: in a row of its own. -/
def SaidSays (w : World) (G : List Int) (e : Ending) (w' : World) : Prop := ∃ A c, e = .returned (.tuple #[.slice A G.length c, .int .i64 0]) ∧ KIn .i64 w' A G ∧ G.length ≤ c ∧ Below w.heap.size w w'
/-- What a function value that takes tokens answers. -/
def TakesBy (w : World) (g : Nat) (lb : Array Value) (tk : Nat → List Int → Int) : Prop := ∀ W, Below w.heap.size w W → ∀ (i n c : Nat) (A : Option Addr) (sc : List Int), sc.length = n → n ≤ 64 → i ≤ 64 → KIn .i64 W A sc →
  Calls Tryz.prog g (#[.int .i64 (i : Int), .slice A n c] ++ lb) W fun e w' => e = .returned (.int .i64 (tk i sc)) ∧ Below W.heap.size W w'
theorem all_snoc {x : Cfg} {L : List Int} {z : Int} (h : L.all (tokB x) = true) (hz : 0 ≤ z ∧ z < x.v) : (L ++ [z]).all (tokB x) = true := by
  rw [List.all_append, h]
  simp [tokB, hz]
theorem own_cap {W : World} {base n c : Nat} {A : Option Addr} {zs : List Int} (h : Own W base (.slice A n c) zs) : n ≤ c := by
  rcases h.2 with ⟨e, h0⟩ | ⟨g, cap, cur, e, _, _, hc, _⟩
  · injection e with _ e2 e3; omega
  · injection e with _ e2 e3; omega
/-- A round's run can go. -/
theorem round_ok {x : Cfg} {s : ByteArray} {pre us T : List Int} {R : List (Er × Ent)} (hp : past R = runE x s [] pre) (hu : 0 < us.length) (hT : pre ++ us = T) (ha : T.all (tokB x) = true) (hl : (T.length : Int) ≤ x.c) : errR x (past R) us = 0 := by
  refine errR_ok.2 ⟨List.length_pos_iff.1 hu, ?_, ?_, ?_⟩
  · rw [hp]
    exact List.all_eq_true.2 fun e he => runE_good x s pre [] e he
  · rw [← hT, List.all_append] at ha
    simp at ha
    exact List.all_eq_true.2 fun z hz => ha.2 z hz
  · rw [hp, runE_length]
    rw [← hT, List.length_append] at hl
    omega
end Gn
section
variable (w : World) (b : Nat) (x : Cfg) (s : ByteArray) (h : w.heap[b]? = some (brO x s)) (hk : Ok x s) (T : Option Addr) (m d : Nat) (ts : List Int) (hT : ts.length = m) (hm : m ≤ 1000000) (hK : KIn .i64 w T ts)
include h hT hm hK
set_option maxRecDepth 100000 in
theorem gen_say_not (most : Int) (f : Value) (he : errG x most ts ≠ 0) :
    Calls Tryz.prog 44 #[.pointer (some ⟨b, 0, none⟩), .slice T m d, .int .i64 most, f] w fun e w' => e = .returned (.tuple #[.slice none 0 0, .int .i64 (errG x most ts)]) ∧ Below w.heap.size w w' := by
  have HC := Lib.hid (gen_check w T m d ts most b x s h hT hm hK)
  generalize errG x most ts = r at HC he ⊢
  have t0 : (r != 0) = true := bne_iff_ne.2 he
  clear h hT hm hK he
  go_enter Tryz.func44, Tryz.ntmps44
  go_wp2_with (fail)
  refine HC.out.mono ?_
  rintro e w1 ⟨rfl, b1⟩
  have HB := Lib.hid b1
  clear b1
  go_wp2_with (fail)
  exact bodyPost_ret (results_tmp2 rfl _ _ _) rfl ⟨rfl, HB.out⟩
include hk
set_option maxRecDepth 100000 in
set_option maxHeartbeats 12800000 in
theorem gen_say (M : Nat) (he : errG x (M : Int) ts = 0) (hp : POn w) (hg : GOn w) (g : Nat) (lb : Array Value) (tk : Nat → List Int → Int) (ht : TakesIn tk) (eg : ∀ args w, (callFunc g args).run Tryz.prog w = .ok (.enter g args) w) (hc : TakesBy w g lb tk) :
    Calls Tryz.prog 44 #[.pointer (some ⟨b, 0, none⟩), .slice T m d, .int .i64 (M : Int), .func (.func g) #[] lb] w (SaidSays w (genT x s tk M 0 ts)) := by
  have HC := Lib.hid (gen_check w T m d ts (M : Int) b x s h hT hm hK)
  rw [he] at HC
  obtain ⟨h0, h1, h2, h3, h4⟩ := errG_ok.1 he
  have HV := Lib.hid (show vN x ≤ 64 ∧ 0 < vN x ∧ (vN x : Int) = x.v by
    have h1 := (dims hk.good.is).2.2.2; have h2 := hk.good.is.v2; have h3 := hk.good.is.v32; omega)
  have hc32 := hk.good.is.c32
  have HL := Lib.hid (show 0 < m ∧ (m : Int) + M ≤ x.c ∧ x.c ≤ 32 ∧ 1 ≤ M by omega)
  have HH := Lib.hid h
  have HK := Lib.hid hk
  have HKT := Lib.hid hK
  have HTL := Lib.hid hT
  have HPG := Lib.hid (And.intro hp hg)
  have HT := Lib.hid ht
  have HCL := Lib.hid hc
  have HTB := Lib.hid h3
  obtain ⟨i0, hi, hz0, hz1, hz2⟩ := info_parts info_int
  obtain ⟨j0, hj, hy0, hy1, hy2⟩ := info_parts info_entry2
  have HI := Lib.hid hi
  have HZ0 := Lib.hid hz0
  have HZ1 := Lib.hid hz1
  have HZ2 := Lib.hid hz2
  have HJ := Lib.hid hj
  have HY0 := Lib.hid hy0
  have HY1 := Lib.hid hy1
  have HY2 := Lib.hid hy2
  clear h hk hT hm hK he hp hg ht hc h0 h1 h2 h3 h4 hc32 hi hz0 hz1 hz2 hj hy0 hy1 hy2
  go_enter Tryz.func44, Tryz.ntmps44
  go_wp2_with (fail)
  refine HC.out.mono ?_
  rintro e w1 ⟨rfl, b1⟩
  have B1 := Lib.hid b1
  clear b1 HC
  go_wp2_with (fail)
  go_loopw [11, 12, 13] (fun sv pv tv wr => ∃ (k : Nat) (SA : Option Addr) (sc r : Nat) (PA : Option Addr) (pc q : Nat) (TA : Option Addr) (tc : Nat) (S : List Int) (R : List (Er × Ent)) (us pre : List Int), sv = .slice SA k sc ∧ pv = .slice PA r pc ∧ tv = .slice TA q tc ∧ S.length = k ∧ R.length = r ∧ us.length = q ∧ 0 < q ∧ k ≤ M ∧ Saying w (.slice SA k sc) (.slice PA r pc) S R [] wr ∧ KIn .i64 wr TA us ∧ past R = runE x s [] pre ∧ pre ++ us = ts ++ S ∧ genT x s tk M 0 ts = S ++ genT x s tk (M - k) k (ts ++ S) ∧ (ts ++ S).all (tokB x) = true) (fun sv _ _ _ => match sv with | .slice _ k _ => M - k | _ => 0)
  case atStart => exact ⟨0, none, 0, 0, none, 0, m, T, d, [], [], ts, [], rfl, rfl, rfl, rfl, rfl, HTL.out, HL.out.1, Nat.zero_le _, (Saying.start w).step B1.out, HKT.out.below B1.out (Nat.le_refl _), rfl, by rw [List.append_nil]; rfl, by rw [List.append_nil]; rfl, by rw [List.append_nil]; exact HTB.out⟩
  case round =>
    obtain ⟨k, SA, sc, r, PA, pc, q, TA, tc, S, R, us, pre, rfl, rfl, rfl, hS, hR, hU, hq, hkM, hsy, hka, hpr, hcat, hgen, hall⟩ := hrel
    have HS := Lib.hid hS
    have HR := Lib.hid hR
    have HU := Lib.hid hU
    have HQ := Lib.hid hq
    have HSY := Lib.hid hsy
    have HKA := Lib.hid hka
    have HPR := Lib.hid hpr
    have HCAT := Lib.hid hcat
    have HGEN := Lib.hid hgen
    have HALL := Lib.hid hall
    have HCAP := Lib.hid (own_cap hsy.own)
    have HRQ := Lib.hid (show r + q = m + k by
      have e1 := congrArg List.length hcat
      have e2 := congrArg List.length hpr
      rw [past_length, runE_length] at e2
      rw [List.length_append, List.length_append, HTL.out, hS, hU] at e1
      omega)
    clear hS hR hU hq hsy hka hpr hcat hgen hall
    have x2 : 0 ≤ (k : Int) := by omega
    by_cases hlt : k < M
    · have x0 : (k : Int) < (M : Int) := by omega
      have x1 : decide ((k : Int) < (M : Int)) = true := decide_eq_true x0
      have HLT := Lib.hid hlt
      have HSZ := Lib.hid (HSY.out.below.size)
      have HRUN := Lib.hid (show Calls Tryz.prog 32 #[.pointer (some ⟨b, 0, none⟩), .slice PA r pc, .slice TA q tc] wr (fun e w' => ∃ EA ec SC cc F, e = .returned (.tuple #[.slice EA q ec, .slice SC (vN x) cc, .int .i64 0]) ∧ (past R ++ past F = runE x s [] (pre ++ us) ∧ F.length = q) ∧ EsIn w' EA F ∧ KIn .i64 w' SC (runS x s [] (ts ++ S)) ∧ (runS x s [] (ts ++ S)).length = vN x ∧ (∀ p ∈ F, Fr wr.heap.size p.1 p.2) ∧ (∀ a, EA = some a → wr.heap.size ≤ a.block) ∧ Below wr.heap.size wr w') from by
        have h1 := step_run wr PA r pc R TA q tc us b x s (Br.stays HH.out HSY.out.below) HK.out HR.out (by have := HRQ.out; have := HL.out; omega) HSY.out.ga.es HU.out (by have := HRQ.out; have := HL.out; omega) HKA.out
          (round_ok HPR.out (by rw [HU.out]; exact HQ.out) HCAT.out HALL.out (by rw [List.length_append, HTL.out, HS.out]; have := HL.out; omega)) (HPG.out.1.below HSY.out.below (Nat.le_refl _)) (HPG.out.2.below HSY.out.below (Nat.le_refl _))
        refine h1.mono fun e w' ⟨EA, ec, SC, cc, F, a1, a2, a3, a4, a5, ⟨a6, _, a7⟩, a8⟩ => ?_
        have hne : us ≠ [] := List.length_pos_iff.1 (by rw [HU.out]; exact HQ.out)
        have e1 : runS x s (past R) us = runS x s [] (ts ++ S) := by rw [HPR.out, ← HCAT.out, runS_append x s hne pre []]; rfl
        rw [e1] at a4 a5
        refine ⟨EA, ec, SC, cc, F, by rw [a1, HU.out], ⟨by rw [runE_append, a2, HPR.out]; rfl, by rw [← past_length, a2, runE_length, HU.out]⟩, a3, a4, a5, a6, a7, a8⟩)
      clear hkM
      go_wp2_with (fail)
      refine HRUN.out.mono ?_
      rintro e w2 ⟨EA, ec, SC, cc, F, rfl, ⟨hpf, hfl⟩, hei, hki, hsl, hfr, hea, b2⟩
      have HPF := Lib.hid hpf
      have HFL := Lib.hid hfl
      have HSY2 := Lib.hid (HSY.out.come b2 (fun p hp => hei.all p hp) hfr)
      have HES2 := Lib.hid hei.row
      have HEA := Lib.hid hea
      have HTK := Lib.hid (show Calls Tryz.prog g (#[.int .i64 (k : Int), .slice SC (vN x) cc] ++ lb) w2 fun e w' => e = .returned (.int .i64 (tokT x s tk k (ts ++ S))) ∧ Below w2.heap.size w2 w' from
        HCL.out w2 HSY2.out.below k (vN x) cc SC _ hsl HV.out.1 (by have := HL.out; have := HLT.out; omega) hki)
      have HIN := Lib.hid (show 0 ≤ tokT x s tk k (ts ++ S) ∧ tokT x s tk k (ts ++ S) < x.v from by
        have h1 := HT.out k _ (by rw [hsl]; exact HV.out.2.1) (by rw [hsl]; exact HV.out.1)
        rw [hsl, HV.out.2.2] at h1
        exact h1)
      have HLW := Lib.hid (HSY.out.lt)
      have HBS := Lib.hid b2.size
      have HG1 := Lib.hid (fun hz : tokT x s tk k (ts ++ S) = 0 => show genT x s tk M 0 ts = S by rw [HGEN.out, genT_end x s tk hz, List.append_nil])
      have HG2 := Lib.hid (fun hz : tokT x s tk k (ts ++ S) ≠ 0 => show genT x s tk M 0 ts = (S ++ [tokT x s tk k (ts ++ S)]) ++ genT x s tk (M - (k + 1)) (k + 1) (ts ++ (S ++ [tokT x s tk k (ts ++ S)])) by
        obtain ⟨n, hn⟩ : ∃ n, M - k = n + 1 := ⟨M - k - 1, by have := HLT.out; omega⟩
        rw [HGEN.out, hn, genT_more x s tk hz, show M - (k + 1) = n by omega, List.append_assoc, List.append_assoc, List.singleton_append])
      clear hpf hfl hei hki hsl hfr hea b2 HRUN HGEN HSY
      generalize tokT x s tk k (ts ++ S) = z at HTK HIN HG1 HG2
      by_cases hz : z = 0
      · have t0 : (z == 0) = true := beq_iff_eq.2 hz
        have HG := Lib.hid (HG1.out hz)
        clear hz HG1 HG2
        go_wp2_with (go_at_fn g; refine HTK.out.mono ?_; rintro e w3 ⟨rfl, b3⟩; have HSY3 := Lib.hid (HSY2.out.step b3); clear b3)
        refine bodyPost_ret (results_tmp2 rfl _ _ _) rfl ?_
        exact ⟨SA, sc, by rw [HG.out, HS.out]; rfl, by rw [HG.out]; exact HSY3.out.own.kin, by rw [HG.out, HS.out]; exact HCAP.out, HSY3.out.below⟩
      · have t0 : (z == 0) = false := beq_eq_false_iff_ne.2 hz
        have HG := Lib.hid (HG2.out hz)
        have HAL := Lib.hid (show (ts ++ (S ++ [z])).all (tokB x) = true from by rw [← List.append_assoc]; exact all_snoc HALL.out HIN.out)
        have HML := Lib.hid (show k + 1 ≤ maxLen ∧ (k + 1) * 8 ≤ 140737488355328 ∧ r + q ≤ maxLen ∧ (r + q) * 48 ≤ 140737488355328 from by have := HL.out; have := HLT.out; have := HRQ.out; unfold maxLen; omega)
        clear hz HG1 HG2
        go_upto_region 13 with (go_at_fn g; refine HTK.out.mono ?_; rintro e w3 ⟨rfl, b3⟩; have HSY3 := Lib.hid (HSY2.out.step b3); have HES3 := Lib.hid (HES2.out.below b3); have HB3 := Lib.hid b3.size; clear b3)
        have HW3 := Lib.hid (Own.at HSY3.out.own HS.out)
        have HSZ3 := Lib.hid HSY3.out.below.size
        go_upto_region 14 with (at_builtin; refine wpList_append_lies _ rfl (.tmp 48) (.tmp 50) 45 rfl w.heap.size 3 i0 _ 1 8 Tryz.underlying45 HI.out HZ0.out HZ1.out HZ2.out rfl Nat.one_pos (.slice SA k sc) k _ rfl (HW3.out.alloc _) ⟨w3.heap.size, 0, none⟩ 1 1 [.int .i64 z] rfl rfl (one_src w3 z) (one_one z) Nat.one_pos HML.out.1 HML.out.2.1 (base_le HSY3.out.below rfl _) _ rfl ?_; intro g1 c1 w4 hown1 hgrow1 hat1 hlt1)
        have HSY4 := Lib.hid (show Saying w (.slice (some ⟨g1, 0, none⟩) (k + 1) c1) (.slice PA r pc) (S ++ [z]) R F w4 from by
          have h1 := HSY3.out.said (g := g1) (cap := c1) (z := z) (wz := w4) (.cells #[.int .i64 z] 3) (by rw [HS.out]; exact hown1) hgrow1 hat1
          rw [HS.out] at h1
          exact h1)
        have HES4 := Lib.hid (es_moved (w' := w4) HES3.out fun a e hl => by
          have e1 := HEA.out a e
          exact (hgrow1.block a.block (by simp; omega) fun e2 => by have := HLW.out.1 a.block e2.symm; omega).trans (Below.heap_alloc w3 _ a.block hl))
        obtain ⟨pb, po, hEe, hcs⟩ := HES4.out (by rw [HFL.out]; exact HQ.out)
        subst hEe
        have HCS := Lib.hid (show ∀ j u, (eCs F)[j]? = some u → w4.cell? ((⟨pb, po, none⟩ : Addr).add j) = some u from fun j u hj => by
          have := hcs j u hj
          by_cases h0 : j = 0
          · subst h0
            simpa [Addr.add] using this
          · simpa [Addr.add, h0] using this)
        have HW4 := Lib.hid (show w4.ownsRow w.heap.size 29 2 (.slice PA r pc) r (eCs R) from by
          have h1 := HSY4.out.ga.own
          rw [HR.out] at h1
          exact h1)
        have HLF := Lib.hid (show (eCs F).length = q * 2 by rw [eCs_length, HFL.out])
        have HSZ4 := Lib.hid HSY4.out.below.size
        clear hcs hown1 hgrow1 hat1 hlt1 HSY3 HES3 HW3
        go_upto_region 15 with (at_builtin; refine wpList_append_lies _ rfl (.tmp 52) (.tmp 53) 24 rfl w.heap.size 29 j0 _ 2 48 Tryz.underlying24 HJ.out HY0.out HY1.out HY2.out rfl (by omega) (.slice PA r pc) r (eCs R) rfl HW4.out ⟨pb, po, none⟩ q ec (eCs F) rfl HLF.out HCS.out (eCs_one F) HQ.out HML.out.2.2.1 HML.out.2.2.2 HSZ4.out _ rfl ?_; intro g2 c2 w5 hown2 hgrow2 hat2 hlt2)
        have HSY5 := Lib.hid (show Saying w (.slice (some ⟨g1, 0, none⟩) (k + 1) c1) (.slice (some ⟨g2, 0, none⟩) (r + q) c2) (S ++ [z]) (R ++ F) [] w5 from by
          have h1 := HSY4.out.laid (g := g2) (cap := c2) (wz := w5) (by rw [HR.out, HFL.out]; exact hown2) hgrow2 hat2
          rw [HR.out, HFL.out] at h1
          exact h1)
        clear hown2 hgrow2 hat2 hlt2 HSY4 HES4 HCS HW4
        go_wp2_with (fail)
        exact ⟨⟨k + 1, some ⟨g1, 0, none⟩, c1, r + q, some ⟨g2, 0, none⟩, c2, 1, some ⟨w5.heap.size, 0, none⟩, 1, S ++ [z], R ++ F, [z], pre ++ us, rfl, rfl, rfl, by rw [List.length_append, HS.out]; rfl, by rw [List.length_append, HR.out, HFL.out], rfl, Nat.one_pos, HLT.out,
          HSY5.out.step ((Below.refl _ _).alloc (Nat.le_refl _) _), kin1 w5 _ z rfl, by rw [past_append]; exact HPF.out, by rw [HCAT.out, List.append_assoc], HG.out, HAL.out⟩, by have := HLT.out; show M - (k + 1) < M - k; omega⟩
    · have hke : k = M := by omega
      have x0 : ¬ (k : Int) < (M : Int) := by omega
      have x1 : decide ((k : Int) < (M : Int)) = false := decide_eq_false x0
      have HG := Lib.hid (show genT x s tk M 0 ts = S by rw [HGEN.out, hke, Nat.sub_self, genT_zero, List.append_nil])
      clear hke hlt hkM
      go_wp2_with (fail)
      refine bodyPost_ret (results_tmp2 rfl _ _ _) rfl ?_
      exact ⟨SA, sc, by rw [HG.out, HS.out]; rfl, by rw [HG.out]; exact HSY.out.own.kin, by rw [HG.out, HS.out]; exact HCAP.out, HSY.out.below⟩
end
end Go.Proofs.YtkdkeokldcehhaaGreatDoor
namespace Go.Proofs.YtkdkeokldcehhaaGreatDoor
open Go.ChangeShapes Go.WideShapes Go.ChangeAt Go.RowKit Vc

namespace Vc
theorem run_append_zero {P : Program} {w : World} (base : Nat) (t ty e : TypeId) (i : TypeInfo) (size : Nat) (ht : P.underlying t = some (.slice e)) (hi : P.info? e = some i)
    (v : Value) (n : Nat) (xs : List Value) (hown : w.ownsRow base e size v n xs) (ad : Addr) (c : Nat) :
    (Builtin.append_ #[t, t] ty #[v, .slice (some ad) 0 c]).run P w = .ok v w := by
  rcases hown.2 with ⟨rfl, rfl⟩ | ⟨g, cap, cur, rfl, _, _, hnc, _⟩
  · simp [Builtin.append_, run_underlying ht, sizeOf, typeInfo, hi, Builtin.lenOf, Builtin.firstCells, loadCells, loadCellsFrom]
  · simp [Builtin.append_, run_underlying ht, sizeOf, typeInfo, hi, Builtin.lenOf, Builtin.firstCells, hnc, storeCells, loadCells, loadCellsFrom]
theorem grown_refl (w : World) (r : Option Nat) : w.grownBy w r := ⟨rfl, rfl, rfl, Nat.le_refl _, fun _ _ _ => rfl⟩
/-- At a step of a region that draws its order: m numbers, or none, onto a row that has a block. -/
theorem step_append_any {P : Program} {w : World} {ops : Array Oper} {o : Oper} {a : Act} {K : Act → World → Prop} {Q : Exit → Act → World → Prop} {E : Prop} (hgd : o.guard = none) (s x : Operand) (t : TypeId)
    (ho : o.op = .call { callee := .builtin .append, args := #[s, x], argTypes := #[t, t] })
    (base : Nat) (e : TypeId) (i : TypeInfo) (z : Value) (size bytes : Nat) (ht : P.underlying t = some (.slice e)) (hi : P.info? e = some i) (hz : i.zero = some z)
    (hsize : i.size = size) (hby : i.bytes = bytes) (hzs : z.cells.size = size) (hsz : 0 < size)
    (g0 n c0 : Nat) (xs : List Value) (hs : a.eval s = .slice (some ⟨g0, 0, none⟩) n c0) (hown : w.ownsRow base e size (.slice (some ⟨g0, 0, none⟩) n c0) n xs)
    (ad : Addr) (m c : Nat) (news : List Value) (hx : a.eval x = .slice (some ad) m c) (hl : news.length = m * size) (hnews : ∀ j u, news[j]? = some u → w.cell? (ad.add j) = some u) (h1 : ∀ u ∈ news, u.oneCell' = true)
    (h63 : n + m ≤ maxLen) (hbytes : (n + m) * bytes ≤ 140737488355328) (hbase : base ≤ w.heap.size)
    (h : ∀ g cap w', w'.ownsRow base e size (.slice (some ⟨g, 0, none⟩) (n + m) cap) (n + m) (xs ++ news) → w.grownBy w' (Value.slice (some ⟨g0, 0, none⟩) n c0).ownBlock → K (a.put o.dst (.slice (some ⟨g, 0, none⟩) (n + m) cap)) w') :
    if Region.wanted o (yielded ops a.tmps) = true then Oper.wp P o a w K Q else E := by
  by_cases hm : 0 < m
  · exact step_append_lies w hgd s x t ho base e i z size bytes ht hi hz hsize hby hzs hsz _ n xs hs hown ad m c news hx hl hnews h1 hm h63 hbytes hbase _ rfl fun g cap w' a1 a2 _ _ => h g cap w' a1 a2
  · obtain rfl : m = 0 := by omega
    have hn : news = [] := List.length_eq_zero_iff.1 (by rw [hl, Nat.zero_mul])
    subst hn
    have hw : Region.wanted o (yielded ops a.tmps) = true := by simp [Region.wanted, hgd]
    rw [if_pos hw]
    have hr := run_append_zero (P := P) (w := w) base t o.type e i size ht hi _ n xs hown ad c
    unfold Oper.wp execOp
    simp only [ho, resolve, invoke, builtin, Sem.run_bind, Sem.run_pure, Result.andThen_ok, List.map_toArray, List.map_cons, List.map_nil, hs, hx, hr]
    exact h g0 c0 w (by rw [List.append_nil]; exact hown) (grown_refl w _)
end Vc
end Go.Proofs.YtkdkeokldcehhaaGreatDoor
namespace Go.Proofs.YtkdkeokldcehhaaGreatDoor
open Go.ChangeShapes Go.WideShapes Go.ChangeAt Go.RowKit Vc

namespace Vc
theorem run_append_zero' {P : Program} {w : World} (base : Nat) (t ty e : TypeId) (i : TypeInfo) (size : Nat) (ht : P.underlying t = some (.slice e)) (hi : P.info? e = some i)
    (v : Value) (n : Nat) (xs : List Value) (hown : w.ownsRow base e size v n xs) (D : Option Addr) (c : Nat) :
    (Builtin.append_ #[t, t] ty #[v, .slice D 0 c]).run P w = .ok v w := by
  cases D with
  | some ad => exact run_append_zero base t ty e i size ht hi v n xs hown ad c
  | none =>
    rcases hown.2 with ⟨rfl, rfl⟩ | ⟨g, cap, cur, rfl, _, _, hnc, _⟩
    · simp [Builtin.append_, run_underlying ht, sizeOf, typeInfo, hi, Builtin.lenOf, Builtin.firstCells]
    · simp [Builtin.append_, run_underlying ht, sizeOf, typeInfo, hi, Builtin.lenOf, Builtin.firstCells, hnc, storeCells]
theorem wp_append_every {P : Program} {w : World} {o : Oper} {a : Act} {K : Act → World → Prop} {Q : Exit → Act → World → Prop} (s x : Operand) (t : TypeId)
    (ho : o.op = .call { callee := .builtin .append, args := #[s, x], argTypes := #[t, t] })
    (base : Nat) (e : TypeId) (i : TypeInfo) (z : Value) (size bytes : Nat) (ht : P.underlying t = some (.slice e)) (hi : P.info? e = some i) (hz : i.zero = some z)
    (hsize : i.size = size) (hby : i.bytes = bytes) (hzs : z.cells.size = size) (hsz : 0 < size)
    (v : Value) (n : Nat) (xs : List Value) (hs : a.eval s = v) (hown : w.ownsRow base e size v n xs) (hv : v.ownBlock ≠ none)
    (D : Option Addr) (m c : Nat) (news : List Value) (hx : a.eval x = .slice D m c) (hl : news.length = m * size) (hnews : 0 < m → ∃ ad, D = some ad ∧ ∀ j u, news[j]? = some u → w.cell? (ad.add j) = some u) (h1 : ∀ u ∈ news, u.oneCell' = true)
    (h63 : n + m ≤ maxLen) (hbytes : (n + m) * bytes ≤ 140737488355328) (hbase : base ≤ w.heap.size)
    (h : ∀ g cap w', w'.ownsRow base e size (.slice (some ⟨g, 0, none⟩) (n + m) cap) (n + m) (xs ++ news) → w.grownBy w' v.ownBlock → K (a.put o.dst (.slice (some ⟨g, 0, none⟩) (n + m) cap)) w') :
    Oper.wp P o a w K Q := by
  by_cases hm : 0 < m
  · obtain ⟨ad, rfl, hc⟩ := hnews hm
    exact wp_append_lies w s x t ho base e i z size bytes ht hi hz hsize hby hzs hsz v n xs hs hown ad m c news hx hl hc h1 hm h63 hbytes hbase _ rfl fun g cap w' a1 a2 _ _ => h g cap w' a1 a2
  · obtain rfl : m = 0 := by omega
    have hn : news = [] := List.length_eq_zero_iff.1 (by rw [hl, Nat.zero_mul])
    subst hn
    have hr := run_append_zero' (P := P) (w := w) base t o.type e i size ht hi _ n xs hown D c
    obtain ⟨g, cap, hv2⟩ : ∃ g cap, v = .slice (some ⟨g, 0, none⟩) n cap := by
      rcases hown.2 with ⟨e1, _⟩ | ⟨g, cap, _, e1, _⟩
      · exact absurd (by rw [e1]; rfl) hv
      · exact ⟨g, cap, e1⟩
    have h2 := h g cap w (by rw [List.append_nil, Nat.add_zero, ← hv2]; exact hown) (grown_refl w _)
    rw [Nat.add_zero, ← hv2] at h2
    unfold Oper.wp execOp
    simp only [ho, resolve, invoke, builtin, Sem.run_bind, Sem.run_pure, Result.andThen_ok, List.map_toArray, List.map_cons, List.map_nil, hs, hx, hr]
    exact h2
theorem wpList_append_every {P : Program} {w : World} {ops : Array Oper} {rest : List Oper} {o : Oper} {a : Act} {Q : Exit → Act → World → Prop} (hgd : o.guard = none) (s x : Operand) (t : TypeId)
    (ho : o.op = .call { callee := .builtin .append, args := #[s, x], argTypes := #[t, t] })
    (base : Nat) (e : TypeId) (i : TypeInfo) (z : Value) (size bytes : Nat) (ht : P.underlying t = some (.slice e)) (hi : P.info? e = some i) (hz : i.zero = some z)
    (hsize : i.size = size) (hby : i.bytes = bytes) (hzs : z.cells.size = size) (hsz : 0 < size)
    (v : Value) (n : Nat) (xs : List Value) (hs : a.eval s = v) (hown : w.ownsRow base e size v n xs) (hv : v.ownBlock ≠ none)
    (D : Option Addr) (m c : Nat) (news : List Value) (hx : a.eval x = .slice D m c) (hl : news.length = m * size) (hnews : 0 < m → ∃ ad, D = some ad ∧ ∀ j u, news[j]? = some u → w.cell? (ad.add j) = some u) (h1 : ∀ u ∈ news, u.oneCell' = true)
    (h63 : n + m ≤ maxLen) (hbytes : (n + m) * bytes ≤ 140737488355328) (hbase : base ≤ w.heap.size)
    (h : ∀ g cap w', w'.ownsRow base e size (.slice (some ⟨g, 0, none⟩) (n + m) cap) (n + m) (xs ++ news) → w.grownBy w' v.ownBlock → wpList P ops Q rest (a.put o.dst (.slice (some ⟨g, 0, none⟩) (n + m) cap)) w') : wpList P ops Q (o :: rest) a w :=
  wpList_plain hgd fun _ hK => wp_append_every s x t ho base e i z size bytes ht hi hz hsize hby hzs hsz v n xs hs hown hv D m c news hx hl hnews h1 h63 hbytes hbase fun g cap w' a1 a2 => hK _ _ (h g cap w' a1 a2)
theorem step_append_every {P : Program} {w : World} {ops : Array Oper} {o : Oper} {a : Act} {K : Act → World → Prop} {Q : Exit → Act → World → Prop} {E : Prop} (hgd : o.guard = none) (s x : Operand) (t : TypeId)
    (ho : o.op = .call { callee := .builtin .append, args := #[s, x], argTypes := #[t, t] })
    (base : Nat) (e : TypeId) (i : TypeInfo) (z : Value) (size bytes : Nat) (ht : P.underlying t = some (.slice e)) (hi : P.info? e = some i) (hz : i.zero = some z)
    (hsize : i.size = size) (hby : i.bytes = bytes) (hzs : z.cells.size = size) (hsz : 0 < size)
    (g0 n c0 : Nat) (xs : List Value) (hs : a.eval s = .slice (some ⟨g0, 0, none⟩) n c0) (hown : w.ownsRow base e size (.slice (some ⟨g0, 0, none⟩) n c0) n xs)
    (D : Option Addr) (m c : Nat) (news : List Value) (hx : a.eval x = .slice D m c) (hl : news.length = m * size) (hnews : 0 < m → ∃ ad, D = some ad ∧ ∀ j u, news[j]? = some u → w.cell? (ad.add j) = some u) (h1 : ∀ u ∈ news, u.oneCell' = true)
    (h63 : n + m ≤ maxLen) (hbytes : (n + m) * bytes ≤ 140737488355328) (hbase : base ≤ w.heap.size)
    (h : ∀ g cap w', w'.ownsRow base e size (.slice (some ⟨g, 0, none⟩) (n + m) cap) (n + m) (xs ++ news) → w.grownBy w' (Value.slice (some ⟨g0, 0, none⟩) n c0).ownBlock → K (a.put o.dst (.slice (some ⟨g, 0, none⟩) (n + m) cap)) w') :
    if Region.wanted o (yielded ops a.tmps) = true then Oper.wp P o a w K Q else E := by
  have hw : Region.wanted o (yielded ops a.tmps) = true := by simp [Region.wanted, hgd]
  rw [if_pos hw]
  exact wp_append_every s x t ho base e i z size bytes ht hi hz hsize hby hzs hsz _ n xs hs hown (by intro e; cases e) D m c news hx hl hnews h1 h63 hbytes hbase h
/-- A row of numbers as what is appended. -/
theorem kin_news {w : World} {A : Option Addr} {zs : List Int} (h : KIn .i64 w A zs) : 0 < zs.length → ∃ ad, A = some ad ∧ ∀ j u, (icells zs)[j]? = some u → w.cell? (ad.add j) = some u := fun h0 => by
  obtain ⟨pb, po, e, hc⟩ := h h0
  refine ⟨_, e, fun j u hj => ?_⟩
  unfold icells at hj
  rw [List.getElem?_map] at hj
  obtain ⟨z, hz, rfl⟩ := Option.map_eq_some_iff.1 hj
  have hl := (List.getElem?_eq_some_iff.1 hz).1
  have := hc j hl
  rw [List.getD_eq_getElem?_getD, hz] at this
  by_cases h0 : j = 0
  · subst h0
    simpa [Addr.add] using this
  · simpa [Addr.add, h0] using this
theorem icells_one (zs : List Int) : ∀ u ∈ icells zs, u.oneCell' = true := fun u hu => by
  unfold icells at hu
  obtain ⟨z, _, rfl⟩ := List.mem_map.1 hu
  rfl
theorem icells_append (a b : List Int) : icells (a ++ b) = icells a ++ icells b := by simp [icells]
/-- Numbers behind numbers, in the walk. -/
theorem wpList_ints_every {w : World} {ops : Array Oper} {rest : List Oper} {o : Oper} {a : Act} {Q : Exit → Act → World → Prop} (hgd : o.guard = none) (s x : Operand)
    (ho : o.op = .call { callee := .builtin .append, args := #[s, x], argTypes := #[45, 45] })
    (base : Nat) (v : Value) (zs us : List Int) (hs : a.eval s = v) (hown : Own w base v zs) (hv : v.ownBlock ≠ none) (D : Option Addr) (m c : Nat) (hx : a.eval x = .slice D m c) (hm : us.length = m) (hK : KIn .i64 w D us)
    (k : Nat) (hk : zs.length + us.length = k) (hsm : k ≤ 4096) (hbase : base ≤ w.heap.size)
    (h : ∀ g cap w', Own w' base (.slice (some ⟨g, 0, none⟩) k cap) (zs ++ us) → w.grownBy w' v.ownBlock → wpList Tryz.prog ops Q rest (a.put o.dst (.slice (some ⟨g, 0, none⟩) k cap)) w') : wpList Tryz.prog ops Q (o :: rest) a w := by
  obtain ⟨i0, hi, hz0, hz1, hz2⟩ := info_parts info_int
  subst hm hk
  refine wpList_append_every hgd s x 45 ho base 3 i0 _ 1 8 Tryz.underlying45 hi hz0 hz1 hz2 rfl Nat.one_pos v zs.length (icells zs) hs hown hv D us.length c (icells us) hx (by rw [icells_length, Nat.mul_one]) (kin_news hK) (icells_one us) (by unfold maxLen; omega) (by omega) hbase ?_
  intro g cap w' h1 h2
  refine h g cap w' ?_ h2
  unfold Own
  rw [icells_append, List.length_append]
  exact h1
/-- Numbers behind numbers, at a step of a region that draws its order. -/
theorem step_ints_every {w : World} {ops : Array Oper} {o : Oper} {a : Act} {K : Act → World → Prop} {Q : Exit → Act → World → Prop} {E : Prop} (hgd : o.guard = none) (s x : Operand)
    (ho : o.op = .call { callee := .builtin .append, args := #[s, x], argTypes := #[45, 45] })
    (base g0 c0 n : Nat) (zs us : List Int) (hs : a.eval s = .slice (some ⟨g0, 0, none⟩) n c0) (hown : Own w base (.slice (some ⟨g0, 0, none⟩) n c0) zs) (D : Option Addr) (m c : Nat) (hx : a.eval x = .slice D m c) (hm : us.length = m) (hK : KIn .i64 w D us)
    (k : Nat) (hk : zs.length + us.length = k) (hsm : k ≤ 4096) (hbase : base ≤ w.heap.size)
    (h : ∀ g cap w', Own w' base (.slice (some ⟨g, 0, none⟩) k cap) (zs ++ us) → w.grownBy w' (Value.slice (some ⟨g0, 0, none⟩) n c0).ownBlock → K (a.put o.dst (.slice (some ⟨g, 0, none⟩) k cap)) w') :
    if Region.wanted o (yielded ops a.tmps) = true then Oper.wp Tryz.prog o a w K Q else E := by
  obtain ⟨i0, hi, hz0, hz1, hz2⟩ := info_parts info_int
  have hn : n = zs.length := by
    obtain ⟨A, cap, e⟩ := hown.slice
    injection e
  subst hm hk hn
  refine step_append_every hgd s x 45 ho base 3 i0 _ 1 8 Tryz.underlying45 hi hz0 hz1 hz2 rfl Nat.one_pos g0 zs.length c0 (icells zs) hs hown D us.length c (icells us) hx (by rw [icells_length, Nat.mul_one]) (kin_news hK) (icells_one us) (by unfold maxLen; omega) (by omega) hbase ?_
  intro g cap w' h1 h2
  refine h g cap w' ?_ h2
  unfold Own
  rw [icells_append, List.length_append]
  exact h1
end Vc
end Go.Proofs.YtkdkeokldcehhaaGreatDoor
