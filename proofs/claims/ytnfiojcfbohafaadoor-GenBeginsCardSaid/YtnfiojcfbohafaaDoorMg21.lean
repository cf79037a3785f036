/-
  Package gen: what say answers, by what takes a token. Conditions: a model stands in its block, its weights are as many as its shape asks; the prompt is there, and something can be said behind it; what takes a token turns nothing that lay; the tables lie where they are looked up.
  Package gen: what Gen and Greedy answer. Conditions: those of say; the draws are there.
-/
import Derived.Test.YtnfiojcfbohafaaDoorMg18
import Derived.Test.YtnfiojcfbohafaaDoorMg20
import Derived.Test.YtnfiojcfbohafaaDoorMg16
import Derived.Test.YtnfiojcfbohafaaDoorMg12
set_option maxRecDepth 100000
namespace Go.Proofs.YtnfiojcfbohafaaDoor
open Go.ChangeShapes Go.WideShapes Go.ChangeAt Go.RowKit Cf Vc Br Nr Sf Ac Sp Gn

namespace Gn
/-- What is said, as an answer: in a row of its own. -/
def SaidSays (w : World) (G : List Int) (e : Ending) (w' : World) : Prop := ∃ A c, e = .returned (.tuple #[.slice A G.length c, .int .i64 0]) ∧ KIn .i64 w' A G ∧ G.length ≤ c ∧ Below w.heap.size w w'
/-- What a function value that takes tokens answers. -/
def TakesBy (w : World) (g : Nat) (lb : Array Value) (tk : Nat → List Int → Int) : Prop := ∀ W, Below w.heap.size w W → ∀ (i n c : Nat) (A : Option Addr) (sc : List Int), sc.length = n → n ≤ 64 → i ≤ 64 → KIn .i64 W A sc →
  Calls Tryd.prog g (#[.int .i64 (i : Int), .slice A n c] ++ lb) W fun e w' => e = .returned (.int .i64 (tk i sc)) ∧ Below W.heap.size W w'
theorem all_snoc {x : Cfg} {L : List Int} {z : Int} (h : L.all (tokB x) = true) (hz : 0 ≤ z ∧ z < x.v) : (L ++ [z]).all (tokB x) = true := by
  rw [List.all_append, h]
  simp [tokB, hz]
theorem own_cap {W : World} {base n c : Nat} {A : Option Addr} {zs : List Int} (h : Own W base (.slice A n c) zs) : n ≤ c := by
  rcases h.2 with ⟨e, h0⟩ | ⟨g, cap, cur, e, _, _, hc, _⟩
  · injection e with _ e2 e3; omega
  · injection e with _ e2 e3; omega
/-- A round's run can go. -/
theorem round_ok {x : Cfg} {s : ByteArray} {pre us T : List Int} {R : List (Er × Ent)} (hp : past R = runE x s [] pre) (hu : 0 < us.length) (hT : pre ++ us = T) (ha : T.all (tokB x) = true) (hl : (T.length : Int) ≤ x.c) : errR x (past R) us = 0 := by
  refine errR_ok.2 ⟨List.length_pos_iff.1 hu, ?_, ?_, ?_⟩
  · rw [hp]
    exact List.all_eq_true.2 fun e he => runE_good x s pre [] e he
  · rw [← hT, List.all_append] at ha
    simp at ha
    exact List.all_eq_true.2 fun z hz => ha.2 z hz
  · rw [hp, runE_length]
    rw [← hT, List.length_append] at hl
    omega
end Gn
section
variable (w : World) (b : Nat) (x : Cfg) (s : ByteArray) (h : w.heap[b]? = some (brO x s)) (hk : Ok x s) (T : Option Addr) (m d : Nat) (ts : List Int) (hT : ts.length = m) (hm : m ≤ 1000000) (hK : KIn .i64 w T ts)
include h hT hm hK
set_option maxRecDepth 100000 in
theorem gen_say_not (most : Int) (f : Value) (he : errG x most ts ≠ 0) :
    Calls Tryd.prog 23 #[.pointer (some ⟨b, 0, none⟩), .slice T m d, .int .i64 most, f] w fun e w' => e = .returned (.tuple #[.slice none 0 0, .int .i64 (errG x most ts)]) ∧ Below w.heap.size w w' := by
  have HC := Lib.hid (gen_check w T m d ts most b x s h hT hm hK)
  generalize errG x most ts = r at HC he ⊢
  have t0 : (r != 0) = true := bne_iff_ne.2 he
  clear h hT hm hK he
  go_enter Tryd.func23, Tryd.ntmps23
  go_wp2_with (fail)
  refine HC.out.mono ?_
  rintro e w1 ⟨rfl, b1⟩
  have HB := Lib.hid b1
  clear b1
  go_wp2_with (fail)
  exact bodyPost_ret (results_tmp2 rfl _ _ _) rfl ⟨rfl, HB.out⟩
include hk
set_option maxRecDepth 100000 in
set_option maxHeartbeats 12800000 in
theorem gen_say (M : Nat) (he : errG x (M : Int) ts = 0) (hp : POn w) (hg : GOn w) (g : Nat) (lb : Array Value) (tk : Nat → List Int → Int) (ht : TakesIn tk) (eg : ∀ args w, (callFunc g args).run Tryd.prog w = .ok (.enter g args) w) (hc : TakesBy w g lb tk) :
    Calls Tryd.prog 23 #[.pointer (some ⟨b, 0, none⟩), .slice T m d, .int .i64 (M : Int), .func (.func g) #[] lb] w (SaidSays w (genT x s tk M 0 ts)) := by
  have HC := Lib.hid (gen_check w T m d ts (M : Int) b x s h hT hm hK)
  rw [he] at HC
  obtain ⟨h0, h1, h2, h3, h4⟩ := errG_ok.1 he
  have HV := Lib.hid (show vN x ≤ 64 ∧ 0 < vN x ∧ (vN x : Int) = x.v by
    have h1 := (dims hk.good.is).2.2.2; have h2 := hk.good.is.v2; have h3 := hk.good.is.v32; omega)
  have hc32 := hk.good.is.c32
  have HL := Lib.hid (show 0 < m ∧ (m : Int) + M ≤ x.c ∧ x.c ≤ 32 ∧ 1 ≤ M by omega)
  have HH := Lib.hid h
  have HK := Lib.hid hk
  have HKT := Lib.hid hK
  have HTL := Lib.hid hT
  have HPG := Lib.hid (And.intro hp hg)
  have HT := Lib.hid ht
  have HCL := Lib.hid hc
  have HTB := Lib.hid h3
  obtain ⟨i0, hi, hz0, hz1, hz2⟩ := info_parts info_int
  obtain ⟨j0, hj, hy0, hy1, hy2⟩ := info_parts info_entry2
  have HI := Lib.hid hi
  have HZ0 := Lib.hid hz0
  have HZ1 := Lib.hid hz1
  have HZ2 := Lib.hid hz2
  have HJ := Lib.hid hj
  have HY0 := Lib.hid hy0
  have HY1 := Lib.hid hy1
  have HY2 := Lib.hid hy2
  clear h hk hT hm hK he hp hg ht hc h0 h1 h2 h3 h4 hc32 hi hz0 hz1 hz2 hj hy0 hy1 hy2
  go_enter Tryd.func23, Tryd.ntmps23
  go_wp2_with (fail)
  refine HC.out.mono ?_
  rintro e w1 ⟨rfl, b1⟩
  have B1 := Lib.hid b1
  clear b1 HC
  go_wp2_with (fail)
  go_loopw [11, 12, 13] (fun sv pv tv wr => ∃ (k : Nat) (SA : Option Addr) (sc r : Nat) (PA : Option Addr) (pc q : Nat) (TA : Option Addr) (tc : Nat) (S : List Int) (R : List (Er × Ent)) (us pre : List Int), sv = .slice SA k sc ∧ pv = .slice PA r pc ∧ tv = .slice TA q tc ∧ S.length = k ∧ R.length = r ∧ us.length = q ∧ 0 < q ∧ k ≤ M ∧ Saying w (.slice SA k sc) (.slice PA r pc) S R [] wr ∧ KIn .i64 wr TA us ∧ past R = runE x s [] pre ∧ pre ++ us = ts ++ S ∧ genT x s tk M 0 ts = S ++ genT x s tk (M - k) k (ts ++ S) ∧ (ts ++ S).all (tokB x) = true) (fun sv _ _ _ => match sv with | .slice _ k _ => M - k | _ => 0)
  case atStart => exact ⟨0, none, 0, 0, none, 0, m, T, d, [], [], ts, [], rfl, rfl, rfl, rfl, rfl, HTL.out, HL.out.1, Nat.zero_le _, (Saying.start w).step B1.out, HKT.out.below B1.out (Nat.le_refl _), rfl, by rw [List.append_nil]; rfl, by rw [List.append_nil]; rfl, by rw [List.append_nil]; exact HTB.out⟩
  case round =>
    obtain ⟨k, SA, sc, r, PA, pc, q, TA, tc, S, R, us, pre, rfl, rfl, rfl, hS, hR, hU, hq, hkM, hsy, hka, hpr, hcat, hgen, hall⟩ := hrel
    have HS := Lib.hid hS
    have HR := Lib.hid hR
    have HU := Lib.hid hU
    have HQ := Lib.hid hq
    have HSY := Lib.hid hsy
    have HKA := Lib.hid hka
    have HPR := Lib.hid hpr
    have HCAT := Lib.hid hcat
    have HGEN := Lib.hid hgen
    have HALL := Lib.hid hall
    have HCAP := Lib.hid (own_cap hsy.own)
    have HRQ := Lib.hid (show r + q = m + k by
      have e1 := congrArg List.length hcat
      have e2 := congrArg List.length hpr
      rw [past_length, runE_length] at e2
      rw [List.length_append, List.length_append, HTL.out, hS, hU] at e1
      omega)
    clear hS hR hU hq hsy hka hpr hcat hgen hall
    have x2 : 0 ≤ (k : Int) := by omega
    by_cases hlt : k < M
    · have x0 : (k : Int) < (M : Int) := by omega
      have x1 : decide ((k : Int) < (M : Int)) = true := decide_eq_true x0
      have HLT := Lib.hid hlt
      have HSZ := Lib.hid (HSY.out.below.size)
      have HRUN := Lib.hid (show Calls Tryd.prog 15 #[.pointer (some ⟨b, 0, none⟩), .slice PA r pc, .slice TA q tc] wr (fun e w' => ∃ EA ec SC cc F, e = .returned (.tuple #[.slice EA q ec, .slice SC (vN x) cc, .int .i64 0]) ∧ (past R ++ past F = runE x s [] (pre ++ us) ∧ F.length = q) ∧ EsIn w' EA F ∧ KIn .i64 w' SC (runS x s [] (ts ++ S)) ∧ (runS x s [] (ts ++ S)).length = vN x ∧ (∀ p ∈ F, Fr wr.heap.size p.1 p.2) ∧ (∀ a, EA = some a → wr.heap.size ≤ a.block) ∧ Below wr.heap.size wr w') from by
        have h1 := step_run wr PA r pc R TA q tc us b x s (Br.stays HH.out HSY.out.below) HK.out HR.out (by have := HRQ.out; have := HL.out; omega) HSY.out.ga.es HU.out (by have := HRQ.out; have := HL.out; omega) HKA.out
          (round_ok HPR.out (by rw [HU.out]; exact HQ.out) HCAT.out HALL.out (by rw [List.length_append, HTL.out, HS.out]; have := HL.out; omega)) (HPG.out.1.below HSY.out.below (Nat.le_refl _)) (HPG.out.2.below HSY.out.below (Nat.le_refl _))
        refine h1.mono fun e w' ⟨EA, ec, SC, cc, F, a1, a2, a3, a4, a5, ⟨a6, _, a7⟩, a8⟩ => ?_
        have hne : us ≠ [] := List.length_pos_iff.1 (by rw [HU.out]; exact HQ.out)
        have e1 : runS x s (past R) us = runS x s [] (ts ++ S) := by rw [HPR.out, ← HCAT.out, runS_append x s hne pre []]; rfl
        rw [e1] at a4 a5
        refine ⟨EA, ec, SC, cc, F, by rw [a1, HU.out], ⟨by rw [runE_append, a2, HPR.out]; rfl, by rw [← past_length, a2, runE_length, HU.out]⟩, a3, a4, a5, a6, a7, a8⟩)
      clear hkM
      go_wp2_with (fail)
      refine HRUN.out.mono ?_
      rintro e w2 ⟨EA, ec, SC, cc, F, rfl, ⟨hpf, hfl⟩, hei, hki, hsl, hfr, hea, b2⟩
      have HPF := Lib.hid hpf
      have HFL := Lib.hid hfl
      have HSY2 := Lib.hid (HSY.out.come b2 (fun p hp => hei.all p hp) hfr)
      have HES2 := Lib.hid hei.row
      have HEA := Lib.hid hea
      have HTK := Lib.hid (show Calls Tryd.prog g (#[.int .i64 (k : Int), .slice SC (vN x) cc] ++ lb) w2 fun e w' => e = .returned (.int .i64 (tokT x s tk k (ts ++ S))) ∧ Below w2.heap.size w2 w' from
        HCL.out w2 HSY2.out.below k (vN x) cc SC _ hsl HV.out.1 (by have := HL.out; have := HLT.out; omega) hki)
      have HIN := Lib.hid (show 0 ≤ tokT x s tk k (ts ++ S) ∧ tokT x s tk k (ts ++ S) < x.v from by
        have h1 := HT.out k _ (by rw [hsl]; exact HV.out.2.1) (by rw [hsl]; exact HV.out.1)
        rw [hsl, HV.out.2.2] at h1
        exact h1)
      have HLW := Lib.hid (HSY.out.lt)
      have HBS := Lib.hid b2.size
      have HG1 := Lib.hid (fun hz : tokT x s tk k (ts ++ S) = 0 => show genT x s tk M 0 ts = S by rw [HGEN.out, genT_end x s tk hz, List.append_nil])
      have HG2 := Lib.hid (fun hz : tokT x s tk k (ts ++ S) ≠ 0 => show genT x s tk M 0 ts = (S ++ [tokT x s tk k (ts ++ S)]) ++ genT x s tk (M - (k + 1)) (k + 1) (ts ++ (S ++ [tokT x s tk k (ts ++ S)])) by
        obtain ⟨n, hn⟩ : ∃ n, M - k = n + 1 := ⟨M - k - 1, by have := HLT.out; omega⟩
        rw [HGEN.out, hn, genT_more x s tk hz, show M - (k + 1) = n by omega, List.append_assoc, List.append_assoc, List.singleton_append])
      clear hpf hfl hei hki hsl hfr hea b2 HRUN HGEN HSY
      generalize tokT x s tk k (ts ++ S) = z at HTK HIN HG1 HG2
      by_cases hz : z = 0
      · have t0 : (z == 0) = true := beq_iff_eq.2 hz
        have HG := Lib.hid (HG1.out hz)
        clear hz HG1 HG2
        go_wp2_with (go_at_fn g; refine HTK.out.mono ?_; rintro e w3 ⟨rfl, b3⟩; have HSY3 := Lib.hid (HSY2.out.step b3); clear b3)
        refine bodyPost_ret (results_tmp2 rfl _ _ _) rfl ?_
        exact ⟨SA, sc, by rw [HG.out, HS.out]; rfl, by rw [HG.out]; exact HSY3.out.own.kin, by rw [HG.out, HS.out]; exact HCAP.out, HSY3.out.below⟩
      · have t0 : (z == 0) = false := beq_eq_false_iff_ne.2 hz
        have HG := Lib.hid (HG2.out hz)
        have HAL := Lib.hid (show (ts ++ (S ++ [z])).all (tokB x) = true from by rw [← List.append_assoc]; exact all_snoc HALL.out HIN.out)
        have HML := Lib.hid (show k + 1 ≤ maxLen ∧ (k + 1) * 8 ≤ 140737488355328 ∧ r + q ≤ maxLen ∧ (r + q) * 48 ≤ 140737488355328 from by have := HL.out; have := HLT.out; have := HRQ.out; unfold maxLen; omega)
        clear hz HG1 HG2
        go_upto_region 13 with (go_at_fn g; refine HTK.out.mono ?_; rintro e w3 ⟨rfl, b3⟩; have HSY3 := Lib.hid (HSY2.out.step b3); have HES3 := Lib.hid (HES2.out.below b3); have HB3 := Lib.hid b3.size; clear b3)
        have HW3 := Lib.hid (Own.at HSY3.out.own HS.out)
        have HSZ3 := Lib.hid HSY3.out.below.size
        go_upto_region 14 with (at_builtin; refine wpList_append_lies _ rfl (.tmp 48) (.tmp 50) 22 rfl w.heap.size 3 i0 _ 1 8 Tryd.underlying22 HI.out HZ0.out HZ1.out HZ2.out rfl Nat.one_pos (.slice SA k sc) k _ rfl (HW3.out.alloc _) ⟨w3.heap.size, 0, none⟩ 1 1 [.int .i64 z] rfl rfl (one_src w3 z) (one_one z) Nat.one_pos HML.out.1 HML.out.2.1 (base_le HSY3.out.below rfl _) _ rfl ?_; intro g1 c1 w4 hown1 hgrow1 hat1 hlt1)
        have HSY4 := Lib.hid (show Saying w (.slice (some ⟨g1, 0, none⟩) (k + 1) c1) (.slice PA r pc) (S ++ [z]) R F w4 from by
          have h1 := HSY3.out.said (g := g1) (cap := c1) (z := z) (wz := w4) (.cells #[.int .i64 z] 3) (by rw [HS.out]; exact hown1) hgrow1 hat1
          rw [HS.out] at h1
          exact h1)
        have HES4 := Lib.hid (es_moved (w' := w4) HES3.out fun a e hl => by
          have e1 := HEA.out a e
          exact (hgrow1.block a.block (by simp; omega) fun e2 => by have := HLW.out.1 a.block e2.symm; omega).trans (Below.heap_alloc w3 _ a.block hl))
        obtain ⟨pb, po, hEe, hcs⟩ := HES4.out (by rw [HFL.out]; exact HQ.out)
        subst hEe
        have HCS := Lib.hid (show ∀ j u, (eCs F)[j]? = some u → w4.cell? ((⟨pb, po, none⟩ : Addr).add j) = some u from fun j u hj => by
          have := hcs j u hj
          by_cases h0 : j = 0
          · subst h0
            simpa [Addr.add] using this
          · simpa [Addr.add, h0] using this)
        have HW4 := Lib.hid (show w4.ownsRow w.heap.size 58 2 (.slice PA r pc) r (eCs R) from by
          have h1 := HSY4.out.ga.own
          rw [HR.out] at h1
          exact h1)
        have HLF := Lib.hid (show (eCs F).length = q * 2 by rw [eCs_length, HFL.out])
        have HSZ4 := Lib.hid HSY4.out.below.size
        clear hcs hown1 hgrow1 hat1 hlt1 HSY3 HES3 HW3
        go_upto_region 15 with (at_builtin; refine wpList_append_lies _ rfl (.tmp 52) (.tmp 53) 40 rfl w.heap.size 58 j0 _ 2 48 Tryd.underlying40 HJ.out HY0.out HY1.out HY2.out rfl (by omega) (.slice PA r pc) r (eCs R) rfl HW4.out ⟨pb, po, none⟩ q ec (eCs F) rfl HLF.out HCS.out (eCs_one F) HQ.out HML.out.2.2.1 HML.out.2.2.2 HSZ4.out _ rfl ?_; intro g2 c2 w5 hown2 hgrow2 hat2 hlt2)
        have HSY5 := Lib.hid (show Saying w (.slice (some ⟨g1, 0, none⟩) (k + 1) c1) (.slice (some ⟨g2, 0, none⟩) (r + q) c2) (S ++ [z]) (R ++ F) [] w5 from by
          have h1 := HSY4.out.laid (g := g2) (cap := c2) (wz := w5) (by rw [HR.out, HFL.out]; exact hown2) hgrow2 hat2
          rw [HR.out, HFL.out] at h1
          exact h1)
        clear hown2 hgrow2 hat2 hlt2 HSY4 HES4 HCS HW4
        go_wp2_with (fail)
        exact ⟨⟨k + 1, some ⟨g1, 0, none⟩, c1, r + q, some ⟨g2, 0, none⟩, c2, 1, some ⟨w5.heap.size, 0, none⟩, 1, S ++ [z], R ++ F, [z], pre ++ us, rfl, rfl, rfl, by rw [List.length_append, HS.out]; rfl, by rw [List.length_append, HR.out, HFL.out], rfl, Nat.one_pos, HLT.out,
          HSY5.out.step ((Below.refl _ _).alloc (Nat.le_refl _) _), kin1 w5 _ z rfl, by rw [past_append]; exact HPF.out, by rw [HCAT.out, List.append_assoc], HG.out, HAL.out⟩, by have := HLT.out; show M - (k + 1) < M - k; omega⟩
    · have hke : k = M := by omega
      have x0 : ¬ (k : Int) < (M : Int) := by omega
      have x1 : decide ((k : Int) < (M : Int)) = false := decide_eq_false x0
      have HG := Lib.hid (show genT x s tk M 0 ts = S by rw [HGEN.out, hke, Nat.sub_self, genT_zero, List.append_nil])
      clear hke hlt hkM
      go_wp2_with (fail)
      refine bodyPost_ret (results_tmp2 rfl _ _ _) rfl ?_
      exact ⟨SA, sc, by rw [HG.out, HS.out]; rfl, by rw [HG.out]; exact HSY.out.own.kin, by rw [HG.out, HS.out]; exact HCAP.out, HSY.out.below⟩
end
end Go.Proofs.YtnfiojcfbohafaaDoor
namespace Go.Proofs.YtnfiojcfbohafaaDoor
open Go.ChangeShapes Go.WideShapes Go.ChangeAt Go.RowKit Cf Vc Br Nr Sf Ac Sp Gn

namespace Gn
/-- A captured variable's block: the draws. -/
def dsO (D : Option Addr) (n c : Nat) : Obj := .cells #[.slice D n c] 22 (0, 0)
theorem ds0 {w : World} {B : Nat} {D : Option Addr} {n c : Nat} (h : w.heap[B]? = some (dsO D n c)) : w.cell? ⟨B, 0, none⟩ = some (.slice D n c) := by rw [cell_of_row w B 0 _ _ _ h]; rfl
theorem ds_stays {w w' : World} {B : Nat} {o : Obj} (h : w.heap[B]? = some o) (hb : Below w.heap.size w w') : w'.heap[B]? = some o := (hb.block B (Array.getElem?_eq_some_iff.1 h).1).trans h
theorem said_of {w w0 : World} {G : List Int} {e : Ending} {w' : World} (h : Below w.heap.size w w0) (hs : SaidSays w0 G e w') : SaidSays w G e w' := by
  obtain ⟨A, c, h1, h2, h3, h4⟩ := hs
  exact ⟨A, c, h1, h2, h3, h.trans (h4.mono h.size)⟩
end Gn
theorem eg_gen1 : ∀ args w, (callFunc 24 args).run Tryd.prog w = .ok (.enter 24 args) w := Go.Proofs.enters_of Tryd.func24 (by kernel_rfl) rfl
theorem eg_greedy1 : ∀ args w, (callFunc 25 args).run Tryd.prog w = .ok (.enter 25 args) w := Go.Proofs.enters_of Tryd.func25 (by kernel_rfl) rfl
section
variable (w : World) (i n c : Nat) (A : Option Addr) (sc : List Int) (hn : sc.length = n) (hm : n ≤ 64) (hA : KIn .i64 w A sc)
include hn hm hA
set_option maxRecDepth 100000 in
theorem gen_greedy1 : Calls Tryd.prog 25 #[.int .i64 (i : Int), .slice A n c] w fun e w' => e = .returned (.int .i64 (takeB i sc)) ∧ Below w.heap.size w w' := by
  have HB := Lib.hid (show Calls Tryd.prog 16 #[.slice A n c] w fun e w' => e = .returned (.int .i64 (takeB i sc)) ∧ w = w' from soft_best w A n c sc hn (by omega) hA)
  clear hn hm hA
  generalize takeB i sc = r at HB ⊢
  go_enter Tryd.func25, Tryd.ntmps25
  go_wp2_with (fail)
  refine HB.out.mono ?_
  rintro e w1 ⟨rfl, rfl⟩
  go_wp2_with (fail)
  exact bodyPost_ret (results_tmp rfl _ _ _) rfl ⟨rfl, Below.refl _ _⟩
set_option maxRecDepth 100000 in
theorem gen_gen1 (B : Nat) (D : Option Addr) (nd cd : Nat) (ds : List Int) (hB : w.heap[B]? = some (dsO D nd cd)) (hd : ds.length = nd) (hD : KIn .i64 w D ds) (hp : POn w) :
    Calls Tryd.prog 24 #[.int .i64 (i : Int), .slice A n c, .pointer (some ⟨B, 0, none⟩)] w fun e w' => e = .returned (.int .i64 (takeD ds i sc)) ∧ Below w.heap.size w w' := by
  have HN := Lib.hid (gen_next w (ds.getD i 0) A n c sc hn (by omega) hA hp)
  have HX := Lib.hid (show takeD ds i sc = nextZ (ds.getD i 0) sc from rfl)
  rw [← HX.out] at HN
  have x0 := ds0 hB
  have x2 : 0 ≤ (i : Int) := by omega
  clear hn hm hA hp hB HX
  generalize takeD ds i sc = r at HN ⊢
  by_cases hlt : i < nd
  · have t0 : (i : Int) < (nd : Int) := by omega
    have t1 : decide ((i : Int) < (nd : Int)) = true := decide_eq_true t0
    obtain ⟨pa, oa, rfl, hc⟩ := hD.at (show i < ds.length by omega)
    generalize ds.getD i 0 = z at hc HN
    clear hD hlt hd
    go_enter Tryd.func24, Tryd.ntmps24
    go_wp2_with (fail)
    refine HN.out.mono ?_
    rintro e w1 ⟨rfl, b1⟩
    have HB := Lib.hid b1
    clear b1
    go_wp2_with (fail)
    exact bodyPost_ret (results_tmp rfl _ _ _) rfl ⟨rfl, HB.out⟩
  · have t0 : ¬ (i : Int) < (nd : Int) := by omega
    have t1 : decide ((i : Int) < (nd : Int)) = false := decide_eq_false t0
    have e0 : ds.getD i 0 = 0 := by
      rw [List.getD_eq_getElem?_getD, List.getElem?_eq_none (by omega)]
      rfl
    rw [e0] at HN
    clear hD hlt hd e0
    go_enter Tryd.func24, Tryd.ntmps24
    go_wp2_with (fail)
    refine HN.out.mono ?_
    rintro e w1 ⟨rfl, b1⟩
    have HB := Lib.hid b1
    clear b1
    go_wp2_with (fail)
    exact bodyPost_ret (results_tmp rfl _ _ _) rfl ⟨rfl, HB.out⟩
end
section
variable (w : World) (b : Nat) (x : Cfg) (s : ByteArray) (h : w.heap[b]? = some (brO x s)) (hk : Ok x s) (T : Option Addr) (m d : Nat) (ts : List Int) (hT : ts.length = m) (hm : m ≤ 1000000) (hK : KIn .i64 w T ts)
include h hT hm hK
set_option maxRecDepth 100000 in
theorem gen_gen_not (D : Option Addr) (nd cd : Nat) (most : Int) (he : errG x most ts ≠ 0) :
    Calls Tryd.prog 12 #[.pointer (some ⟨b, 0, none⟩), .slice T m d, .int .i64 most, .slice D nd cd] w fun e w' => e = .returned (.tuple #[.slice none 0 0, .int .i64 (errG x most ts)]) ∧ Below w.heap.size w w' := by
  have hb0 := (Below.refl w.heap.size w).alloc (Nat.le_refl _) (dsO D nd cd)
  have HB0 := Lib.hid hb0
  have HS := Lib.hid (gen_say_not (w.alloc (dsO D nd cd)) b x s (Br.stays h hb0) T m d ts hT hm (hK.below hb0 (Nat.le_refl _)) most (.func (.func 24) #[] #[.pointer (some ⟨w.heap.size, 0, none⟩)]) he)
  unfold dsO at HS HB0
  clear h hT hm hK hb0 he
  generalize errG x most ts = r at HS ⊢
  go_enter Tryd.func12, Tryd.ntmps12
  go_wp2_with (fail)
  refine HS.out.mono ?_
  rintro e w1 ⟨rfl, b1⟩
  have HB := Lib.hid (HB0.out.trans (b1.mono HB0.out.size))
  clear b1
  go_wp2_with (fail)
  exact bodyPost_ret (results_tmp2 rfl _ _ _) rfl ⟨rfl, HB.out⟩
set_option maxRecDepth 100000 in
theorem gen_greedy_not (most : Int) (he : errG x most ts ≠ 0) :
    Calls Tryd.prog 14 #[.pointer (some ⟨b, 0, none⟩), .slice T m d, .int .i64 most] w fun e w' => e = .returned (.tuple #[.slice none 0 0, .int .i64 (errG x most ts)]) ∧ Below w.heap.size w w' := by
  have HS := Lib.hid (gen_say_not w b x s h T m d ts hT hm hK most (.func (.func 25) #[] #[]) he)
  clear h hT hm hK he
  generalize errG x most ts = r at HS ⊢
  go_enter Tryd.func14, Tryd.ntmps14
  go_wp2_with (fail)
  refine HS.out.mono ?_
  rintro e w1 ⟨rfl, b1⟩
  have HB := Lib.hid b1
  clear b1
  go_wp2_with (fail)
  exact bodyPost_ret (results_tmp2 rfl _ _ _) rfl ⟨rfl, HB.out⟩
include hk
set_option maxRecDepth 100000 in
set_option maxHeartbeats 1600000 in
theorem gen_gen (D : Option Addr) (nd cd : Nat) (ds : List Int) (hd : ds.length = nd) (hD : KIn .i64 w D ds) (M : Nat) (he : errG x (M : Int) ts = 0) (hp : POn w) (hg : GOn w) :
    Calls Tryd.prog 12 #[.pointer (some ⟨b, 0, none⟩), .slice T m d, .int .i64 (M : Int), .slice D nd cd] w (SaidSays w (genT x s (takeD ds) M 0 ts)) := by
  have hb0 := (Below.refl w.heap.size w).alloc (Nat.le_refl _) (dsO D nd cd)
  have hn0 := heap_alloc_new w (dsO D nd cd)
  have HB0 := Lib.hid hb0
  have HS := Lib.hid (gen_say (w.alloc (dsO D nd cd)) b x s (Br.stays h hb0) hk T m d ts hT hm (hK.below hb0 (Nat.le_refl _)) M he (hp.below hb0 (Nat.le_refl _)) (hg.below hb0 (Nat.le_refl _)) 24 #[.pointer (some ⟨w.heap.size, 0, none⟩)] (takeD ds) (takeD_in ds) eg_gen1
    (fun W hW i n c A sc hn h64 _ hA => gen_gen1 W i n c A sc hn h64 hA w.heap.size D nd cd ds (ds_stays hn0 hW) hd (hD.below (hb0.trans (hW.mono hb0.size)) (Nat.le_refl _)) (hp.below (hb0.trans (hW.mono hb0.size)) (Nat.le_refl _))))
  unfold dsO at HS HB0
  clear h hk hT hm hK hd hD he hp hg hb0 hn0
  generalize genT x s (takeD ds) M 0 ts = G at HS ⊢
  go_enter Tryd.func12, Tryd.ntmps12
  go_wp2_with (fail)
  refine HS.out.mono ?_
  rintro e w1 ⟨SA, sc, rfl, hka, hcp, b1⟩
  have HB := Lib.hid (HB0.out.trans (b1.mono HB0.out.size))
  have HKA := Lib.hid hka
  have HCP := Lib.hid hcp
  clear b1 hka hcp
  go_wp2_with (fail)
  exact bodyPost_ret (results_tmp2 rfl _ _ _) rfl ⟨SA, sc, rfl, HKA.out, HCP.out, HB.out⟩
set_option maxRecDepth 100000 in
set_option maxHeartbeats 1600000 in
theorem gen_greedy (M : Nat) (he : errG x (M : Int) ts = 0) (hp : POn w) (hg : GOn w) :
    Calls Tryd.prog 14 #[.pointer (some ⟨b, 0, none⟩), .slice T m d, .int .i64 (M : Int)] w (SaidSays w (genT x s takeB M 0 ts)) := by
  have HS := Lib.hid (gen_say w b x s h hk T m d ts hT hm hK M he hp hg 25 #[] takeB takeB_in eg_greedy1
    (fun W hW i n c A sc hn h64 _ hA => gen_greedy1 W i n c A sc hn h64 hA))
  clear h hk hT hm hK he hp hg
  generalize genT x s takeB M 0 ts = G at HS ⊢
  go_enter Tryd.func14, Tryd.ntmps14
  go_wp2_with (fail)
  refine HS.out.mono ?_
  rintro e w1 ⟨SA, sc, rfl, hka, hcp, b1⟩
  have HB := Lib.hid b1
  have HKA := Lib.hid hka
  have HCP := Lib.hid hcp
  clear b1 hka hcp
  go_wp2_with (fail)
  exact bodyPost_ret (results_tmp2 rfl _ _ _) rfl ⟨SA, sc, rfl, HKA.out, HCP.out, HB.out⟩
end
section
variable (w : World) (T : Option Addr) (m d : Nat) (most : Int)
set_option maxRecDepth 100000 in
theorem gen_say_nil (f : Value) : Calls Tryd.prog 23 #[.pointer none, .slice T m d, .int .i64 most, f] w fun e w' => e = .returned (.tuple #[.slice none 0 0, .int .i64 2]) ∧ Below w.heap.size w w' := by
  go_enter Tryd.func23, Tryd.ntmps23
  go_wp2_with (fail)
  refine (gen_check_nil w T m d most).mono ?_
  rintro e w1 ⟨rfl, b1⟩
  have HB := Lib.hid b1
  clear b1
  go_wp2_with (fail)
  exact bodyPost_ret (results_tmp2 rfl _ _ _) rfl ⟨rfl, HB.out⟩
set_option maxRecDepth 100000 in
theorem gen_gen_nil (D : Option Addr) (nd cd : Nat) : Calls Tryd.prog 12 #[.pointer none, .slice T m d, .int .i64 most, .slice D nd cd] w fun e w' => e = .returned (.tuple #[.slice none 0 0, .int .i64 2]) ∧ Below w.heap.size w w' := by
  have HB0 := Lib.hid ((Below.refl w.heap.size w).alloc (Nat.le_refl _) (.cells #[.slice D nd cd] 22 (0, 0)))
  go_enter Tryd.func12, Tryd.ntmps12
  go_wp2_with (fail)
  refine (gen_say_nil _ T m d most _).mono ?_
  rintro e w1 ⟨rfl, b1⟩
  have HB := Lib.hid (HB0.out.trans (b1.mono HB0.out.size))
  clear b1
  go_wp2_with (fail)
  exact bodyPost_ret (results_tmp2 rfl _ _ _) rfl ⟨rfl, HB.out⟩
set_option maxRecDepth 100000 in
theorem gen_greedy_nil : Calls Tryd.prog 14 #[.pointer none, .slice T m d, .int .i64 most] w fun e w' => e = .returned (.tuple #[.slice none 0 0, .int .i64 2]) ∧ Below w.heap.size w w' := by
  go_enter Tryd.func14, Tryd.ntmps14
  go_wp2_with (fail)
  refine (gen_say_nil w T m d most _).mono ?_
  rintro e w1 ⟨rfl, b1⟩
  have HB := Lib.hid b1
  clear b1
  go_wp2_with (fail)
  exact bodyPost_ret (results_tmp2 rfl _ _ _) rfl ⟨rfl, HB.out⟩
end
end Go.Proofs.YtnfiojcfbohafaaDoor
