/-
  Package slot: Scan, All. Conditions: the slot and its zone stand in their blocks, the disk in blocks of its own, the power is there; both tables of sums lie as the program's text lays them.
  Package slot over a disk beside blocks that stay, without a fuse, the power there: New, Put, Get, Scan, All; a set of numbers beside them. Conditions: few writes; both tables of sums lie as the program's text lays them.
-/
import Derived.Test.YtfpkgcofkgpgnaaDoorMg13
import Derived.Test.YtfpkgcofkgpgnaaDoorMg14
import Derived.Test.YtfpkgcofkgpgnaaDoorMg12
import Derived.Test.YtfpkgcofkgpgnaaDoorMg7
set_option maxRecDepth 100000
namespace Go.Proofs.YtfpkgcofkgpgnaaDoor
open Go.ChangeShapes Go.WideShapes Go.ChangeAt Go.RowKit Pn Dk Sl

namespace Sl
/-- The first so many that are. -/
def firstU (q : Nat) (P : Nat → Bool) (i : Nat) : Bool := decide (i < q) && P i
theorem firstU_next (k : Nat) (P : Nat → Bool) (h : P k = true) : Bt.upd (firstU k P) k true = firstU (k + 1) P := by
  funext i
  unfold Bt.upd firstU
  by_cases he : i = k
  · subst he
    rw [if_pos rfl, h, decide_eq_true (Nat.lt_succ_self i)]
    rfl
  · rw [if_neg he]
    by_cases hl : i < k
    · rw [decide_eq_true hl, decide_eq_true (Nat.lt_succ_of_lt hl)]
    · rw [decide_eq_false hl, decide_eq_false (fun e => hl (by omega))]
theorem firstU_skip (k : Nat) (P : Nat → Bool) (h : P k = false) : firstU k P = firstU (k + 1) P := by
  funext i
  unfold firstU
  by_cases he : i = k
  · subst he
    rw [h, Bool.and_false, Bool.and_false]
  · by_cases hl : i < k
    · rw [decide_eq_true hl, decide_eq_true (Nat.lt_succ_of_lt hl)]
    · rw [decide_eq_false hl, decide_eq_false (fun e => hl (by omega))]
theorem firstU_none (P : Nat → Bool) : firstU 0 P = fun _ => false := by funext i; unfold firstU; rw [decide_eq_false (Nat.not_lt_zero i)]; rfl
/-- Texts one behind the other; whether all are. -/
def catL (T : Nat → ByteArray) : Nat → List UInt8
  | 0 => []
  | i + 1 => catL T i ++ (T i).data.toList
theorem catL_length (T : Nat → ByteArray) (m : Nat) (h : ∀ i, (T i).size ≤ m) : ∀ q, (catL T q).length ≤ q * m
  | 0 => Nat.zero_le _
  | i + 1 => by
    have h1 := catL_length T m h i
    have h2 : (T i).data.toList.length ≤ m := h i
    unfold catL
    rw [List.length_append, Nat.succ_mul]
    omega
def allU (P : Nat → Bool) : Nat → Bool
  | 0 => true
  | i + 1 => allU P i && P i
theorem allU_iff (P : Nat → Bool) : ∀ q, allU P q = true ↔ ∀ i, i < q → P i = true
  | 0 => by simp [allU]
  | q + 1 => by
    unfold allU
    rw [Bool.and_eq_true, allU_iff P q]
    constructor
    · rintro ⟨h1, h2⟩ i hi
      by_cases he : i = q
      · subst he; exact h2
      · exact h1 i (by omega)
    · exact fun h => ⟨fun i hi => h i (by omega), h q (by omega)⟩
theorem allU_stop (P : Nat → Bool) {k q : Nat} (hk : k < q) (h : P k = false) : allU P q = false := by
  rw [Bool.eq_false_iff]
  intro hc
  rw [(allU_iff P q).1 hc k hk] at h
  cases h
end Sl
section
variable (w : World) (S Z k c : Nat) (ht : w.heap[S]? = some (slobj Z k c)) (n : Int) (T : Nat → ByteArray) (P : Nat → Bool)
  (hw : ∀ W, Below w.heap.size w W → ∀ i, i < c → Calls Tryd.prog 33 #[.pointer (some ⟨S, 0, none⟩), .int .i64 (i : Int), .int .i64 n] W fun e w' => e = .returned (.tuple #[.string (T i), .bool (P i)]) ∧ Below W.heap.size W w')
  (q : Nat) (hq1 : 1 ≤ q) (hq2 : q ≤ c) (hc : c ≤ 1024) (hr : Calls Tryd.prog 31 #[.pointer (some ⟨S, 0, none⟩), .int .i64 (q : Int)] w fun e w' => e = .returned (.int .i64 0) ∧ w = w')
include hw hq1 hq2 hc hr
set_option maxRecDepth 100000 in
set_option maxHeartbeats 1600000 in
theorem slot_scan_by : Calls Tryd.prog 14 #[.pointer (some ⟨S, 0, none⟩), .int .i64 n, .int .i64 (q : Int)] w fun e w' => ∃ b, e = .returned (.tuple #[.pointer (some ⟨b, 0, none⟩), .int .i64 0]) ∧ Bt.Stands w w' b q (firstU q P) := by
  have HRD := Lib.hid hr
  have HW := Lib.hid hw
  have HN := Lib.hid (Bt.newSet (w := w) (n := q) (Below.refl w.heap.size w) hq1 (by omega))
  clear hr hw hq1
  go_enter Tryd.func14, Tryd.ntmps14
  go_wp2_with (fail)
  refine HRD.out.mono ?_
  rintro e w1 ⟨rfl, rfl⟩
  go_wp2_with (fail)
  refine HN.out.mono ?_
  rintro e w2 ⟨b, rfl, _, h2, _⟩
  have H2 := Lib.hid h2
  clear h2 HN HRD
  go_wp2_with (fail)
  go_loopw [22] (fun i wr => ∃ k : Nat, i = .int .i64 (k : Int) ∧ k ≤ q ∧ Bt.Stands w wr b q (firstU k P)) (fun i _ => match i with | .int _ k => q - k.toNat | _ => 0)
  case atStart => exact ⟨0, rfl, Nat.zero_le _, by rw [firstU_none]; exact H2.out⟩
  case round =>
    clear H2
    obtain ⟨k, rfl, hkq, hst⟩ := hrel
    have HS := Lib.hid hst
    clear hst
    by_cases hlt : k < q
    · have x0 : (k : Int) < (q : Int) := by omega
      have x1 : decide ((k : Int) < (q : Int)) = true := decide_eq_true x0
      have x2 : 0 ≤ (k : Int) := by omega
      have HWK := Lib.hid (HW.out wr HS.out.below k (by omega))
      clear HW
      cases hP : P k with
      | true =>
        have HFU := Lib.hid (firstU_next k P hP)
        rw [hP] at HWK
        clear hP
        go_wp2_with (fail)
        refine HWK.out.mono ?_
        rintro e w3 ⟨rfl, b3⟩
        have H3 := Lib.hid (HS.out.step b3)
        clear b3 HS HWK
        go_wp2_with (fail)
        refine (H3.out.add1 (by omega) hlt).mono ?_
        rintro e w4 ⟨rfl, h4, _⟩
        rw [HFU.out] at h4
        have H4 := Lib.hid h4
        clear h4 H3
        go_wp2_with (fail)
        exact ⟨⟨k + 1, rfl, by omega, H4.out⟩, by show q - ((k : Int) + 1).toNat < q - (k : Int).toNat; omega⟩
      | false =>
        have HFU := Lib.hid (firstU_skip k P hP)
        rw [hP] at HWK
        clear hP
        go_wp2_with (fail)
        refine HWK.out.mono ?_
        rintro e w3 ⟨rfl, b3⟩
        have h3 := HS.out.step b3
        rw [HFU.out] at h3
        have H3 := Lib.hid h3
        clear h3 b3 HS HWK
        go_wp2_with (fail)
        exact ⟨⟨k + 1, rfl, by omega, H3.out⟩, by show q - ((k : Int) + 1).toNat < q - (k : Int).toNat; omega⟩
    · have hke : k = q := by omega
      subst hke
      have y0 : ¬ (k : Int) < (k : Int) := by omega
      have y1 : decide ((k : Int) < (k : Int)) = false := decide_eq_false y0
      clear hlt y0 HW
      go_wp2_with (fail)
      refine bodyPost_ret (results_tmp2 rfl _ _ _) rfl ?_
      exact ⟨b, rfl, HS.out⟩
include ht
omit hq1 in
set_option maxRecDepth 100000 in
set_option maxHeartbeats 1600000 in
theorem slot_all_by (hk : k ≤ 256) (hT : ∀ i, (T i).size ≤ 256) (v : Bool) (hv : allU P q = v) : Calls Tryd.prog 16 #[.pointer (some ⟨S, 0, none⟩), .int .i64 n, .int .i64 (q : Int)] w fun e w' => e = .returned (.tuple #[.string (if v = true then ⟨(catL T q).toArray⟩ else ⟨#[]⟩), .int .i64 (if v = true then 0 else 5)]) ∧ Below w.heap.size w w' := by
  have HRD := Lib.hid hr
  have HW := Lib.hid hw
  have c1 := slot_c1 ht
  have hqk : q * k ≤ 1024 * 256 := Nat.mul_le_mul (by omega) hk
  have e1 : IntKind.i64.wrap ((q : Int) * (k : Int)) = ((q * k : Nat) : Int) := (IntWalk.i64_in _ (by rw [← Int.natCast_mul]; omega)).trans (Int.natCast_mul q k).symm
  have HLN := Lib.hid (fun j (hj : j ≤ q) => Nat.le_trans (catL_length T 256 hT j) (Nat.mul_le_mul_right 256 (Nat.le_trans hj (Nat.le_trans hq2 hc))))
  have HTS := Lib.hid hT
  have HV := Lib.hid hv
  clear hr hw ht hT hv hk
  generalize (k : Int) = ki at c1 e1
  generalize q * k = qk at e1 hqk
  obtain ⟨i0, hi, hz0, hz1, hz2⟩ := info_parts infoU
  have HI := Lib.hid hi
  have HZ0 := Lib.hid hz0
  have HZ1 := Lib.hid hz1
  have HZ2 := Lib.hid hz2
  clear hi hz0 hz1 hz2
  go_enter Tryd.func16, Tryd.ntmps16
  go_wp2_with (fail)
  refine HRD.out.mono ?_
  rintro e w1 ⟨rfl, rfl⟩
  go_wp2_with (at_make; refine wpList_make_own _ rfl _ _ 77 rfl w.heap.size 5 i0 _ 1 Tryd.underlying77 HI.out HZ0.out HZ1.out .i64 .i64 _ qk rfl rfl (by first | exact e1 | rfl | omega) (by rw [HZ2.out]; omega) (by unfold maxLen; omega) (Nat.le_refl _) ?_; intro w1 hown hg1; have hb1 : Below w.heap.size w w1 := (Below.refl _ _).grown hg1 (Nat.le_refl _) (fun k hk => by cases hk); have HB1 := Lib.hid hb1; have HW1 := Lib.hid hown; clear hg1 hb1 hown e1)
  go_loopw [9, 27] (fun row i wr => ∃ j g cp : Nat, i = .int .i64 (j : Int) ∧ j ≤ q ∧ row = .slice (some ⟨g, 0, none⟩) (catL T j).length cp ∧ allU P j = true ∧ wr.ownsRow w.heap.size 5 1 row (catL T j).length (bcells (catL T j)) ∧ Below w.heap.size w wr) (fun _ i _ => match i with | .int _ k => q - k.toNat | _ => 0)
  case atStart => exact ⟨0, w.heap.size, qk, rfl, Nat.zero_le _, rfl, rfl, HW1.out, HB1.out⟩
  case round =>
    clear HW1 HB1
    obtain ⟨j, g, cp, rfl, hjq, rfl, hok, hown, hb⟩ := hrel
    have HOK := Lib.hid hok
    have HOW := Lib.hid hown
    have HBL := Lib.hid hb
    clear hown hb hok
    by_cases hlt : j < q
    · have x0 : (j : Int) < (q : Int) := by omega
      have x1 : decide ((j : Int) < (q : Int)) = true := decide_eq_true x0
      have x2 : 0 ≤ (j : Int) := by omega
      have HWK := Lib.hid (HW.out wr HBL.out j (by omega))
      have hl1 := HLN.out j (by omega)
      have hl2 := HTS.out j
      clear HW
      cases hP : P j with
      | true =>
        have HNX := Lib.hid (show allU P (j + 1) = true by unfold allU; rw [HOK.out, hP]; rfl)
        have HCT := Lib.hid (show bcells (catL T j) ++ Lib.strCells (T j) = bcells (catL T (j + 1)) by rw [bcells_text, ← bcells_append]; rfl)
        have HCL := Lib.hid (show (catL T j).length + (T j).size = (catL T (j + 1)).length by show _ = (catL T j ++ (T j).data.toList).length; rw [List.length_append]; rfl)
        rw [hP] at HWK
        clear hP
        generalize T j = tj at HWK HCT HCL hl2
        generalize (catL T j).length = len at HOW HCL hl1 ⊢
        go_wp2_with (fail)
        refine HWK.out.mono ?_
        rintro e w3 ⟨rfl, b3⟩
        have HOW3 := Lib.hid (own_keep HOW.out (fun i hi => b3.block i (HOW.out.lt i hi).2))
        have HB3 := Lib.hid (HBL.out.trans (b3.mono HBL.out.size))
        clear b3 HOW HBL HWK
        go_wp2_with (at_builtin; refine Lib.wpList_append_own_string w3 rfl (.tmp 39) (.tmp 40) 77 9 rfl w.heap.size 5 i0 Tryd.underlying77 Tryd.underlying9 HI.out HZ0.out HZ1.out HZ2.out (.slice (some ⟨g, 0, none⟩) len cp) len (bcells (catL T j)) rfl HOW3.out tj rfl (by unfold maxLen; omega) (by omega) HB3.out.size ?_
                     intro v9 w9 hown9 hg9 hnil
                     rw [HCT.out, HCL.out] at hown9
                     obtain ⟨g9, c9, rfl, hg9b⟩ := own_form hown9 (fun h' => by have := (hnil.1 h').1; cases this)
                     have HO9 := Lib.hid hown9
                     have HB9 := Lib.hid (HB3.out.grown hg9 HB3.out.size (fun i hi => (HOW3.out.lt i hi).1))
                     clear hown9 hg9 hnil)
        exact ⟨⟨j + 1, g9, c9, rfl, by omega, rfl, HNX.out, HO9.out, HB9.out⟩, by show q - ((j : Int) + 1).toNat < q - (j : Int).toNat; omega⟩
      | false =>
        obtain rfl : v = false := HV.out.symm.trans (allU_stop P hlt hP)
        rw [hP] at HWK
        clear HV HOK hP
        go_wp2_with (fail)
        refine HWK.out.mono ?_
        rintro e w3 ⟨rfl, b3⟩
        have HB3 := Lib.hid (HBL.out.trans (b3.mono HBL.out.size))
        clear b3 HBL HWK
        go_wp2_with (fail)
        refine bodyPost_ret (results_tmp2 rfl _ _ _) rfl ?_
        exact ⟨rfl, HB3.out⟩
    · have hje : j = q := by omega
      subst hje
      obtain rfl : v = true := HV.out.symm.trans HOK.out
      have y0 : ¬ (j : Int) < (j : Int) := by omega
      have y1 : decide ((j : Int) < (j : Int)) = false := decide_eq_false y0
      have hcv := own_text HOW.out rfl wr rfl
      clear hlt y0 HW HV HOK
      go_wp2_with (fail)
      refine bodyPost_ret (results_tmp2 rfl _ _ _) rfl ?_
      exact ⟨rfl, HBL.out⟩
end
end Go.Proofs.YtfpkgcofkgpgnaaDoor
namespace Go.Proofs.YtfpkgcofkgpgnaaDoor
open Go.ChangeShapes Go.WideShapes Go.ChangeAt Go.RowKit Pn Dk Sl

theorem szN_mono {a b : Nat} (h : a ≤ b) : szN a ≤ szN b := by unfold szN; omega
theorem chunks_fit (nz k : Nat) : chunksN nz k * szN k ≤ nz := Nat.le_trans (Nat.mul_le_mul_right _ (Nat.min_le_left ..)) (Nat.div_mul_le_self ..)
theorem chunk_in {nz k c i : Nat} (hc : c * szN k ≤ nz) (hi : i < c) : i * szN k + szN k ≤ nz := by
  have h := Nat.mul_le_mul_right (szN k) (Nat.succ_le_of_lt hi)
  rw [Nat.succ_mul] at h
  omega
namespace Sl
/-- What a chunk is got as. -/
def getK (x : Dk.St) (f nz k i : Nat) : ByteArray × Nat × Nat := limR k (getR (rdZ x f) nz (i * szN k))
theorem wText_size (r : ByteArray × Nat × Nat) (k : Nat) (n : Int) : (wText (limR k r) n).size ≤ k := by
  unfold wText
  split
  · unfold limR
    split
    · split
      · assumption
      · exact Nat.zero_le _
    · exact Nat.zero_le _
  · exact Nat.zero_le _
end Sl
namespace Zn
variable {w0 w w' : World} {D : Nat} {x : Dk.St} {fs : List (Nat × Obj)}
/-- A block beside the disk is written anew; more is made. -/
theorem turnB {T : Nat} {o o' : Obj} (h : Zn w0 w D x ((T, o) :: fs)) (hT : w0.heap.size ≤ T) (hne : ∀ z ∈ fs, z.1 ≠ T) (h1 : w'.heap[T]? = some o') (ho : Only w w' T) : Zn w0 w' D x ((T, o') :: fs) := by
  refine ⟨(h.disk.keep (w' := w') fun i hi hl => ho.block i hl (hi.2 (T, o) (List.mem_cons_self ..))).mono fun i hi => ⟨hi.1, fun z hz => ?_⟩, fun z hz => ?_, ⟨ho.os.trans h.below.os, ho.tape.trans h.below.tape, ho.output.trans h.below.output, Nat.le_trans h.below.size ho.size, fun i hi => (ho.block i (Nat.lt_of_lt_of_le hi h.below.size) (by omega)).trans (h.below.block i hi)⟩⟩
  · rcases List.mem_cons.1 hz with rfl | hz
    · exact hi.2 (T, o) (List.mem_cons_self ..)
    · exact hi.2 z (List.mem_cons_of_mem _ hz)
  · rcases List.mem_cons.1 hz with rfl | hz
    · exact h1
    · have hf := h.fix z (List.mem_cons_of_mem _ hz)
      exact (ho.block z.1 (Array.getElem?_eq_some_iff.1 hf).1 (hne z hz)).trans hf
theorem ne_new (h : Zn w0 w D x fs) {T : Nat} (hT : w.heap.size ≤ T) : ∀ z ∈ fs, z.1 ≠ T := fun z hz e => by
  have := (Array.getElem?_eq_some_iff.1 (h.fix z hz)).1
  omega
theorem slot (h : Zn w0 w D x fs) {Z f nz : Nat} (hz : (Z, zobj D f nz) ∈ fs) (hn : nz ≤ 4096) (k : Nat) (h1 : 1 ≤ k) (h2 : k ≤ 256) (hp : szN k ≤ nz) :
    Calls Tryd.prog 23 #[.pointer (some ⟨Z, 0, none⟩), .int .i64 (k : Int)] w fun e w' => ∃ S, e = .returned (.tuple #[.pointer (some ⟨S, 0, none⟩), .int .i64 0]) ∧ w0.heap.size ≤ S ∧ Zn w0 w' D x ((S, slobj Z k (chunksN nz k)) :: fs) := by
  refine (slot_new w Z D f nz k (h.fix _ hz) hn h1 h2 hp).mono ?_
  rintro e w' ⟨S, rfl, g1, g2, g3⟩
  exact ⟨S, rfl, Nat.le_trans h.below.size g1, h.add g3 g1 g2⟩
section
variable {S Z k c f nz : Nat} (h : Zn w0 w D x fs) (ht : (S, slobj Z k c) ∈ fs) (hz : (Z, zobj D f nz) ∈ fs) (hT : Tabs w0) (ha : x.away = false) (hfn : f + nz ≤ x.n) (h1 : 1 ≤ k) (h2 : k ≤ 256) (hc : c * szN k ≤ nz)
include h ht hz hT ha hfn h1 h2 hc
theorem sput (hf : x.fuse = none) (hl : x.loose.length ≤ 1073741000) (hd : x.done < 4611686018427380000) (n : Nat) (s : ByteArray) (hn1 : 1 ≤ n) (hn2 : n ≤ 2147483647) (hs : s.size ≤ k) (i : Nat) (hi : i < c) :
    Calls Tryd.prog 10 #[.pointer (some ⟨S, 0, none⟩), .int .i64 (i : Int), .int .i64 (n : Int), .string s] w fun e w' => e = .returned (.int .i64 0) ∧ Zn w0 w' D (x.laid (f + i * szN k) (secF n (sealL s)) (szN s.size)) fs := by
  have hnb : x.n ≤ 4096 := by obtain ⟨_, _, _, _, _, _, h⟩ := h.disk; exact h.nb
  have h2z := szN_two k
  have hin := chunk_in hc hi
  have hcc : c * 2 ≤ c * szN k := Nat.mul_le_mul_left _ h2z
  have hsm := szN_mono hs
  refine (slot_put_by w S Z k c (h.fix _ ht) h1 h2 i hi (by omega) n s hs (fun m w' => m = 0 ∧ Zn w0 w' D (x.laid (f + i * szN k) (secF n (sealL s)) (szN s.size)) fs) fun W hW => ?_).mono ?_
  · refine ((h.step hW).put hz hT ha hf hl hd hfn n s hn1 hn2 (by omega) (i * szN k) (by omega)).mono ?_
    rintro e w' ⟨rfl, h3⟩
    exact ⟨0, rfl, h3.fix _ ht, rfl, h3⟩
  · rintro e w' ⟨m, rfl, rfl, h3⟩
    exact ⟨rfl, h3⟩
theorem sget (i : Nat) (hi : i < c) :
    Calls Tryd.prog 13 #[.pointer (some ⟨S, 0, none⟩), .int .i64 (i : Int)] w fun e w' => e = .returned (.tuple #[.string (getK x f nz k i).1, .int .i64 ((getK x f nz k i).2.1 : Int), .int .i64 ((getK x f nz k i).2.2 : Int)]) ∧ Zn w0 w' D x fs := by
  have hnb : x.n ≤ 4096 := by obtain ⟨_, _, _, _, _, _, h⟩ := h.disk; exact h.nb
  refine (slot_get w S Z k c (h.fix _ ht) h1 h2 nz (rdZ x f) (h.reads hz ha hfn) (h.tabs hT) (by omega) hc i hi).mono ?_
  rintro e w' ⟨rfl, b⟩
  exact ⟨rfl, h.step b⟩
theorem wholes : ∀ W, Below w.heap.size w W → ∀ n i, i < c → Calls Tryd.prog 33 #[.pointer (some ⟨S, 0, none⟩), .int .i64 (i : Int), .int .i64 n] W fun e w' => e = .returned (.tuple #[.string (wText (getK x f nz k i) n), .bool (isW (getK x f nz k i) n)]) ∧ Below W.heap.size W w' := by
  have hnb : x.n ≤ 4096 := by obtain ⟨_, _, _, _, _, _, h⟩ := h.disk; exact h.nb
  exact fun W hW n i hi => slot_whole W S Z k c ((h.step hW).fix _ ht) h1 h2 nz (rdZ x f) ((h.step hW).reads hz ha hfn) ((h.step hW).tabs hT) (by omega) hc i hi n
omit hT hfn h1 h2 hc in
theorem isReady (q : Nat) (hq1 : 1 ≤ q) (hq2 : q ≤ c) : Calls Tryd.prog 31 #[.pointer (some ⟨S, 0, none⟩), .int .i64 (q : Int)] w fun e w' => e = .returned (.int .i64 0) ∧ w = w' := by
  have hr := slot_ready w S Z k c (h.fix _ ht) D f nz (h.fix _ hz) _ x h.disk q hq1 hq2
  rw [ha] at hr
  exact hr
theorem scan (n : Int) (q : Nat) (hq1 : 1 ≤ q) (hq2 : q ≤ c) (hcm : c ≤ 1024) :
    Calls Tryd.prog 14 #[.pointer (some ⟨S, 0, none⟩), .int .i64 n, .int .i64 (q : Int)] w fun e w' => ∃ b, e = .returned (.tuple #[.pointer (some ⟨b, 0, none⟩), .int .i64 0]) ∧ w0.heap.size ≤ b ∧ (∀ z ∈ fs, z.1 ≠ b) ∧ Zn w0 w' D x ((b, Bt.sobj q (firstU q fun i => isW (getK x f nz k i) n)) :: fs) := by
  refine (slot_scan_by w S c n (fun i => wText (getK x f nz k i) n) (fun i => isW (getK x f nz k i) n) (fun W hW i hi => h.wholes ht hz hT ha hfn h1 h2 hc W hW n i hi) q hq1 hq2 hcm (h.isReady ht hz ha q hq1 hq2)).mono ?_
  rintro e w' ⟨b, rfl, hs⟩
  exact ⟨b, rfl, Nat.le_trans h.below.size hs.new, h.ne_new hs.new, h.add hs.below hs.new hs.blk⟩
theorem sall (n : Int) (q : Nat) (hq1 : 1 ≤ q) (hq2 : q ≤ c) (hcm : c ≤ 1024) (v : Bool) (hv : allU (fun i => isW (getK x f nz k i) n) q = v) :
    Calls Tryd.prog 16 #[.pointer (some ⟨S, 0, none⟩), .int .i64 n, .int .i64 (q : Int)] w fun e w' => e = .returned (.tuple #[.string (if v = true then ⟨(catL (fun i => wText (getK x f nz k i) n) q).toArray⟩ else ⟨#[]⟩), .int .i64 (if v = true then 0 else 5)]) ∧ Zn w0 w' D x fs := by
  refine (slot_all_by w S Z k c (h.fix _ ht) n (fun i => wText (getK x f nz k i) n) (fun i => isW (getK x f nz k i) n) (fun W hW i hi => h.wholes ht hz hT ha hfn h1 h2 hc W hW n i hi) q hq2 hcm (h.isReady ht hz ha q hq1 hq2) h2 (fun i => Nat.le_trans (wText_size _ k n) h2) v hv).mono ?_
  rintro e w' ⟨rfl, b⟩
  exact ⟨rfl, h.step b⟩
end
/-- A set of numbers beside the disk. -/
theorem bset {b q : Nat} {u : Nat → Bool} (h : Zn w0 w D x fs) (hb : (b, Bt.sobj q u) ∈ fs) (hw : w0.heap.size ≤ b) : Bt.Stands w0 w b q u := ⟨h.fix _ hb, hw, h.below⟩
theorem badd {b q : Nat} {u : Nat → Bool} (h : Zn w0 w D x ((b, Bt.sobj q u) :: fs)) (hw : w0.heap.size ≤ b) (hne : ∀ z ∈ fs, z.1 ≠ b) (hq : q ≤ 1024) {i : Nat} (hi : i < q) :
    Calls Tryd.prog 17 #[.pointer (some ⟨b, 0, none⟩), .slice (some ⟨w.heap.size, 0, none⟩) 1 1] (w.alloc (.cells #[.int .i64 (i : Int)] 3)) fun e w' => e = .returned (.int .i64 0) ∧ Zn w0 w' D x ((b, Bt.sobj q (Bt.upd u i true)) :: fs) := by
  refine ((h.bset (List.mem_cons_self ..) hw).add1 hq hi).mono ?_
  rintro e w' ⟨rfl, hs, ho⟩
  exact ⟨rfl, h.turnB hw hne hs.blk ho⟩
theorem bfirst {b q : Nat} {u : Nat → Bool} (h : Zn w0 w D x fs) (hb : (b, Bt.sobj q u) ∈ fs) (hq : q ≤ 1024) :
    Calls Tryd.prog 15 #[.pointer (some ⟨b, 0, none⟩)] w fun e w' => e = .returned (.int .i64 (Bt.fstB q u)) ∧ Zn w0 w' D x fs := by
  refine (bits_first w b q u (h.fix _ hb) hq).mono ?_
  rintro e w' ⟨rfl, m, rfl⟩
  exact ⟨rfl, h.drewN m⟩
theorem btext {b q : Nat} {u : Nat → Bool} (h : Zn w0 w D x fs) (hb : (b, Bt.sobj q u) ∈ fs) (hq : q ≤ 1024) :
    Calls Tryd.prog 18 #[.pointer (some ⟨b, 0, none⟩)] w fun e w' => e = .returned (.string (Bt.textB q u)) ∧ Zn w0 w' D x fs := by
  refine (bits_text w b q u (h.fix _ hb) hq).mono ?_
  rintro e w' ⟨rfl, m, rfl⟩
  exact ⟨rfl, h.drewN m⟩
end Zn
end Go.Proofs.YtfpkgcofkgpgnaaDoor
