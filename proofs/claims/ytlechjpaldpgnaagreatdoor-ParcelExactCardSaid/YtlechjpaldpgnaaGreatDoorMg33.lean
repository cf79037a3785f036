/-
  The document's manifest: Bytes. Conditions: the sums stand behind the slice, at most 70; the numbers are ints.
  The law's own form (a manifest, in the document's form). Condition: the sums stand behind the slice, at most 1000.
  The law's own alike: two that are the same are alike. Condition: the sums stand behind the slices, at most 1000.
  The document's manifest: Check. Condition: the sums stand behind the slice.
  Law 21's own form (a manifest, in the document's form). Condition: the sums stand behind the slice, at most 1000.
-/
import Derived.Test.YtlechjpaldpgnaaGreatDoorMg25
import Derived.Test.YtlechjpaldpgnaaGreatDoorMg32
import Derived.Test.YtlechjpaldpgnaaGreatDoorMg19
import Derived.Test.YtlechjpaldpgnaaGreatDoorMg6
set_option maxRecDepth 100000
namespace Go.Proofs.YtlechjpaldpgnaaGreatDoor
open Go.ChangeShapes Go.WideShapes Go.ChangeAt Go.RowKit Sh Pn Mf

namespace Mf
def textR (m : Man) : List UInt8 := headL m ++ (sumsL m.sums ++ (digL m.res ++ digL (rootF m.sums)))
theorem bapp (a b : List UInt8) : (⟨a.toArray⟩ : ByteArray) ++ ⟨b.toArray⟩ = ⟨(a ++ b).toArray⟩ := by
  apply ByteArray.ext
  rw [ByteArray.data_append]
  simp
theorem sumsL_take (L : List (Nat → UInt8)) (q : Nat) (h : q < L.length) : sumsL (L.take (q + 1)) = sumsL (L.take q) ++ digL (L.getD q fun _ => 0) := by
  rw [List.take_succ_eq_append_getElem h]
  unfold sumsL
  rw [List.flatMap_append, List.getD_eq_getElem?_getD, List.getElem?_eq_getElem h]
  simp
end Mf
theorem fourArr (a b c d : Int) : Tryz.prog.built 194 [(0, .int .i64 a), (1, .int .i64 b), (2, .int .i64 c), (3, .int .i64 d)] = some #[.int .i64 a, .int .i64 b, .int .i64 c, .int .i64 d] := by kernel_rfl
end Go.Proofs.YtlechjpaldpgnaaGreatDoor
namespace Go.Proofs.YtlechjpaldpgnaaGreatDoor
open Go.ChangeShapes Go.WideShapes Go.ChangeAt Go.RowKit Sh Pn Mf

namespace Mf
/-- A manifest in the document's form, on its way: q sums are there. -/
structure Forms (t t2 e : TypeId) (w : World) (ub base : Nat) (m : Man) (A : Option Addr) (k q : Nat) (B : Option Addr) (c : Nat) (W : World) : Prop where
  src : At W w.heap.size t m A k
  out : At W (w.heap.size + 1) t2 zeroM none 0
  grow : Grow base ub t2 e { m with sums := m.sums.take q } B c W
  below : Below w.heap.size w W
  l1 : w.heap.size + 1 < ub
section
variable {t t2 e : TypeId} {w W W' : World} {ub base : Nat} {m : Man} {A : Option Addr} {k q : Nat} {B : Option Addr} {c : Nat}
theorem Forms.step (h : Forms t t2 e w ub base m A k q B c W) (hb : Below W.heap.size W W') : Forms t t2 e w ub base m A k q B c W' :=
  ⟨h.src.keep hb, h.out.keep hb, h.grow.below hb, h.below.trans (hb.mono h.below.size), h.l1⟩
theorem Forms.added (h : Forms t t2 e w ub base m A k q B c W) (hq : q < m.sums.length) {wz : World} {g cap : Nat} (hg : Grow base ub t2 e { m with sums := m.sums.take q ++ [m.sums.getD q fun _ => 0] } (some ⟨g, 0, none⟩) cap (wz.setCell ⟨ub, 4, none⟩ (.slice (some ⟨g, 0, none⟩) (q + 1) cap))) (hb : Below base W wz) :
    Forms t t2 e w ub base m A k (q + 1) (some ⟨g, 0, none⟩) cap (wz.setCell ⟨ub, 4, none⟩ (.slice (some ⟨g, 0, none⟩) (q + 1) cap)) := by
  have h1 := h.l1
  have h2 := h.grow.lt
  have e1 : m.sums.take (q + 1) = m.sums.take q ++ [m.sums.getD q fun _ => 0] := by
    rw [List.take_succ_eq_append_getElem hq, List.getD_eq_getElem?_getD, List.getElem?_eq_getElem hq]
    rfl
  rw [← e1] at hg
  refine ⟨h.src.of_block ((heap_setCell_other _ _ _ _ (by show w.heap.size ≠ ub; omega)).trans (hb.block _ (by omega))), h.out.of_block ((heap_setCell_other _ _ _ _ (by show w.heap.size + 1 ≠ ub; omega)).trans (hb.block _ (by omega))), hg, ?_, h1⟩
  exact (h.below.trans (hb.mono (by omega))).setCell (p := ⟨ub, 4, none⟩) (by show w.heap.size ≤ ub; omega) _
theorem Forms.sinOut (h : Forms t t2 e w ub base m A k q B c W) (cs : Array Value) : SIn (W.setRow (w.heap.size + 1) cs) B c (m.sums.take q) := by
  have h1 := h.l1
  have h2 := h.grow.lt
  exact (h.grow.only ((Only.refl W (w.heap.size + 1)).setRow (.inl rfl) cs) (by omega) (by omega)).sin
end
end Mf
theorem headManR (b v s c : Int) (f : Nat → UInt8) : Tryz.prog.built 33 [(0, .int .i64 b), (1, .int .i64 v), (2, .int .i64 s), (3, .int .i64 c), (5, .agg (digF f))] = some (manA ⟨b, v, s, c, [], f⟩ none 0) := by kernel_rfl
end Go.Proofs.YtlechjpaldpgnaaGreatDoor
namespace Go.Proofs.YtlechjpaldpgnaaGreatDoor
open Go.ChangeShapes Go.WideShapes Go.ChangeAt Go.RowKit Sh Pn Mf

theorem run_neq_digR (f g : Nat → UInt8) (w : World) : (binOp .neq 23 (.agg (digF f)) (.agg (digF g))).run Tryz.prog w = .ok (.bool (!same f g)) w := by
  obtain ⟨i0, hi, _⟩ := info_parts info5
  rw [run_neq_struct, run_equalIn_array (P := Tryz.prog) (w := w) 9999 (digF f) (digF g) Tryz.underlying23 hi]
  have hc : Tryz.prog.cellsOf 5 = 1 := by kernel_rfl
  rw [hc, run_items f g w (List.range 32) (fun i hi => List.mem_range.1 hi)]
  rfl
theorem digRL (f : Nat → UInt8) : (Tryz.prog.info? 23).map (·.size) = some (digF f).toList.length := by rw [Array.length_toList]; exact hiRD f
namespace Mf
/-- Both manifests. -/
structure Both (t : TypeId) (w : World) (ub nb : Nat) (m : Man) (B : Option Addr) (c : Nat) (C : Option Addr) (d : Nat) (W : World) : Prop where
  one : At W ub t m B c
  two : At W nb t m C d
  s1 : SIn W B c m.sums
  s2 : SIn W C d m.sums
  below : Below w.heap.size w W
theorem Both.step {t : TypeId} {w W W' : World} {ub nb : Nat} {m : Man} {B : Option Addr} {c : Nat} {C : Option Addr} {d : Nat} (h : Both t w ub nb m B c C d W) (hb : Below W.heap.size W W') : Both t w ub nb m B c C d W' :=
  ⟨h.one.keep hb, h.two.keep hb, h.s1.keep hb, h.s2.keep hb, h.below.trans (hb.mono h.below.size)⟩
end Mf
end Go.Proofs.YtlechjpaldpgnaaGreatDoor
namespace Go.Proofs.YtlechjpaldpgnaaGreatDoor
open Go.ChangeShapes Go.WideShapes Go.ChangeAt Go.RowKit Sh Pn Mf

set_option maxRecDepth 100000 in
set_option maxHeartbeats 3200000 in
theorem ref20_check (w : World) (m : Man) (A : Option Addr) (k : Nat) (a : Int) (d : ByteArray) (hS : SIn w A k m.sums) :
    Calls Tryz.prog 37 #[.agg (manA m A k), .int .i64 a, .string d] w fun e w' => e = .returned (.int .i64 (checkM m a d)) ∧ Below w.heap.size w w' := by
  have HN := Lib.hid (fun W => ref20_length W m A k a)
  have HB := Lib.hid ((Below.refl w.heap.size w).alloc (Nat.le_refl _) (.cells (manA m A k) 33))
  have HA := Lib.hid (at_new w 33 m A k)
  have HI := Lib.hid (manI2 m A k)
  have HSI := Lib.hid hS
  clear hS
  by_cases h1 : 0 < lengthM m a
  case neg =>
    have HP := Lib.hid (show checkM m a d = 3 from if_pos (by omega))
    have t1 : ((lengthM m a : Int) == 0) = true := by rw [show lengthM m a = 0 by omega]; rfl
    have t2 : (lengthM m a == 0) = true := by rw [show lengthM m a = 0 by omega]; rfl
    generalize lengthM m a = L at *
    clear h1
    go_enter Tryz.func37, Tryz.ntmps37
    go_wp2_with (with_reducible refine wpList_load_row rfl 33 _ rfl _ rfl 33 _ (0, 0) _ HA.out.cells Tryz.underlying33 rfl HI.out ?_)
    refine (HN.out _).mono ?_
    rintro e w1 ⟨rfl, b1⟩
    have HB1 := Lib.hid (HB.out.trans (b1.mono HB.out.size))
    clear b1
    go_wp2_with (fail)
    refine bodyPost_ret (results_tmp rfl _ _ _) rfl ?_
    rw [HP.out]
    exact ⟨rfl, HB1.out⟩
  have t1 : ((lengthM m a : Int) == 0) = false := beq_eq_false_iff_ne.2 (by omega)
  have t2 : (lengthM m a == 0) = false := beq_eq_false_iff_ne.2 (by omega)
  by_cases h2 : d.size = lengthM m a
  case neg =>
    have HP := Lib.hid (show checkM m a d = 5 from (if_neg (by omega)).trans (if_pos h2))
    have t3 : ((d.size : Int) != (lengthM m a : Int)) = true := bne_iff_ne.2 (by omega)
    have t4 : ((d.size : Int) == (lengthM m a : Int)) = false := beq_eq_false_iff_ne.2 (by omega)
    generalize lengthM m a = L at *
    clear h1 h2
    go_enter Tryz.func37, Tryz.ntmps37
    go_wp2_with (with_reducible refine wpList_load_row rfl 33 _ rfl _ rfl 33 _ (0, 0) _ HA.out.cells Tryz.underlying33 rfl HI.out ?_)
    refine (HN.out _).mono ?_
    rintro e w1 ⟨rfl, b1⟩
    have HB1 := Lib.hid (HB.out.trans (b1.mono HB.out.size))
    clear b1
    go_wp2_with (fail)
    refine bodyPost_ret (results_tmp rfl _ _ _) rfl ?_
    rw [HP.out]
    exact ⟨rfl, HB1.out⟩
  obtain ⟨i, s, c, P⟩ := place_of h1
  have hi := P.hi
  have ha := P.ha
  subst ha
  have HP := Lib.hid (show checkM m (i : Int) d = if (!same (sumF d.data.toList) (m.sums.getD i fun _ => 0)) = true then 6 else 0 by
    refine ((if_neg (by omega)).trans (if_neg (fun h => h h2))).trans ?_
    show (if same (sumF d.data.toList) (m.sums.getD i fun _ => 0) = true then (0 : Int) else 6) = _
    cases same (sumF d.data.toList) (m.sums.getD i fun _ => 0) <;> rfl)
  have t3 : ((d.size : Int) != (lengthM m (i : Int) : Int)) = false := by rw [h2]; simp
  have t4 : ((d.size : Int) == (lengthM m (i : Int) : Int)) = true := by rw [h2]; simp
  have hl1 := P.l1
  have HFO := Lib.hid (fun (W : World) => show Calls Tryz.prog 53 #[.string d] W fun e w' => e = .returned (.agg (digF (sumF d.data.toList))) ∧ Below W.heap.size W w' from refOf_any d W (by have := P.len; omega))
  clear hl1
  have hn := P.hn
  have x0 : (i : Int) < (m.sums.length : Int) := by omega
  have x1 : 0 ≤ (i : Int) := by omega
  obtain ⟨pb, po, rfl, hpb, hf⟩ := HSI.out.at hi
  have HPB := Lib.hid hpb
  have HF := Lib.hid hf
  generalize sumF d.data.toList = D at *
  generalize (m.sums.getD i fun _ => 0) = f at *
  have HIF := Lib.hid (show (Tryz.prog.info? 23).map (·.size) = some (digF f).toList.length from digRL f)
  have E : ∀ W, (binOp .neq 23 (.agg (digF D)) (.agg (digF f))).run Tryz.prog W = .ok (.bool (!same D f)) W := fun W => run_neq_digR D f W
  generalize (!same D f) = nb at *
  generalize lengthM m (i : Int) = L at *
  clear P h1 h2 hpb hf hn hi HSI
  go_enter Tryz.func37, Tryz.ntmps37
  go_wp2_with (with_reducible refine wpList_load_row rfl 33 _ rfl _ rfl 33 _ (0, 0) _ HA.out.cells Tryz.underlying33 rfl HI.out ?_)
  refine (HN.out _).mono ?_
  rintro e w1 ⟨rfl, b1⟩
  have HA1 := Lib.hid (HA.out.keep b1)
  have HB1 := Lib.hid (HB.out.trans (b1.mono HB.out.size))
  clear b1
  go_wp2_with (fail)
  have HK := Lib.hid (show ∀ W, Below w1.heap.size w1 W → W.cell? ⟨w.heap.size, 4, none⟩ = some (.slice (some ⟨pb, po, none⟩) m.sums.length k) ∧ W.rangeAt pb (po + i * 32) (digF f).toList ∧ Below w.heap.size w W from fun W hW => by
    have hb := HB1.out.trans (hW.mono HB1.out.size)
    exact ⟨(HA1.out.keep hW).sums, fun j u hj => (hb.cell (p := ⟨pb, po + i * 32 + j, none⟩) HPB.out).trans (HF.out j u hj), hb⟩)
  have b0 : Below w1.heap.size w1 w1.drew := below_drewN (Below.refl _ _) 1
  have k0 := HK.out _ b0
  have qi := HIF.out
  have qu := Tryz.underlying23
  go_region_held3 (fun W : World => W.cell? ⟨w.heap.size, 4, none⟩ = some (.slice (some ⟨pb, po, none⟩) m.sums.length k) ∧ W.rangeAt pb (po + i * 32) (digF f).toList ∧ Below w.heap.size w W) (first | exact k0 | assumption)
    (first | (go_at_call 53; (with_reducible refine (HFO.out _).mono ?_); rintro e w3 ⟨rfl, b3⟩; have k3 := HK.out _ (b0.trans (b3.mono b0.size))))
  all_goals
    have HB4 := Lib.hid (HB1.out.trans ((b0.trans (b3.mono b0.size)).mono HB1.out.size))
    clear k0 k3 b0 b3
    cases nb
    all_goals
      go_wp2_with (fail)
      refine bodyPost_ret (results_tmp rfl _ _ _) rfl ?_
      rw [HP.out]
      exact ⟨rfl, HB4.out⟩
end Go.Proofs.YtlechjpaldpgnaaGreatDoor
namespace Go.Proofs.YtlechjpaldpgnaaGreatDoor
open Go.ChangeShapes Go.WideShapes Go.ChangeAt Go.RowKit Sh Pn Mf

set_option maxRecDepth 100000 in
set_option maxHeartbeats 6400000 in
theorem law21_form (w : World) (m : Man) (A : Option Addr) (k : Nat) (hS : SIn w A k m.sums) (hn : m.sums.length ≤ 1000) :
    Calls Tryz.prog 7 #[.agg (manA m A k)] w fun e w' => ∃ B c, e = .returned (.agg (manA m B c)) ∧ SIn w' B c m.sums ∧ Below w.heap.size w w' := by
  have HI := Lib.hid (fun m A k => manI2 m A k)
  have HO := Lib.hid (fun m A k => manA_one m A k)
  have HSI := Lib.hid hS
  have HN := Lib.hid hn
  have HIM := Lib.hid (digIL m.res)
  have HBU := Lib.hid (headManR m.b m.v m.s m.c m.res)
  obtain ⟨h, hh⟩ : ∃ h : Man, h = ⟨m.b, m.v, m.s, m.c, [], m.res⟩ := ⟨_, rfl⟩
  rw [← hh] at HBU
  have HH := Lib.hid hh
  clear hS hn hh
  go_enter Tryz.func7, Tryz.ntmps7
  go_upto_region 1 with (fail)
  refine gen_world (fun W => At W w.heap.size 26 m A k ∧ At W (w.heap.size + 1) 33 zeroM none 0 ∧ Below w.heap.size w W) ?_ ?_
  · refine ⟨(at_new w _ m A k).keep ((Below.refl _ _).alloc (Nat.le_refl _) _), ⟨?_⟩, ((Below.refl _ _).alloc (Nat.le_refl _) _).alloc (by simp) _⟩
    have := heap_alloc_new (w.alloc (.cells (manA m A k) 26)) (.cells (manA zeroM none 0) 33)
    simp only [World.size_alloc] at this
    exact this
  rintro w1 ⟨a1, o1, b1⟩
  have e0 := a1.base
  have e1 := a1.ver
  have e2 := a1.size
  have e3 := a1.chunk
  have HRES := Lib.hid a1.res
  have HNW := Lib.hid (show ∀ o, (w1.alloc o).heap[w1.heap.size]? = some o from fun o => heap_alloc_new w1 o)
  have HF := Lib.hid (show ∀ cc, Forms 26 33 23 w w1.heap.size (w1.heap.size + 1) m A k 0 none 0 ((w1.alloc (.cells cc 33)).setRow w1.heap.size (manA h none 0)) from fun cc => by
    have hb : Below w1.heap.size w1 ((w1.alloc (.cells cc 33)).setRow w1.heap.size (manA h none 0)) := below_setRow' ((Below.refl _ _).alloc (Nat.le_refl _) _) (Nat.le_refl _) _
    have hs : ((w1.alloc (.cells cc 33)).setRow w1.heap.size (manA h none 0)).heap.size = w1.heap.size + 1 := by simp [World.setRow]
    refine ⟨a1.keep hb, o1.keep hb, ?_, b1.trans (hb.mono b1.size), o1.lt⟩
    have hh : { m with sums := m.sums.take 0 } = h := by rw [HH.out, List.take_zero]
    rw [hh]
    exact grow_new ⟨setRow_heap _ _ _ _ _ _ (heap_alloc_new w1 _)⟩ (by rw [HH.out]) _ hs.symm)
  clear a1 o1 b1
  go_upto_region 2 with (first
    | (with_reducible refine wpList_load_mid rfl 24 _ rfl w.heap.size 5 rfl (digF m.res).toList _ HRES.out Tryz.underlying24 rfl HIM.out ?_)
    | (refine wpList_build_to rfl 33 #[(0, .tmp 6), (1, .tmp 8), (2, .tmp 10), (3, .tmp 12), (5, .tmp 14)] rfl [(0, .int .i64 m.b), (1, .int .i64 m.v), (2, .int .i64 m.s), (3, .int .i64 m.c), (5, .agg (digF m.res))] rfl _ HBU.out ?_)
    | (with_reducible refine wpList_store_row rfl 33 _ _ rfl _ (manA h none 0) rfl rfl 33 _ (HNW.out _) (HI.out h none 0) (by rw [manA_size]; kernel_rfl) (HO.out h none 0) ?_))
  refine gen_world (fun W => Forms 26 33 23 w w1.heap.size (w1.heap.size + 1) m A k 0 none 0 W) (HF.out _) ?_
  rintro w2 f2
  have F2 := Lib.hid f2
  clear f2 HF HNW HRES e0 e1 e2 e3
  generalize w1.heap.size = ub at *
  go_wp2_with (fail)
  go_loopw [4] (fun i wr => ∃ (q : Nat) (B : Option Addr) (c : Nat), i = .int .i64 (q : Int) ∧ q ≤ m.sums.length ∧ Forms 26 33 23 w ub (ub + 1) m A k q B c wr) (fun i _ => match i with | .int _ q => m.sums.length - q.toNat | _ => 0)
  case atStart => exact ⟨0, none, 0, rfl, Nat.zero_le _, F2.out⟩
  case round =>
    clear F2
    obtain ⟨q, B, c, rfl, hq, hr⟩ := hrel
    have HR := Lib.hid hr
    have e4 := hr.src.sums
    clear hr
    have hn := HN.out
    by_cases hlt : q < m.sums.length
    · have x0 : (q : Int) < (m.sums.length : Int) := by omega
      have x1 : decide ((q : Int) < (m.sums.length : Int)) = true := decide_eq_true x0
      have x2 : decide (q < m.sums.length) = true := decide_eq_true hlt
      have x4 : 0 ≤ (q : Int) := by omega
      have x3 := IntWalk.wrap64_in ((q : Int) + 1) (by omega)
      have HLT := Lib.hid hlt
      obtain ⟨pb, po, rfl, hpb, hf⟩ := HSI.out.at hlt
      have hql : (m.sums.take q).length = q := by rw [List.length_take]; omega
      have HQL := Lib.hid hql
      have HSS := Lib.hid (fun (W : World) (hh : Forms 26 33 23 w ub (ub + 1) m (some ⟨pb, po, none⟩) k q B c W) => show W.cell? ⟨ub, 4, none⟩ = some (.slice B q c) ∧ W.cell? ⟨w.heap.size, 4, none⟩ = some (.slice (some ⟨pb, po, none⟩) m.sums.length k) ∧ W.rangeAt pb (po + q * 32) (digF (m.sums.getD q fun _ => 0)).toList from by
        have h1 := hh.grow.at_.sums
        rw [show ({ m with sums := m.sums.take q } : Man).sums.length = q from hql] at h1
        exact ⟨h1, hh.src.sums, fun j u hj => (hh.below.cell (p := ⟨pb, po + q * 32 + j, none⟩) hpb).trans (hf j u hj)⟩)
      have R0 := Lib.hid (HR.out.step (below_drewN (Below.refl wr.heap.size wr) 1))
      have k0 := HSS.out _ R0.out
      have HAD := Lib.hid (fun (W : World) (hh : Forms 26 33 23 w ub (ub + 1) m (some ⟨pb, po, none⟩) k q B c W) (wz : World) (g cap : Nat) hg hb => hh.added HLT.out (wz := wz) (g := g) (cap := cap) hg hb)
      have HID := Lib.hid (digIL (m.sums.getD q fun _ => 0))
      have HWZ := Lib.hid (fun (wz : World) (hb : Below (ub + 1) wr.drew wz) => show wz.cell? ⟨w.heap.size, 4, none⟩ = some (.slice (some ⟨pb, po, none⟩) m.sums.length k) ∧ wz.rangeAt pb (po + q * 32) (digF (m.sums.getD q fun _ => 0)).toList from by
        have hl := R0.out.l1
        have hs := HSI.out
        have h1 := R0.out.below.trans (hb.mono (by omega))
        exact ⟨(hb.cell (p := ⟨w.heap.size, 4, none⟩) (by show w.heap.size < ub + 1; omega)).trans k0.2.1, fun j u hj => (h1.cell (p := ⟨pb, po + q * 32 + j, none⟩) hpb).trans (hf j u hj)⟩)
      clear hpb hf hql hlt
      generalize (m.sums.getD q fun _ => 0) = D at *
      go_wp2_with (fail)
      -- HANDV 0
      refine wp_region_noPanic ?_
      refine wp_region_heldV (S := (fun W : World => W.cell? ⟨ub, 4, none⟩ = some (.slice B q c) ∧ W.cell? ⟨w.heap.size, 4, none⟩ = some (.slice (some ⟨pb, po, none⟩) m.sums.length k) ∧ W.rangeAt pb (po + q * 32) (digF D).toList)) 10 (by kernel_rfl) (by kernel_rfl) (by kernel_rfl) (by kernel_rfl) (by decide) k0 (fun hHeld => ?_)
      refine wpAnyV_take (i := 0) (v := .pointer (some ⟨ub, 4, none⟩)) 23 rfl rfl (by decide) (by kernel_rfl) (by kernel_rfl) (fun _ _ _ h => h) (Or.inl ⟨by rfl, ?_⟩) hHeld ?_
      · intro W hW
        try dsimp only at hW
        go_simp
      simp only [Act.put, List.setIfInBounds_toArray, List.set_cons_succ, List.set_cons_zero]
      refine wpAnyV_take (i := 1) (v := .slice B q c) 24 rfl rfl (by decide) (by kernel_rfl) (by kernel_rfl) (fun _ _ _ h => h) (Or.inl ⟨by rfl, ?_⟩) hHeld ?_
      · intro W hW
        try dsimp only at hW
        go_simp
      simp only [Act.put, List.setIfInBounds_toArray, List.set_cons_succ, List.set_cons_zero]
      refine wpAnyV_take (i := 2) (v := .pointer (some ⟨w.heap.size, 4, none⟩)) 25 rfl rfl (by decide) (by kernel_rfl) (by kernel_rfl) (fun _ _ _ h => h) (Or.inl ⟨by rfl, ?_⟩) hHeld ?_
      · intro W hW
        try dsimp only at hW
        go_simp
      simp only [Act.put, List.setIfInBounds_toArray, List.set_cons_succ, List.set_cons_zero]
      refine wpAnyV_take (i := 3) (v := .slice (some ⟨pb, po, none⟩) m.sums.length k) 26 rfl rfl (by decide) (by kernel_rfl) (by kernel_rfl) (fun _ _ _ h => h) (Or.inl ⟨by rfl, ?_⟩) hHeld ?_
      · intro W hW
        try dsimp only at hW
        go_simp
      simp only [Act.put, List.setIfInBounds_toArray, List.set_cons_succ, List.set_cons_zero]
      refine wpAnyV_take (i := 4) (v := .int .i64 (q : Int)) 27 rfl rfl (by decide) (by kernel_rfl) (by kernel_rfl) (fun _ _ _ h => h) (Or.inl ⟨by rfl, ?_⟩) hHeld ?_
      · intro W hW
        try dsimp only at hW
        go_simp
      simp only [Act.put, List.setIfInBounds_toArray, List.set_cons_succ, List.set_cons_zero]
      refine wpAnyV_take (i := 5) (v := .pointer (some ⟨pb, po + q * 32, none⟩)) 28 rfl rfl (by decide) (by kernel_rfl) (by kernel_rfl) (fun _ _ _ h => h) (Or.inl ⟨by rfl, ?_⟩) hHeld ?_
      · intro W hW
        try dsimp only at hW
        go_simp
      simp only [Act.put, List.setIfInBounds_toArray, List.set_cons_succ, List.set_cons_zero]
      refine wpAnyV_take (i := 6) (v := .agg (digF D).toList.toArray) 29 rfl rfl (by decide) (by kernel_rfl) (by kernel_rfl) (fun _ _ _ h => h) (yieldsIf_load_mid (by rfl) 24 _ rfl pb (po + q * 32) rfl (digF D).toList _ (fun W hW => hW.2.2) Tryz.underlying24 rfl HID.out) hHeld ?_
      simp only [Act.put, List.setIfInBounds_toArray, List.set_cons_succ, List.set_cons_zero]
      refine wpAnyV_one (i := 7) (by kernel_rfl) rfl (by decide) (fun K hK => ?_)
      refine step_buildTo (by rfl) 31 23 1 #[(0, .tmp 29)] (by rfl) Tryz.underlying31 (digF D) (by rw [Array.toList_map]; exact rfOneS _) ?_
      refine hK.out _ _ (HSS.out _ (R0.out.step ((Below.refl wr.drew.heap.size wr.drew).alloc (Nat.le_refl _) (.cells (digF D) 23)))) (fun hHeld2 => ?_)
      clear hK K hHeld
      have hHeld := hHeld2
      clear hHeld2
      try simp only [Act.put, List.setIfInBounds_toArray]
      refine wpAnyV_one (i := 8) (by kernel_rfl) rfl (by decide) (fun K hK => ?_)
      refine step_add (by rfl) (.tmp 24) (.tmp 30) 31 (by rfl) 23 Tryz.underlying31 infoR R0.out.grow D (by simp only [HQL.out]; rfl) (by rfl) (by simp only [HQL.out]; have := HN.out; omega) ?_
      intro g cap wz hg hat hb7
      simp only [HQL.out] at hg hat ⊢
      have R7 := Lib.hid (HAD.out _ R0.out _ _ _ hg hb7)
      have c7 := hat.sums
      simp only [HQL.out] at c7
      have f7 := hat.fz 4
      have ⟨HSS2, HSS3⟩ := HWZ.out _ hb7
      clear hg hat hb7
      refine hK.out _ _ ⟨c7, HSS2, HSS3⟩ (fun hHeld2 => ?_)
      clear hK K hHeld
      have hHeld := hHeld2
      clear hHeld2
      try simp only [Act.put]
      refine wpAnyV_take (i := 9) (v := .pointer (some ⟨ub, 4, none⟩)) 32 rfl rfl (by decide) (by kernel_rfl) (by kernel_rfl) (fun _ _ _ h => h) (Or.inl ⟨by rfl, ?_⟩) hHeld ?_
      · intro W hW
        try dsimp only at hW
        go_simp
      simp only [Act.put]
      refine wpAnyV_last (by kernel_rfl) rfl (by kernel_rfl) (fun K hK => ?_)
      go_simp
      refine hK.out _ _ ?_
      refine NoPanic.normal ?_
      -- VDNAH 0
      clear hHeld k0 c7 f7
      go_wp2_with (fail)
      exact ⟨⟨q + 1, _, _, by first | rfl | (rw [x3]; rfl), HLT.out, R7.out⟩, by first | exact mfLess q _ HLT.out | (rw [x3]; exact mfLess q _ HLT.out)⟩
    · have x0 : ¬ (q : Int) < (m.sums.length : Int) := by omega
      have x1 : decide ((q : Int) < (m.sums.length : Int)) = false := decide_eq_false x0
      have x2 : decide (q < m.sums.length) = false := decide_eq_false hlt
      have HTK := Lib.hid (show m.sums.take q = m.sums from List.take_of_length_le (by omega))
      have HMC := Lib.hid (show At wr ub 33 m B c from by
        have h1 := HR.out.grow.at_
        rw [HTK.out] at h1
        exact h1).cells
      have HZ1 := Lib.hid HR.out.out.cells
      have HSN := Lib.hid (show SIn (wr.setRow (w.heap.size + 1) (manA m B c)) B c m.sums by
        have h1 := HR.out.sinOut (manA m B c)
        rw [HTK.out] at h1
        exact h1)
      go_wp2_with (first
        | (with_reducible refine wpList_load_row rfl 33 _ rfl _ rfl 33 (manA m B c) (0, 0) _ HMC.out Tryz.underlying33 rfl (HI.out m B c) ?_)
        | (with_reducible refine wpList_store_row rfl 33 _ _ rfl _ (manA m B c) rfl rfl 33 _ HZ1.out (HI.out m B c) (by rw [manA_size, manA_size]) (HO.out m B c) ?_))
      refine bodyPost_ret (results_cell_row rfl _ _ _ 33 (manA m B c) (0, 0) _ rfl (setRow_heap _ _ _ _ _ _ HZ1.out) Tryz.underlying33 rfl (HI.out m B c)) rfl ?_
      exact ⟨B, c, rfl, HSN.out, below_setRow' HR.out.below (by omega) _⟩
end Go.Proofs.YtlechjpaldpgnaaGreatDoor
