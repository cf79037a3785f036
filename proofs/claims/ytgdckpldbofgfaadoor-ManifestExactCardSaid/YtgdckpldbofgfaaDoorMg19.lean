/-
  Package manifest: Make. Conditions: both tables of sha lie as the program's text lays them; a patch has fewer than 2^48 bytes.
  What is told is read as it was; chunks of a patch are checked, each at its place: in plain words. No program here. No conditions.
  Package manifest: Parse. Conditions: both tables of sha lie as the program's text lays them.
  What layer 20's statements ask first: answers by number. Condition: both tables of sha lie as the program's text lays them.
  The document's manifest: Head. No conditions.
-/
import Derived.Test.YtgdckpldbofgfaaDoorMg18
import Derived.Test.YtgdckpldbofgfaaDoorMg11
set_option maxRecDepth 100000
namespace Go.Proofs.YtgdckpldbofgfaaDoor
open Go.ChangeShapes Go.WideShapes Go.ChangeAt Go.RowKit Sh Pn Mf

namespace Mf
theorem piece_extract (p : ByteArray) (c i : Nat) : (p.extract (i * c) (i * c + lenN p.size c i)).data.toList = pieceL p.data.toList c i := by
  have hl : p.data.toList.length = p.size := rfl
  rw [ByteArray.data_extract, Array.toList_extract, List.extract_eq_take_drop]
  unfold pieceL lenN
  rw [Nat.add_sub_cancel_left, ← hl, ← List.length_drop, List.take_eq_take_min (i := c)]
/-- The sums of a patch's chunks. -/
def sumsP (p : ByteArray) (c n : Nat) : List (Nat → UInt8) := (List.range n).map fun i => sumF (pieceL p.data.toList c i)
theorem sumsP_next (p : ByteArray) (c n : Nat) : sumsP p c (n + 1) = sumsP p c n ++ [sumF (pieceL p.data.toList c n)] := by unfold sumsP; rw [List.range_succ, List.map_append]; rfl
theorem sumsP_length (p : ByteArray) (c n : Nat) : (sumsP p c n).length = n := by simp [sumsP]
def headP (b v c : Int) (p : ByteArray) (f : Nat → UInt8) : Man := ⟨b, v, p.size, c, [], f⟩
/-- What Make answers. -/
def makM (b v c : Int) (p : ByteArray) (f : Nat → UInt8) : Man × Int :=
  if needM (headP b v c p f) = 0 then (zeroM, 1) else ({ headP b v c p f with sums := sumsP p c.toNat (needM (headP b v c p f)) }, 0)
theorem need_head {m : Man} (h : needM m ≠ 0) : headB m.b m.v m.s m.c = true ∧ needM m = cntN m.s.toNat m.c.toNat := by
  unfold needM needN at h ⊢
  split
  · rename_i h1
    exact ⟨h1, rfl⟩
  · rename_i h1
    rw [if_neg h1] at h
    exact absurd rfl h
/-- A manifest that is made: q sums are there. -/
structure Makes (t e : TypeId) (w : World) (mb base : Nat) (p : ByteArray) (cc : Nat) (m : Man) (q : Nat) (A : Option Addr) (c : Nat) (W : World) : Prop where
  out : At W (w.heap.size + 1) t zeroM none 0
  grow : Grow base mb t e { m with sums := sumsP p cc q } A c W
  below : Below w.heap.size w W
  l1 : w.heap.size + 1 < mb
section
variable {t e : TypeId} {w W W' : World} {mb base : Nat} {p : ByteArray} {cc : Nat} {m : Man} {q : Nat} {A : Option Addr} {c : Nat}
theorem Makes.step (h : Makes t e w mb base p cc m q A c W) (hb : Below W.heap.size W W') : Makes t e w mb base p cc m q A c W' :=
  ⟨h.out.keep hb, h.grow.below hb, h.below.trans (hb.mono h.below.size), h.l1⟩
theorem Makes.added (h : Makes t e w mb base p cc m q A c W) {wz : World} {g cap : Nat} (hg : Grow base mb t e { m with sums := sumsP p cc q ++ [sumF (pieceL p.data.toList cc q)] } (some ⟨g, 0, none⟩) cap (wz.setCell ⟨mb, 4, none⟩ (.slice (some ⟨g, 0, none⟩) (q + 1) cap))) (hb : Below base W wz) :
    Makes t e w mb base p cc m (q + 1) (some ⟨g, 0, none⟩) cap (wz.setCell ⟨mb, 4, none⟩ (.slice (some ⟨g, 0, none⟩) (q + 1) cap)) := by
  have h1 := h.l1
  have h2 := h.grow.lt
  rw [← sumsP_next] at hg
  refine ⟨h.out.of_block ((heap_setCell_other _ _ _ _ (by show w.heap.size + 1 ≠ mb; omega)).trans (hb.block _ (by omega))), hg, ?_, h1⟩
  exact (h.below.trans (hb.mono (by omega))).setCell (p := ⟨mb, 4, none⟩) (by show w.heap.size ≤ mb; omega) _
theorem Makes.sinOut (h : Makes t e w mb base p cc m q A c W) (cs : Array Value) : SIn (W.setRow (w.heap.size + 1) cs) A c (sumsP p cc q) := by
  have h1 := h.l1
  have h2 := h.grow.lt
  exact (h.grow.only ((Only.refl W (w.heap.size + 1)).setRow (.inl rfl) cs) (by omega) (by omega)).sin
end
end Mf
theorem oneStr (s : ByteArray) : Tryd.prog.builtSlice 9 1 [(0, .string s)] = some #[.string s] := by kernel_rfl
theorem headMan (b v s c : Int) (f : Nat → UInt8) : Tryd.prog.built 26 [(0, .int .i64 b), (1, .int .i64 v), (2, .int .i64 s), (3, .int .i64 c), (5, .agg (digF f))] = some (manA ⟨b, v, s, c, [], f⟩ none 0) := by kernel_rfl
set_option maxRecDepth 100000 in
set_option maxHeartbeats 6400000 in
theorem mf_make (w : World) (b v c : Int) (p : ByteArray) (f : Nat → UInt8) (hp : p.size ≤ 281474976710656) (hT : Tabs w) :
    Calls Tryd.prog 23 #[.int .i64 b, .int .i64 v, .int .i64 c, .string p, .agg (digF f)] w fun e w' => ∃ A k, e = .returned (.tuple #[.agg (manA (makM b v c p f).1 A k), .int .i64 (makM b v c p f).2]) ∧ SIn w' A k (makM b v c p f).1.sums ∧ Below w.heap.size w w' := by
  have HT := Lib.hid hT
  have HI := Lib.hid (fun m A k => manI m A k)
  have HO := Lib.hid (fun m A k => manA_one m A k)
  have HNE := Lib.hid (fun W => mf_needed W (headP b v c p f) none 0)
  have HN64 := Lib.hid (need_most (headP b v c p f))
  have HNH := Lib.hid (need_head (m := headP b v c p f))
  have HPM := Lib.hid (show makM b v c p f = if needM (headP b v c p f) = 0 then (zeroM, 1) else ({ headP b v c p f with sums := sumsP p c.toNat (needM (headP b v c p f)) }, 0) from rfl)
  have HHS := Lib.hid (show (headP b v c p f).sums = [] from rfl)
  have HS := Lib.hid (show (headP b v c p f).s = (p.size : Int) ∧ (headP b v c p f).c = c from ⟨rfl, rfl⟩)
  have HBU := Lib.hid (headMan b v p.size c f)
  rw [show (⟨b, v, p.size, c, [], f⟩ : Man) = headP b v c p f from rfl] at HBU
  have HP := Lib.hid hp
  generalize makM b v c p f = pm at *
  generalize headP b v c p f = h at *
  generalize needM h = n at *
  have hn64 := HN64.out
  clear hT hp
  go_enter Tryd.func23, Tryd.ntmps23
  go_upto_region 1 with (fail)
  refine gen_world (fun W => W.heap[w.heap.size]? = some (.cells (digF f) 24 (0, 0)) ∧ At W (w.heap.size + 1) 26 zeroM none 0 ∧ Below w.heap.size w W) ?_ ?_
  · refine ⟨(heap_alloc_old _ _ (by simp)).trans (heap_alloc_new w _), ⟨?_⟩, ((Below.refl _ _).alloc (Nat.le_refl _) _).alloc (by simp) _⟩
    have := heap_alloc_new (w.alloc (.cells (digF f) 24)) (.cells (manA zeroM none 0) 26)
    simp only [World.size_alloc] at this
    exact this
  rintro w1 ⟨x1, a1, b1⟩
  have X1 := Lib.hid x1
  have A1 := Lib.hid a1
  have B1 := Lib.hid b1
  have HNW := Lib.hid (show ∀ o, (w1.alloc o).heap[w1.heap.size]? = some o from fun o => heap_alloc_new w1 o)
  have HXW := Lib.hid (show ∀ c, ((w1.alloc (.cells c 26)).setRow w1.heap.size (manA h none 0)).heap[w1.heap.size]? = some (.cells (manA h none 0) 26 (0, 0)) from fun c => setRow_heap _ _ _ _ _ _ (heap_alloc_new w1 _))
  have HMK := Lib.hid (show ∀ cc, Makes 26 24 w w1.heap.size (w1.heap.size + 1) p c.toNat h 0 none 0 ((w1.alloc (.cells cc 26)).setRow w1.heap.size (manA h none 0)) from fun cc => by
    have hb : Below w1.heap.size w1 ((w1.alloc (.cells cc 26)).setRow w1.heap.size (manA h none 0)) := below_setRow' ((Below.refl _ _).alloc (Nat.le_refl _) _) (Nat.le_refl _) _
    have hs : ((w1.alloc (.cells cc 26)).setRow w1.heap.size (manA h none 0)).heap.size = w1.heap.size + 1 := by simp [World.setRow]
    refine ⟨A1.out.keep hb, ?_, B1.out.trans (hb.mono B1.out.size), A1.out.lt⟩
    have hh : { h with sums := sumsP p c.toNat 0 } = h := by
      cases h
      simp only at HHS
      rw [show sumsP p c.toNat 0 = [] from rfl]
      congr 1
      exact HHS.out.symm
    rw [hh]
    exact grow_new ⟨HXW.out cc⟩ HHS.out _ hs.symm)
  clear x1 a1 b1
  go_wp2_with (first
    | (with_reducible refine wpList_load_row rfl 24 _ rfl _ rfl 24 (digF f) (0, 0) _ X1.out Tryd.underlying24 rfl (hiDigF f) ?_)
    | (refine wpList_build_to rfl 26 #[(0, .tmp 17), (1, .tmp 18), (2, .tmp 20), (3, .tmp 21), (5, .tmp 22)] rfl [(0, .int .i64 b), (1, .int .i64 v), (2, .int .i64 p.size), (3, .int .i64 c), (5, .agg (digF f))] rfl _ HBU.out ?_)
    | (with_reducible refine wpList_store_row rfl 26 _ _ rfl _ (manA h none 0) rfl rfl 26 _ (HNW.out _) (HI.out h none 0) (by rw [manA_size]; kernel_rfl) (HO.out h none 0) ?_)
    | (with_reducible refine wpList_load_row rfl 26 _ rfl _ rfl 26 (manA h none 0) (0, 0) _ (HXW.out _) Tryd.underlying26 rfl (HI.out h none 0) ?_))
  refine mf_calls (fun W => Makes 26 24 w w1.heap.size (w1.heap.size + 1) p c.toNat h 0 none 0 W) (HMK.out _) ?_
  rintro w2 m2
  have M2 := Lib.hid m2
  clear m2 HNW HXW HMK X1 A1 B1
  generalize w1.heap.size = mb at *
  refine (HNE.out w2).mono ?_
  rintro e w3 ⟨rfl, b3⟩
  have M3 := Lib.hid (M2.out.step b3)
  clear b3 M2
  have HZB := Lib.hid (fun (W : World) (hb : Below w.heap.size w W) => below_setRow' hb (show w.heap.size ≤ w.heap.size + 1 by omega) (manA zeroM none 0))
  have HSZ := Lib.hid (fun W => show SIn W none 0 zeroM.sums from ⟨Nat.le_refl _, fun h0 => absurd h0 (Nat.lt_irrefl 0)⟩)
  by_cases hn0 : n = 0
  case pos =>
    have t1 : ((n : Int) == 0) = true := by rw [hn0]; rfl
    have t2 : (n == 0) = true := by rw [hn0]; rfl
    have HPM' := Lib.hid (show pm = (zeroM, 1) from HPM.out.trans (if_pos hn0))
    have HZ0 := Lib.hid M3.out.out.cells
    clear hn0
    go_wp2_with (first
      | (refine wpList_build_to rfl 26 #[] rfl [] rfl _ zeroMan ?_)
      | (with_reducible refine wpList_store_row rfl 26 _ _ rfl _ (manA zeroM none 0) rfl rfl 26 _ HZ0.out (HI.out zeroM none 0) rfl (HO.out zeroM none 0) ?_))
    refine bodyPost_ret (mf_res_tmp rfl _ _ _ 26 (manA zeroM none 0) (0, 0) _ rfl (setRow_heap _ _ _ _ _ _ HZ0.out) Tryd.underlying26 rfl (HI.out zeroM none 0)) rfl ?_
    rw [HPM'.out]
    exact ⟨none, 0, rfl, HSZ.out _, HZB.out _ M3.out.below⟩
  have t1 : ((n : Int) == 0) = false := beq_eq_false_iff_ne.2 (by omega)
  have t2 : (n == 0) = false := beq_eq_false_iff_ne.2 (by omega)
  have HPM' := Lib.hid (show pm = ({ h with sums := sumsP p c.toNat n }, 0) from HPM.out.trans (if_neg hn0))
  obtain ⟨hg, hcn⟩ := HNH.out hn0
  have hgi := headB_iff.1 hg
  have hs := HS.out
  rw [hs.1, hs.2] at hgi hcn
  obtain ⟨cc, hc⟩ : ∃ cc : Nat, c = (cc : Int) := ⟨c.toNat, by omega⟩
  subst hc
  simp only [Int.toNat_natCast] at *
  have HGI := Lib.hid (show p.size ≤ 4096 ∧ 1 ≤ cc ∧ cc ≤ 256 ∧ n = cntN p.size cc from ⟨by omega, by omega, by omega, hcn⟩)
  clear hg hcn hgi hs HNH HNE hn0
  go_wp2_with (fail)
  go_loopw [30] (fun i wr => ∃ (q : Nat) (A : Option Addr) (k : Nat), i = .int .i64 (q : Int) ∧ q ≤ n ∧ Makes 26 24 w mb (mb + 1) p cc h q A k wr) (fun i _ => match i with | .int _ q => n - q.toNat | _ => 0)
  case atStart => exact ⟨0, none, 0, rfl, Nat.zero_le _, M3.out⟩
  case round =>
    clear M3
    obtain ⟨q, A, k, rfl, hq, hr⟩ := hrel
    have HR := Lib.hid hr
    clear hr
    have HMC := Lib.hid HR.out.grow.at_.cells
    by_cases hlt : q < n
    · have x0 : (q : Int) < (n : Int) := by omega
      have x1 : decide ((q : Int) < (n : Int)) = true := decide_eq_true x0
      have x3 := IntWalk.wrap64_in ((q : Int) + 1) (by omega)
      obtain ⟨g1, g2, g3, g4⟩ := HGI.out
      have hic := (cntN_at (s := p.size) (c := cc) (i := q) g2).1 (by omega)
      have hl2 := lenN_within (s := p.size) (c := cc) (i := q) g2 (by omega)
      have HSP := Lib.hid (fun W => mf_span W { h with sums := sumsP p cc q } A k p.size cc q HS.out.1 HS.out.2 g1 g3 hic)
      have HPE := Lib.hid (piece_extract p cc q)
      have hcut := fun (W : World) => str_cut p (q * cc) (q * cc + lenN p.size cc q) ((q * cc : Nat) : Int) ((q * cc + lenN p.size cc q : Nat) : Int) rfl rfl (by omega) hl2 W
      have hpl : (pieceL p.data.toList cc q).length ≤ 4096 := by
        rw [pieceL_length]
        have hz : p.data.toList.length = p.size := rfl
        rw [hz]
        unfold lenN
        omega
      have HPL := Lib.hid hpl
      generalize q * cc + lenN p.size cc q = Z at *
      generalize q * cc = F at *
      generalize p.extract F Z = X at *
      clear g1 g2 g3 g4 hic hl2 hpl
      go_wp2_with (with_reducible refine wpList_load_row rfl 26 _ rfl _ rfl 26 (manA { h with sums := sumsP p cc q } A k) (0, 0) _ HMC.out Tryd.underlying26 rfl (HI.out _ A k) ?_)
      refine (HSP.out _).mono ?_
      rintro e w4 ⟨rfl, b4⟩
      have HR4 := Lib.hid (HR.out.step b4)
      clear b4 HR HMC HSP
      have R0 := Lib.hid (HR4.out.step (below_drewN (Below.refl w4.heap.size w4) 1))
      have HSL := Lib.hid (fun (W : World) (hh : Makes 26 24 w mb (mb + 1) p cc h q A k W) => show W.cell? ⟨mb, 4, none⟩ = some (.slice A q k) from by
        have := hh.grow.at_.sums
        simp only [sumsP_length] at this
        exact this)
      have k0 := HSL.out _ R0.out
      have HOF := Lib.hid (fun (W : World) (hW : Makes 26 24 w mb (mb + 1) p cc h q A k W) (g : Nat) (hg : W.cell? ⟨g, 0, none⟩ = some (.string X)) => show Calls Tryd.prog 28 #[.slice (some ⟨g, 0, none⟩) 1 1] W fun e w' => e = .returned (.agg (digF (sumF (pieceL p.data.toList cc q)))) ∧ Below W.heap.size W w' from
        of_here [X] (pieceL p.data.toList cc q) ((flat_one X).trans HPE.out) W (some ⟨g, 0, none⟩) 1 1 rfl (by omega) (fun _ => ⟨g, 0, rfl, fun j hj => by
          obtain rfl : j = 0 := by omega
          exact hg⟩) (HT.out.below hW.below).f (HT.out.below hW.below).k (by have := HPL.out; omega))
      have R1 := Lib.hid (R0.out.step ((Below.refl _ _).alloc (Nat.le_refl _) (.cells #[.string X] 9)))
      have HC1 := Lib.hid (show (w4.drew.alloc (.cells #[.string X] 9)).cell? ⟨w4.heap.size, 0, none⟩ = some (.string X) from by
        show (w4.drew.alloc (.cells #[.string X] 9)).cell? ⟨w4.drew.heap.size, 0, none⟩ = some (.string X)
        rw [cell_of_row _ _ _ _ _ _ (heap_alloc_new w4.drew _)]
        rfl)
      have k1 := HSL.out _ R1.out
      have HAD := Lib.hid (fun (W : World) (hh : Makes 26 24 w mb (mb + 1) p cc h q A k W) (wz : World) (g cap : Nat) hg hb => hh.added (wz := wz) (g := g) (cap := cap) hg hb)
      generalize sumF (pieceL p.data.toList cc q) = D at *
      go_wp2_with (fail)
      -- HANDV 0
      refine wp_region_noPanic ?_
      refine wp_region_heldV (S := (fun W : World => W.cell? ⟨mb, 4, none⟩ = some (.slice A q k))) 11 (by kernel_rfl) (by kernel_rfl) (by kernel_rfl) (by kernel_rfl) (by decide) k0 (fun hHeld => ?_)
      refine wpAnyV_take (i := 0) (v := .pointer (some ⟨mb, 4, none⟩)) 39 rfl rfl (by decide) (by kernel_rfl) (by kernel_rfl) (fun _ _ _ h => h) (Or.inl ⟨by rfl, ?_⟩) hHeld ?_
      · intro W hW
        try dsimp only at hW
        go_simp
      simp only [Act.put, List.setIfInBounds_toArray, List.set_cons_succ, List.set_cons_zero]
      refine wpAnyV_take (i := 1) (v := .slice A q k) 40 rfl rfl (by decide) (by kernel_rfl) (by kernel_rfl) (fun _ _ _ h => h) (Or.inl ⟨by rfl, ?_⟩) hHeld ?_
      · intro W hW
        try dsimp only at hW
        go_simp
      simp only [Act.put, List.setIfInBounds_toArray, List.set_cons_succ, List.set_cons_zero]
      refine wpAnyV_take (i := 2) (v := .string p) 41 rfl rfl (by decide) (by kernel_rfl) (by kernel_rfl) (fun _ _ _ h => h) (Or.inl ⟨by rfl, ?_⟩) hHeld ?_
      · intro W hW
        try dsimp only at hW
        go_simp
      simp only [Act.put, List.setIfInBounds_toArray, List.set_cons_succ, List.set_cons_zero]
      refine wpAnyV_take (i := 3) (v := .int .i64 (F : Int)) 42 rfl rfl (by decide) (by kernel_rfl) (by kernel_rfl) (fun _ _ _ h => h) (Or.inl ⟨by rfl, ?_⟩) hHeld ?_
      · intro W hW
        try dsimp only at hW
        go_simp
      simp only [Act.put, List.setIfInBounds_toArray, List.set_cons_succ, List.set_cons_zero]
      refine wpAnyV_take (i := 4) (v := .int .i64 (Z : Int)) 43 rfl rfl (by decide) (by kernel_rfl) (by kernel_rfl) (fun _ _ _ h => h) (Or.inl ⟨by rfl, ?_⟩) hHeld ?_
      · intro W hW
        try dsimp only at hW
        go_simp
      simp only [Act.put, List.setIfInBounds_toArray, List.set_cons_succ, List.set_cons_zero]
      refine wpAnyV_take (i := 5) (v := .string X) 44 rfl rfl (by decide) (by kernel_rfl) (by kernel_rfl) (fun _ _ _ h => h) (Or.inl ⟨by rfl, ?_⟩) hHeld ?_
      · intro W hW
        try dsimp only at hW
        go_simp
      simp only [Act.put, List.setIfInBounds_toArray, List.set_cons_succ, List.set_cons_zero]
      refine wpAnyV_one (i := 6) (by kernel_rfl) rfl (by decide) (fun K hK => ?_)
      refine step_buildTo (by rfl) 89 9 1 #[(0, .tmp 44)] (by rfl) Tryd.underlying89 #[.string X] (by rw [Array.toList_map]; exact oneStr _) ?_
      refine hK.out _ _ k1 (fun hHeld2 => ?_)
      clear hK K hHeld
      have hHeld := hHeld2
      clear hHeld2
      try simp only [Act.put, List.setIfInBounds_toArray]
      refine wpAnyV_one (i := 7) (by kernel_rfl) rfl (by decide) (fun K hK => ?_)
      go_simp
      refine (HOF.out _ R1.out _ HC1.out).mono ?_
      rintro e w5 ⟨rfl, b5⟩
      have R5 := Lib.hid (R1.out.step b5)
      clear b5
      refine hK.out _ _ (HSL.out _ R5.out) (fun hHeld2 => ?_)
      clear hK K hHeld
      have hHeld := hHeld2
      clear hHeld2
      try simp only [Act.put, List.setIfInBounds_toArray, List.set_cons_succ, List.set_cons_zero]
      refine wpAnyV_one (i := 8) (by kernel_rfl) rfl (by decide) (fun K hK => ?_)
      refine step_buildTo (by rfl) 22 24 1 #[(0, .tmp 46)] (by rfl) Tryd.underlying22 (digF D) (by rw [Array.toList_map]; exact dgOneS _) ?_
      refine hK.out _ _ (HSL.out _ (R5.out.step ((Below.refl w5.heap.size w5).alloc (Nat.le_refl _) (.cells (digF D) 24)))) (fun hHeld2 => ?_)
      clear hK K hHeld
      have hHeld := hHeld2
      clear hHeld2
      try simp only [Act.put, List.setIfInBounds_toArray]
      refine wpAnyV_one (i := 9) (by kernel_rfl) rfl (by decide) (fun K hK => ?_)
      refine step_add (by rfl) (.tmp 40) (.tmp 47) 22 (by rfl) 24 Tryd.underlying22 infoD R5.out.grow D (by simp only [sumsP_length]; rfl) (by rfl) (by simp only [sumsP_length]; omega) ?_
      intro g cap wz hg hat hb7
      simp only [sumsP_length] at hg hat ⊢
      have R7 := Lib.hid (HAD.out _ R5.out _ _ _ hg hb7)
      have c7 := hat.sums
      simp only [sumsP_length] at c7
      have f7 := hat.fz 4
      clear hg hat hb7
      refine hK.out _ _ c7 (fun hHeld2 => ?_)
      clear hK K hHeld
      have hHeld := hHeld2
      clear hHeld2
      try simp only [Act.put]
      refine wpAnyV_take (i := 10) (v := .pointer (some ⟨mb, 4, none⟩)) 49 rfl rfl (by decide) (by kernel_rfl) (by kernel_rfl) (fun _ _ _ h => h) (Or.inl ⟨by rfl, ?_⟩) hHeld ?_
      · intro W hW
        try dsimp only at hW
        go_simp
      simp only [Act.put]
      refine wpAnyV_last (by kernel_rfl) rfl (by kernel_rfl) (fun K hK => ?_)
      go_simp
      refine hK.out _ _ ?_
      refine NoPanic.normal ?_
      -- VDNAH 0
      clear hHeld f7 c7 k0 k1 hcut
      go_wp2_with (fail)
      exact ⟨⟨q + 1, _, _, rfl, by omega, R7.out⟩, mfLess q n hlt⟩
    · obtain rfl : q = n := by omega
      have x0 : ¬ (q : Int) < (q : Int) := by omega
      have x1 : decide ((q : Int) < (q : Int)) = false := decide_eq_false x0
      have HZ1 := Lib.hid HR.out.out.cells
      have HSN := Lib.hid (HR.out.sinOut (manA { h with sums := sumsP p cc q } A k))
      go_wp2_with (first
        | (with_reducible refine wpList_load_row rfl 26 _ rfl _ rfl 26 (manA { h with sums := sumsP p cc q } A k) (0, 0) _ HMC.out Tryd.underlying26 rfl (HI.out _ A k) ?_)
        | (with_reducible refine wpList_store_row rfl 26 _ _ rfl _ (manA { h with sums := sumsP p cc q } A k) rfl rfl 26 _ HZ1.out (HI.out _ A k) (by rw [manA_size, manA_size]) (HO.out _ A k) ?_))
      refine bodyPost_ret (mf_res_tmp rfl _ _ _ 26 (manA { h with sums := sumsP p cc q } A k) (0, 0) _ rfl (setRow_heap _ _ _ _ _ _ HZ1.out) Tryd.underlying26 rfl (HI.out _ A k)) rfl ?_
      rw [HPM'.out]
      exact ⟨A, k, rfl, HSN.out, below_setRow' HR.out.below (by omega) _⟩
end Go.Proofs.YtgdckpldbofgfaaDoor
namespace Go.Proofs.YtgdckpldbofgfaaDoor
open Go Go.RowKit Sh Pn Mf Cf

namespace Mf
/-! Sums are alike where their 32 bytes are. -/
def cl (f : Nat → UInt8) : Nat → UInt8 := fun j => if j < 32 then f j else 0
theorem same_cl {f g : Nat → UInt8} : same f g = true ↔ cl f = cl g := by
  rw [same_iff]
  constructor
  · intro h
    funext j
    unfold cl
    split
    · exact h j (by assumption)
    · rfl
  · intro h j hj
    have := congrFun h j
    unfold cl at this
    rwa [if_pos hj, if_pos hj] at this
theorem pr_cl {f g f' g' : Nat → UInt8} (h1 : cl f = cl f') (h2 : cl g = cl g') : pr f g = pr f' g' := by
  have e1 : dig32 f = dig32 f' := by
    unfold dig32
    exact List.map_congr_left fun j hj => (same_iff f f').1 (same_cl.2 h1) j (List.mem_range.1 hj)
  have e2 : dig32 g = dig32 g' := by
    unfold dig32
    exact List.map_congr_left fun j hj => (same_iff g g').1 (same_cl.2 h2) j (List.mem_range.1 hj)
  unfold pr pairL
  rw [e1, e2]
theorem pairs_cl : ∀ (L M : List (Nat → UInt8)), L.map cl = M.map cl → (pairsD L).map cl = (pairsD M).map cl
  | [], [], _ => rfl
  | [f], [g], h => h
  | f :: g :: L, f' :: g' :: M, h => by
    simp only [List.map_cons, List.cons.injEq] at h
    simp only [pairsD, List.map_cons, List.cons.injEq]
    exact ⟨by rw [pr_cl h.1 h.2.1], pairs_cl L M h.2.2⟩
  | [], _ :: _, h => by simp at h
  | _ :: _, [], h => by simp at h
  | [_], _ :: _ :: _, h => by simp at h
  | _ :: _ :: _, [_], h => by simp at h
theorem head_cl {L M : List (Nat → UInt8)} (h : L.map cl = M.map cl) : cl (L.headD fun _ => 0) = cl (M.headD fun _ => 0) := by
  cases L with
  | nil => cases M with
    | nil => rfl
    | cons _ _ => simp at h
  | cons f L => cases M with
    | nil => simp at h
    | cons g M =>
      simp only [List.map_cons, List.cons.injEq] at h
      exact h.1
theorem treeF_cl : ∀ (k : Nat) (L M : List (Nat → UInt8)), L.map cl = M.map cl → cl (treeF k L) = cl (treeF k M)
  | 0, L, M, h => head_cl h
  | k + 1, L, M, h => by
    have hl : L.length = M.length := by simpa using congrArg List.length h
    simp only [treeF]
    by_cases h1 : L.length ≤ 1
    · rw [if_pos h1, if_pos (by omega)]
      exact head_cl h
    · rw [if_neg h1, if_neg (by omega)]
      exact treeF_cl k _ _ (pairs_cl L M h)
theorem rootF_cl {L M : List (Nat → UInt8)} (h : L.map cl = M.map cl) : cl (rootF L) = cl (rootF M) := by
  have hl : L.length = M.length := by simpa using congrArg List.length h
  unfold rootF
  rw [← hl]
  split
  · rfl
  · unfold treeD
    rw [← hl]
    exact treeF_cl _ _ _ h
theorem sameL_cl {L M : List (Nat → UInt8)} : sameL L M = true ↔ L.map cl = M.map cl := by
  constructor
  · intro h
    unfold sameL at h
    rw [Bool.and_eq_true] at h
    have hl := of_decide_eq_true h.1
    have ha := List.all_eq_true.1 h.2
    apply List.ext_getElem (by simpa using hl)
    intro i h1 h2
    rw [List.length_map] at h1 h2
    rw [List.getElem_map, List.getElem_map]
    have := same_cl.1 (ha i (List.mem_range.2 h1))
    unfold atD at this
    rwa [List.getD_eq_getElem?_getD, List.getElem?_eq_getElem h1, List.getD_eq_getElem?_getD, List.getElem?_eq_getElem h2] at this
  · intro h
    have hl : L.length = M.length := by simpa using congrArg List.length h
    refine sameL_yes hl fun i hi => same_cl.2 ?_
    have h2 : (L.map cl)[i]'(by simpa using hi) = (M.map cl)[i]'(by rw [List.length_map]; omega) := by simp only [h]
    rw [List.getElem_map, List.getElem_map] at h2
    unfold atD
    rwa [List.getD_eq_getElem?_getD, List.getElem?_eq_getElem hi, List.getD_eq_getElem?_getD, List.getElem?_eq_getElem (show i < M.length by omega)]
/-! What was told is read as it was. -/
theorem dg_head (f : Nat → UInt8) (T : List UInt8) : cl (dgOut ⟨(digL f ++ T).toArray⟩) = cl f := by
  funext j
  unfold cl
  split
  · rename_i hj
    unfold dgOut
    rw [if_pos (by rw [Pn.size_list, List.length_append, digL_length]; omega), byAt_list, List.getD_eq_getElem?_getD, List.getElem?_append_left (by rw [digL_length]; exact hj)]
    unfold digL
    simp [hj]
  · rfl
theorem tk_head (f : Nat → UInt8) (T : List UInt8) : tkRest ⟨(digL f ++ T).toArray⟩ 32 = ⟨T.toArray⟩ := by
  rw [tk_rest_yes (by rw [Pn.size_list, List.length_append, digL_length]; omega)]
  exact Pn.extract_list _ _ 32 (digL_length f).symm
theorem tk_fine (f : Nat → UInt8) (T : List UInt8) (b : Bool) : tkBad ⟨(digL f ++ T).toArray⟩ b 32 = b := tk_bad_yes b (by rw [Pn.size_list, List.length_append, digL_length]; omega)
theorem sumsL_cons (f : Nat → UInt8) (L : List (Nat → UInt8)) : sumsL (f :: L) = digL f ++ sumsL L := by unfold sumsL; simp
theorem rD_sums (L : List (Nat → UInt8)) (T : List UInt8) : ∀ k, k ≤ L.length → rD ⟨(sumsL L ++ T).toArray⟩ k = ⟨(sumsL (L.drop k) ++ T).toArray⟩ ∧ bD ⟨(sumsL L ++ T).toArray⟩ false k = false
  | 0, _ => ⟨rfl, rfl⟩
  | k + 1, h => by
    obtain ⟨h1, h2⟩ := rD_sums L T k (by omega)
    have h3 : L.drop k = L[k] :: L.drop (k + 1) := List.drop_eq_getElem_cons (by omega)
    simp only [rD, bD]
    rw [h1, h2, h3, sumsL_cons, List.append_assoc]
    exact ⟨tk_head _ _, tk_fine _ _ _⟩
theorem sD_sums (L : List (Nat → UInt8)) (T : List UInt8) (k : Nat) (h : k < L.length) : cl (sD ⟨(sumsL L ++ T).toArray⟩ k) = cl L[k] := by
  have h1 := (rD_sums L T k (by omega)).1
  unfold sD
  rw [h1, List.drop_eq_getElem_cons h, sumsL_cons, List.append_assoc]
  exact dg_head _ _
theorem sumsD_cl (L : List (Nat → UInt8)) (T : List UInt8) (n : Nat) (hn : n = L.length) : (sumsD ⟨(sumsL L ++ T).toArray⟩ n).map cl = L.map cl := by
  subst hn
  apply List.ext_getElem (by simp [sumsD])
  intro i h1 h2
  rw [List.length_map] at h2
  rw [List.getElem_map, List.getElem_map]
  unfold sumsD
  rw [List.getElem_map, List.getElem_range]
  exact sD_sums L T i h2
/-- A manifest that was told is read: alike. -/
theorem read_text {m : Man} (h : 0 < countM m) : ∃ n, parM ⟨(textM m).toArray⟩ = (n, 0) ∧ n.b = m.b ∧ n.v = m.v ∧ n.s = m.s ∧ n.c = m.c ∧ cl n.res = cl m.res ∧ n.sums.map cl = m.sums.map cl := by
  obtain ⟨hg, hl, hcm⟩ := countM_good h
  have hgi := headB_iff.1 hg
  have ok : ∀ z : Int, 1 ≤ z → z ≤ 2147483647 → numOk z = true := fun z h0 h1 => num_ok (by omega) (by omega)
  obtain ⟨T4, hT4⟩ : ∃ T, T = sumsL m.sums ++ (digL m.res ++ digL (rootF m.sums)) := ⟨_, rfl⟩
  have htx : textM m = numL m.b ++ (numL m.v ++ (numL m.s ++ (numL m.c ++ T4))) := by
    rw [text_root (by omega), hT4]
    unfold headL
    simp only [List.append_assoc]
  generalize hS : (⟨(textM m).toArray⟩ : ByteArray) = S
  have s0 : rsT limM S 0 = ⟨(numL m.b ++ (numL m.v ++ (numL m.s ++ (numL m.c ++ T4)))).toArray⟩ := by rw [← htx, hS]; rfl
  obtain ⟨v0, s1, b1⟩ := back_step limM S 0 m.b _ s0 rfl (ok _ hgi.1 hgi.2.1) (by show m.b ≤ 2147483647; omega)
  obtain ⟨v1, s2, b2⟩ := back_step limM S 1 m.v _ s1 b1 (ok _ (by omega) (by omega)) (by show m.v ≤ 2147483647; omega)
  obtain ⟨v2, s3, b3⟩ := back_step limM S 2 m.s _ s2 b2 (ok _ (by omega) (by omega)) (by show m.s ≤ 4096; omega)
  obtain ⟨v3, s4, b4⟩ := back_step limM S 3 m.c _ s3 b3 (ok _ (by omega) (by omega)) (by show m.c ≤ 256; omega)
  have hhd : headT S = ⟨m.b, m.v, m.s, m.c, [], fun _ => 0⟩ := by unfold headT; rw [v0, v1, v2, v3]
  have hnd : needT S = m.sums.length := by
    unfold needT
    rw [hhd]
    show needN m.b m.v m.s m.c = _
    unfold needN
    rw [if_pos hg, hl]
  have hr : rsT limM S 4 = ⟨(sumsL m.sums ++ (digL m.res ++ digL (rootF m.sums))).toArray⟩ := by rw [s4, hT4]
  obtain ⟨r1, r2⟩ := rD_sums m.sums (digL m.res ++ digL (rootF m.sums)) m.sums.length (Nat.le_refl _)
  rw [List.drop_length, show sumsL [] = [] from rfl, List.nil_append] at r1
  have r3 : rD ⟨(sumsL m.sums ++ (digL m.res ++ digL (rootF m.sums))).toArray⟩ (m.sums.length + 1) = ⟨(digL (rootF m.sums)).toArray⟩ := by
    show tkRest (rD _ m.sums.length) 32 = _
    rw [r1]
    exact tk_head _ _
  have r4 : bD ⟨(sumsL m.sums ++ (digL m.res ++ digL (rootF m.sums))).toArray⟩ false (m.sums.length + 1) = false := by
    show tkBad (rD _ m.sums.length) (bD _ false m.sums.length) 32 = _
    rw [r1, r2]
    exact tk_fine _ _ _
  have r5 : rD ⟨(sumsL m.sums ++ (digL m.res ++ digL (rootF m.sums))).toArray⟩ (m.sums.length + 2) = ⟨#[]⟩ := by
    show tkRest (rD _ (m.sums.length + 1)) 32 = _
    rw [r3]
    have := tk_head (rootF m.sums) []
    rwa [List.append_nil] at this
  have r6 : bD ⟨(sumsL m.sums ++ (digL m.res ++ digL (rootF m.sums))).toArray⟩ false (m.sums.length + 2) = false := by
    show tkBad (rD _ (m.sums.length + 1)) (bD _ false (m.sums.length + 1)) 32 = _
    rw [r3, r4]
    have := tk_fine (rootF m.sums) [] false
    rwa [List.append_nil] at this
  have hen : endT S = 0 := by
    unfold endT
    rw [hnd, hr, b4, r5, r6]
    rfl
  have hsu : (readT S).sums.map cl = m.sums.map cl := by
    show (sumsD (rsT limM S 4) (needT S)).map cl = _
    rw [hnd, hr]
    exact sumsD_cl _ _ _ rfl
  have hro : same (rootT S) (rootF (readT S).sums) = true := by
    rw [same_cl, rootF_cl hsu]
    show cl (sD (rsT limM S 4) (needT S + 1)) = _
    rw [hnd, hr]
    unfold sD
    rw [r3]
    have := dg_head (rootF m.sums) []
    rwa [List.append_nil] at this
  refine ⟨readT S, ?_, ?_, ?_, ?_, ?_, ?_, hsu⟩
  · unfold parM
    rw [if_pos ⟨by rw [hnd]; omega, hen⟩, if_pos hro]
  · show (headT S).b = _
    rw [hhd]
  · show (headT S).v = _
    rw [hhd]
  · show (headT S).s = _
    rw [hhd]
  · show (headT S).c = _
    rw [hhd]
  · show cl (sD (rsT limM S 4) (needT S)) = _
    rw [hnd, hr]
    unfold sD
    rw [r1]
    exact dg_head _ _
theorem sameM_of {m n : Man} (h1 : n.b = m.b) (h2 : n.v = m.v) (h3 : n.s = m.s) (h4 : n.c = m.c) (h5 : cl n.res = cl m.res) (h6 : n.sums.map cl = m.sums.map cl) : sameM m n = true := by
  unfold sameM
  rw [h1, h2, h3, h4, same_cl.2 h5.symm, sameL_cl.2 h6.symm]
  simp
/-! A manifest that is made. -/
theorem made {b v : Int} {c : Nat} {p : ByteArray} {f : Nat → UInt8} (h1 : 1 ≤ b) (h2 : b ≤ 2147483647) (h3 : 1 ≤ v) (h4 : v ≤ 2147483647) (h5 : b ≠ v) (h6 : 1 ≤ p.size) (h7 : p.size ≤ 4096) (h8 : 1 ≤ c) (h9 : c ≤ 256) (h10 : cntN p.size c ≤ 64) :
    makM b v c p f = (⟨b, v, p.size, c, sumsP p c (cntN p.size c), f⟩, 0) ∧ countM ⟨b, v, p.size, c, sumsP p c (cntN p.size c), f⟩ = cntN p.size c := by
  have hg : headB b v (p.size : Int) (c : Int) = true := headB_iff.2 (by simp; omega)
  have hn : needM (headP b v c p f) = cntN p.size c := by
    show needN b v (p.size : Int) (c : Int) = _
    unfold needN
    rw [if_pos hg]
    simp
  have h0 := cntN_pos h8 h6
  constructor
  · unfold makM
    rw [hn, if_neg (by omega)]
    simp [headP]
  · unfold countM
    rw [if_pos ⟨hg, by simp [sumsP]⟩]
    simp [sumsP]
theorem made_length {b v : Int} {c : Nat} {p : ByteArray} {f : Nat → UInt8} (hc : countM ⟨b, v, p.size, c, sumsP p c (cntN p.size c), f⟩ = cntN p.size c) (i : Nat) (hi : i < cntN p.size c) :
    lengthM ⟨b, v, p.size, c, sumsP p c (cntN p.size c), f⟩ (i : Int) = lenN p.size c i := by
  unfold lengthM
  rw [if_pos ⟨by omega, by rw [hc]; omega⟩]
  rfl
theorem made_out {m : Man} {i : Int} (h : (countM m : Int) ≤ i) : lengthM m i = 0 := if_neg fun h' => by omega
theorem made_part {b v : Int} {c : Nat} {p : ByteArray} {f : Nat → UInt8} (h8 : 1 ≤ c) (hc : countM ⟨b, v, p.size, c, sumsP p c (cntN p.size c), f⟩ = cntN p.size c) (i : Nat) (hi : i < cntN p.size c) :
    partM ⟨b, v, p.size, c, sumsP p c (cntN p.size c), f⟩ (i : Int) p = p.extract (i * c) (i * c + lenN p.size c i) := by
  unfold partM
  rw [made_length hc i hi, if_pos ⟨lenN_pos h8 hi, rfl⟩]
  rfl
theorem made_part_size {p : ByteArray} {c i : Nat} (h8 : 1 ≤ c) (hi : i < cntN p.size c) : (p.extract (i * c) (i * c + lenN p.size c i)).size = lenN p.size c i := by
  rw [ByteArray.size_extract]
  have := lenN_within h8 hi
  omega
theorem made_check {b v : Int} {c : Nat} {p : ByteArray} {f : Nat → UInt8} (h8 : 1 ≤ c) (hc : countM ⟨b, v, p.size, c, sumsP p c (cntN p.size c), f⟩ = cntN p.size c) (i : Nat) (hi : i < cntN p.size c) :
    checkM ⟨b, v, p.size, c, sumsP p c (cntN p.size c), f⟩ (i : Int) (p.extract (i * c) (i * c + lenN p.size c i)) = 0 := by
  have h0 := lenN_pos h8 hi
  unfold checkM
  rw [made_length hc i hi, if_neg (by omega), if_neg (by rw [made_part_size h8 hi]; simp), if_pos]
  show same _ ((sumsP p c (cntN p.size c)).getD i _) = true
  rw [piece_extract]
  unfold sumsP
  rw [List.getD_eq_getElem?_getD, List.getElem?_map, List.getElem?_range hi]
  exact same_refl _
theorem check_size {m : Man} {i : Int} {d : ByteArray} (h : 0 < lengthM m i) (hd : d.size ≠ lengthM m i) : checkM m i d = 5 := (if_neg (by omega)).trans (if_pos hd)
theorem check_none {m : Man} {i : Int} {d : ByteArray} (h : lengthM m i = 0) : checkM m i d = 3 := if_pos h
end Mf
end Go.Proofs.YtgdckpldbofgfaaDoor
namespace Go.Proofs.YtgdckpldbofgfaaDoor
open Go.ChangeShapes Go.WideShapes Go.ChangeAt Go.RowKit Sh Pn Mf Cf

set_option maxRecDepth 100000 in
set_option maxHeartbeats 6400000 in
theorem mf_parse (w : World) (s : ByteArray) (hT : Tabs w) :
    Calls Tryd.prog 26 #[.string s] w fun e w' => ∃ A c, e = .returned (.tuple #[.agg (manA (parM s).1 A c), .int .i64 (parM s).2]) ∧ SIn w' A c (parM s).1.sums ∧ Below w.heap.size w w' := by
  have HT := Lib.hid hT
  have HI := Lib.hid (fun m A k => manI m A k)
  have HO := Lib.hid (fun m A k => manA_one m A k)
  have HNU := Lib.hid (fun (W : World) (b : Nat) (h : EyeAt W b s false) => show Calls Tryd.prog 42 #[.pointer (some ⟨b, 0, none⟩)] W (EyeSays W b (.agg (manA (headT s) none 0)) (rsT limM s 4) (bsT limM s 4)) from mf_numbers W b s h)
  have HNE := Lib.hid (fun W => show Calls Tryd.prog 30 #[.agg (manA (headT s) none 0)] W fun e w' => e = .returned (.int .i64 (needT s : Int)) ∧ Below W.heap.size W w' from mf_needed W (headT s) none 0)
  have HN64 := Lib.hid (show needT s ≤ 64 from need_most _)
  have HRT := Lib.hid (show readT s = { headT s with sums := sumsD (rsT limM s 4) (needT s), res := sD (rsT limM s 4) (needT s) } from rfl)
  have HHS := Lib.hid (show (headT s).sums = [] from rfl)
  have HPM := Lib.hid (show parM s = if 0 < needT s ∧ endT s = 0 then (if same (rootT s) (rootF (readT s).sums) = true then (readT s, 0) else (zeroM, 6)) else (zeroM, 5) from rfl)
  have HET := Lib.hid (show endT s = endOf (rD (rsT limM s 4) (needT s + 2)) (bD (rsT limM s 4) (bsT limM s 4) (needT s + 2)) from rfl)
  have HRO := Lib.hid (show rootT s = sD (rsT limM s 4) (needT s + 1) from rfl)
  have HCR := Lib.hid (count_read s)
  clear hT
  generalize needT s = n at *
  generalize readT s = R at *
  generalize headT s = h at *
  generalize endT s = en at *
  generalize rootT s = ro at *
  generalize rsT limM s 4 = r at *
  generalize bsT limM s 4 = bad at *
  generalize parM s = pm at *
  have hn64 := HN64.out
  go_enter Tryd.func26, Tryd.ntmps26
  go_wp2_with (fail)
  refine mf_calls (fun W => At W w.heap.size 26 zeroM none 0 ∧ Below w.heap.size w W) ?_ ?_
  · exact ⟨⟨(heap_alloc_new w _).trans (by kernel_rfl)⟩, (Below.refl _ _).alloc (Nat.le_refl _) _⟩
  rintro w0 ⟨a0, b0⟩
  have A0 := Lib.hid a0
  have B0 := Lib.hid b0
  clear a0 b0
  refine (eye_of s w0).mono ?_
  rintro e w1 ⟨rfl, e1, b1⟩
  have E1 := Lib.hid e1
  have A1 := Lib.hid (A0.out.keep b1)
  have B1 := Lib.hid (B0.out.trans (b1.mono B0.out.size))
  have L0 := Lib.hid (show w.heap.size < w0.heap.size from A0.out.lt)
  clear e1 b1 A0 B0
  generalize w0.heap.size = eb at *
  go_wp2_with (fail)
  refine (HNU.out w1 eb E1.out).mono ?_
  rintro e w2 ⟨rfl, e2, o2⟩
  have l0 := L0.out
  have E2 := Lib.hid e2
  have A2 := Lib.hid (A1.out.of_block (o2.block _ A1.out.lt (by omega)))
  have B2 := Lib.hid (B1.out.trans (o2.below (by omega) B1.out.size))
  have HNW := Lib.hid (show ∀ o, (w2.alloc o).heap[w2.heap.size]? = some o from fun o => heap_alloc_new w2 o)
  have HXW := Lib.hid (show ∀ c, ((w2.alloc (.cells c 26)).setRow w2.heap.size (manA h none 0)).heap[w2.heap.size]? = some (.cells (manA h none 0) 26 (0, 0)) from fun c => setRow_heap _ _ _ _ _ _ (heap_alloc_new w2 _))
  have HRD := Lib.hid (show ∀ c, Reads 26 24 w eb w2.heap.size (w2.heap.size + 1) r bad h 0 0 none 0 ((w2.alloc (.cells c 26)).setRow w2.heap.size (manA h none 0)) from fun c => by
    have hb : Below w2.heap.size w2 ((w2.alloc (.cells c 26)).setRow w2.heap.size (manA h none 0)) := below_setRow' ((Below.refl _ _).alloc (Nat.le_refl _) _) (Nat.le_refl _) _
    have hs : ((w2.alloc (.cells c 26)).setRow w2.heap.size (manA h none 0)).heap.size = w2.heap.size + 1 := by simp [World.setRow]
    refine ⟨E2.out.of_block (hb.block _ E2.out.lt), A2.out.keep hb, ?_, B2.out.trans (hb.mono B2.out.size), l0, E2.out.lt⟩
    have hh : { h with sums := sumsD r 0 } = h := by
      cases h
      simp only at HHS
      rw [show sumsD r 0 = [] from rfl]
      congr 1
      exact HHS.out.symm
    rw [hh]
    exact grow_new ⟨HXW.out c⟩ HHS.out _ hs.symm)
  clear e2 o2 A1 B1
  go_wp2_with (first
    | (with_reducible refine wpList_store_row rfl 26 _ _ rfl _ (manA h none 0) rfl rfl 26 _ (HNW.out _) (HI.out h none 0) (by rw [manA_size]; kernel_rfl) (HO.out h none 0) ?_)
    | (with_reducible refine wpList_load_row rfl 26 _ rfl _ rfl 26 (manA h none 0) (0, 0) _ (HXW.out _) Tryd.underlying26 rfl (HI.out h none 0) ?_))
  refine mf_calls (fun W => Reads 26 24 w eb w2.heap.size (w2.heap.size + 1) r bad h 0 0 none 0 W) (HRD.out _) ?_
  rintro w3 r3
  have R3 := Lib.hid r3
  have L1 := Lib.hid (show eb < w2.heap.size from E2.out.lt)
  clear r3 HNW HXW HRD E2 A2 B2
  generalize w2.heap.size = mb at *
  refine (HNE.out w3).mono ?_
  rintro e w4 ⟨rfl, b4⟩
  have R4 := Lib.hid (R3.out.step b4)
  clear b4 R3
  go_wp2_with (fail)
  go_loopw [13] (fun i wr => ∃ (q : Nat) (A : Option Addr) (c : Nat), i = .int .i64 (q : Int) ∧ q ≤ n ∧ Reads 26 24 w eb mb (mb + 1) r bad h q q A c wr) (fun i _ => match i with | .int _ q => n - q.toNat | _ => 0)
  case atStart => exact ⟨0, none, 0, rfl, Nat.zero_le _, R4.out⟩
  case round =>
    clear R4
    obtain ⟨q, A, c, rfl, hq, hr⟩ := hrel
    have HR := Lib.hid hr
    clear hr
    by_cases hlt : q < n
    · have x0 : (q : Int) < (n : Int) := by omega
      have x1 : decide ((q : Int) < (n : Int)) = true := decide_eq_true x0
      have x3 := IntWalk.wrap64_in ((q : Int) + 1) (by omega)
      have HED := Lib.hid (fun (W : World) (hh : Reads 26 24 w eb mb (mb + 1) r bad h q q A c W) => show Calls Tryd.prog 43 #[.pointer (some ⟨eb, 0, none⟩)] W (EyeSays W eb (.agg (digF (sD r q))) (tkRest (rD r q) 32) (tkBad (rD r q) (bD r bad q) 32)) from eye_digest W eb _ _ hh.eye)
      have R0 := Lib.hid (HR.out.step (below_drewN (Below.refl _ _) 1))
      have HSL := Lib.hid (fun (j k : Nat) (W : World) (hh : Reads 26 24 w eb mb (mb + 1) r bad h j k A c W) => show W.cell? ⟨mb, 4, none⟩ = some (.slice A k c) from by
        have := hh.grow.at_.sums
        simp only [sumsD_length] at this
        exact this)
      have k0 := HSL.out _ _ _ R0.out
      have HGR := Lib.hid (fun (W : World) (hh : Reads 26 24 w eb mb (mb + 1) r bad h (q + 1) q A c W) => hh.grow)
      go_wp2_with (fail)
      -- HANDV 0
      refine wp_region_noPanic ?_
      refine wp_region_heldV (S := (fun W : World => W.cell? ⟨mb, 4, none⟩ = some (.slice A q c))) 7 (by kernel_rfl) (by kernel_rfl) (by kernel_rfl) (by kernel_rfl) (by decide) k0 (fun hHeld => ?_)
      refine wpAnyV_take (i := 0) (v := .pointer (some ⟨mb, 4, none⟩)) 15 rfl rfl (by decide) (by kernel_rfl) (by kernel_rfl) (fun _ _ _ h => h) (Or.inl ⟨by rfl, ?_⟩) hHeld ?_
      · intro W hW
        try dsimp only at hW
        go_simp
      simp only [Act.put, List.setIfInBounds_toArray, List.set_cons_succ, List.set_cons_zero]
      refine wpAnyV_take (i := 1) (v := .slice A q c) 16 rfl rfl (by decide) (by kernel_rfl) (by kernel_rfl) (fun _ _ _ h => h) (Or.inl ⟨by rfl, ?_⟩) hHeld ?_
      · intro W hW
        try dsimp only at hW
        go_simp
      simp only [Act.put, List.setIfInBounds_toArray, List.set_cons_succ, List.set_cons_zero]
      refine wpAnyV_take (i := 2) (v := .pointer (some ⟨eb, 0, none⟩)) 17 rfl rfl (by decide) (by kernel_rfl) (by kernel_rfl) (fun _ _ _ h => h) (Or.inl ⟨by rfl, ?_⟩) hHeld ?_
      · intro W hW
        try dsimp only at hW
        go_simp
      simp only [Act.put, List.setIfInBounds_toArray, List.set_cons_succ, List.set_cons_zero]
      refine wpAnyV_one (i := 3) (by kernel_rfl) rfl (by decide) (fun K hK => ?_)
      go_simp
      refine (HED.out _ R0.out).mono ?_
      rintro e w5 ⟨rfl, e5, o5⟩
      have R5 := Lib.hid (R0.out.read e5 o5)
      clear e5 o5
      refine hK.out _ _ (HSL.out _ _ _ R5.out) (fun hHeld2 => ?_)
      clear hK K hHeld
      have hHeld := hHeld2
      clear hHeld2
      try simp only [Act.put, List.setIfInBounds_toArray, List.set_cons_succ, List.set_cons_zero]
      refine wpAnyV_one (i := 4) (by kernel_rfl) rfl (by decide) (fun K hK => ?_)
      refine step_buildTo (by rfl) 22 24 1 #[(0, .tmp 18)] (by rfl) Tryd.underlying22 (digF (sD r q)) (by rw [Array.toList_map]; exact dgOneS _) ?_
      refine hK.out _ _ (HSL.out _ _ _ (R5.out.step ((Below.refl w5.heap.size w5).alloc (Nat.le_refl _) (.cells (digF (sD r q)) 24)))) (fun hHeld2 => ?_)
      clear hK K hHeld
      have hHeld := hHeld2
      clear hHeld2
      try simp only [Act.put, List.setIfInBounds_toArray]
      refine wpAnyV_one (i := 5) (by kernel_rfl) rfl (by decide) (fun K hK => ?_)
      refine step_add (by rfl) (.tmp 16) (.tmp 19) 22 (by rfl) 24 Tryd.underlying22 infoD (HGR.out _ R5.out) (sD r q) (by simp only [sumsD_length]; rfl) (by rfl) (by simp only [sumsD_length]; omega) ?_
      intro g cap wz hg hat hb7
      simp only [sumsD_length] at hg hat ⊢
      have R7 := Lib.hid (R5.out.added hg hb7)
      have c7 := hat.sums
      simp only [sumsD_length] at c7
      have f7 := hat.fz 4
      clear hg hat hb7
      refine hK.out _ _ c7 (fun hHeld2 => ?_)
      clear hK K hHeld
      have hHeld := hHeld2
      clear hHeld2
      try simp only [Act.put]
      refine wpAnyV_take (i := 6) (v := .pointer (some ⟨mb, 4, none⟩)) 21 rfl rfl (by decide) (by kernel_rfl) (by kernel_rfl) (fun _ _ _ h => h) (Or.inl ⟨by rfl, ?_⟩) hHeld ?_
      · intro W hW
        try dsimp only at hW
        go_simp
      simp only [Act.put]
      refine wpAnyV_last (by kernel_rfl) rfl (by kernel_rfl) (fun K hK => ?_)
      go_simp
      refine hK.out _ _ ?_
      refine NoPanic.normal ?_
      -- VDNAH 0
      clear hHeld f7 c7 k0
      go_wp2_with (fail)
      exact ⟨⟨q + 1, _, _, rfl, by omega, R7.out⟩, mfLess q n hlt⟩
    · obtain rfl : q = n := by omega
      have x0 : ¬ (q : Int) < (q : Int) := by omega
      have x1 : decide ((q : Int) < (q : Int)) = false := decide_eq_false x0
      have HED := Lib.hid (fun (W : World) (hh : Reads 26 24 w eb mb (mb + 1) r bad h q q A c W) => show Calls Tryd.prog 43 #[.pointer (some ⟨eb, 0, none⟩)] W (EyeSays W eb (.agg (digF (sD r q))) (tkRest (rD r q) 32) (tkBad (rD r q) (bD r bad q) 32)) from eye_digest W eb _ _ hh.eye)
      have HEE := Lib.hid (fun (W : World) (m : Man) (hh : Reads 26 24 w eb mb (mb + 1) r bad m (q + 1) q A c W) => show Calls Tryd.prog 43 #[.pointer (some ⟨eb, 0, none⟩)] W (EyeSays W eb (.agg (digF ro)) (tkRest (rD r (q + 1)) 32) (tkBad (rD r (q + 1)) (bD r bad (q + 1)) 32)) from by
        rw [HRO.out]
        exact eye_digest W eb _ _ hh.eye)
      have HEN := Lib.hid (fun (W : World) (m : Man) (hh : Reads 26 24 w eb mb (mb + 1) r bad m (q + 2) q A c W) => show Calls Tryd.prog 44 #[.pointer (some ⟨eb, 0, none⟩)] W fun e w' => e = .returned (.int .i64 en) ∧ W = w' from by
        rw [HET.out]
        exact eye_end W eb _ _ hh.eye)
      have HRR := Lib.hid (show ({ ({ h with res := sD r q } : Man) with sums := sumsD r q } : Man) = R from HRT.out.symm)
      have HRT' := Lib.hid (show R.sums = sumsD r q by rw [HRT.out])
      clear HNU HNE HET HRO HRT
      go_wp2_with (fail)
      refine (HED.out _ HR.out).mono ?_
      rintro e w5 ⟨rfl, e5, o5⟩
      have R5 := Lib.hid (HR.out.read e5 o5)
      clear e5 o5 HED HR
      have HT5 := Lib.hid (R5.out.grow.at_.there (digF (sD r q)).size (digF_size _))
      go_wp2_with (with_reducible refine wpList_store_mid rfl 24 _ _ rfl mb 5 (digF (sD r q)) rfl rfl HT5.out (hiDigF _) (hoDig _) ?_)
      have R6 := Lib.hid (R5.out.res (sD r q))
      refine mf_calls (fun W => Reads 26 24 w eb mb (mb + 1) r bad { h with res := sD r q } (q + 1) q A c W) R6.out ?_
      rintro w6 r6
      have R6' := Lib.hid r6
      clear r6 R5 R6 HT5
      refine (HEE.out w6 _ R6'.out).mono ?_
      rintro e w7 ⟨rfl, e7, o7⟩
      have R7 := Lib.hid (R6'.out.read e7 o7)
      have HNW := Lib.hid (show ∀ o, (w7.alloc o).heap[w7.heap.size]? = some o from fun o => heap_alloc_new w7 o)
      have hxb := fun cc => show Below w7.heap.size w7 ((w7.alloc (.cells cc 24)).setRow w7.heap.size (digF ro)) from below_setRow' ((Below.refl _ _).alloc (Nat.le_refl _) _) (Nat.le_refl _) _
      have HXB := Lib.hid hxb
      have HXR := Lib.hid (show ∀ cc, ((w7.alloc (.cells cc 24)).setRow w7.heap.size (digF ro)).heap[w7.heap.size]? = some (.cells (digF ro) 24 (0, 0)) from fun cc => setRow_heap _ _ _ _ _ _ (heap_alloc_new w7 _))
      have HMR := Lib.hid (fun (W : World) (j : Nat) (hh : Reads 26 24 w eb mb (mb + 1) r bad { h with res := sD r q } j q A c W) => show At W mb 26 R A c ∧ SIn W A c R.sums from by
        have h1 := hh.grow.at_
        have h2 := hh.grow.sin
        rw [show ({ ({ h with res := sD r q } : Man) with sums := sumsD r q } : Man) = R from HRR.out] at h1 h2
        exact ⟨h1, h2⟩)
      have HMC := Lib.hid (fun cc => (HMR.out _ _ (R7.out.step (hxb cc))).1.cells)
      clear e7 o7 R6' hxb
      have HGO := Lib.hid (fun W => show Calls Tryd.prog 10 #[.agg (manA R A c)] W fun e w' => e = .returned (.bool (decide (0 < q))) ∧ Below W.heap.size W w' from by
        have := mf_good W R A c
        rw [HCR.out] at this
        exact this)
      go_wp2_with (first
        | (with_reducible refine wpList_store_row rfl 24 _ _ rfl _ (digF ro) rfl rfl 24 _ (HNW.out _) (hiDigF ro) (by rw [digF_size]; kernel_rfl) (hoDig ro) ?_)
        | (with_reducible refine wpList_load_row rfl 26 _ rfl _ rfl 26 (manA R A c) (0, 0) _ (HMC.out _) Tryd.underlying26 rfl (HI.out R A c) ?_))
      refine mf_calls (fun W => Reads 26 24 w eb mb (mb + 1) r bad { h with res := sD r q } (q + 2) q A c W ∧ W.heap[w7.heap.size]? = some (.cells (digF ro) 24 (0, 0))) ⟨R7.out.step (HXB.out _), HXR.out _⟩ ?_
      rintro w8 ⟨r8, x8⟩
      have R8 := Lib.hid r8
      have X8 := Lib.hid x8
      clear r8 x8 HXB HXR HMC HNW R7
      generalize w7.heap.size = rb at *
      refine (HGO.out w8).mono ?_
      rintro e w9 ⟨rfl, b9⟩
      have R9 := Lib.hid (R8.out.step b9)
      have X9 := Lib.hid ((b9.block _ (Array.getElem?_eq_some_iff.1 X8.out).1).trans X8.out)
      clear b9 R8 X8 HGO HEE
      have HZ0 := Lib.hid R9.out.out.cells
      have HZB := Lib.hid (fun (W : World) (hb : Below w.heap.size w W) => below_setRow' hb (Nat.le_refl _) (manA zeroM none 0))
      have HSZ := Lib.hid (fun W => show SIn W none 0 zeroM.sums from ⟨Nat.le_refl _, fun h0 => absurd h0 (Nat.lt_irrefl 0)⟩)
      by_cases hq0 : 0 < q
      case neg =>
        have t1 : decide (0 < q) = false := decide_eq_false hq0
        have HP := Lib.hid (show pm = (zeroM, 5) from HPM.out.trans (if_neg fun h => hq0 h.1))
        go_wp2_with (first
          | (refine wpList_build_to rfl 26 #[] rfl [] rfl _ zeroMan ?_)
          | (with_reducible refine wpList_store_row rfl 26 _ _ rfl _ (manA zeroM none 0) rfl rfl 26 _ HZ0.out (HI.out zeroM none 0) rfl (HO.out zeroM none 0) ?_))
        refine bodyPost_ret (mf_res_tmp rfl _ _ _ 26 (manA zeroM none 0) (0, 0) _ rfl (setRow_heap _ _ _ _ _ _ HZ0.out) Tryd.underlying26 rfl (HI.out zeroM none 0)) rfl ?_
        rw [HP.out]
        exact ⟨none, 0, rfl, HSZ.out _, HZB.out _ R9.out.below⟩
      have t1 : decide (0 < q) = true := decide_eq_true hq0
      go_wp2_with (fail)
      refine (HEN.out w9 _ R9.out).mono ?_
      rintro e w9' ⟨rfl, rfl⟩
      by_cases hen : en = 0
      case neg =>
        have t2 : (en != 0) = true := bne_iff_ne.2 hen
        have t3 : (en == 0) = false := beq_eq_false_iff_ne.2 hen
        have HP := Lib.hid (show pm = (zeroM, 5) from HPM.out.trans (if_neg fun h => hen h.2))
        go_wp2_with (first
          | (refine wpList_build_to rfl 26 #[] rfl [] rfl _ zeroMan ?_)
          | (with_reducible refine wpList_store_row rfl 26 _ _ rfl _ (manA zeroM none 0) rfl rfl 26 _ HZ0.out (HI.out zeroM none 0) rfl (HO.out zeroM none 0) ?_))
        refine bodyPost_ret (mf_res_tmp rfl _ _ _ 26 (manA zeroM none 0) (0, 0) _ rfl (setRow_heap _ _ _ _ _ _ HZ0.out) Tryd.underlying26 rfl (HI.out zeroM none 0)) rfl ?_
        rw [HP.out]
        exact ⟨none, 0, rfl, HSZ.out _, HZB.out _ R9.out.below⟩
      subst hen
      have HM9 := Lib.hid (HMR.out _ _ R9.out)
      have B00 := Lib.hid (show Below w9.heap.size w9 w9.drew from below_drewN (Below.refl _ _) 1)
      have hks := fun (W : World) (hW : Below w9.heap.size w9 W) => show W.rangeAt rb 0 (digF ro).toList ∧ W.rangeAt mb 0 (manA R A c).toList from ⟨fun j u hj => by
        rw [Nat.zero_add, cell_of_row _ _ _ _ _ _ ((hW.block _ (Array.getElem?_eq_some_iff.1 X9.out).1).trans X9.out), ← hj, Array.getElem?_toList], (HM9.out.1.keep hW).row⟩
      have HKS := Lib.hid hks
      have k0 := HKS.out _ B00.out
      have HI1 := Lib.hid (digIL ro)
      have HI2 := Lib.hid (manIL R A c)
      have HROOT := Lib.hid (mf_root w9.drew R A c (HM9.out.2.keep B00.out) (by rw [show R.sums.length = q by rw [HRT'.out]; exact sumsD_length _ _]; omega) (HT.out.below (R9.out.below.trans (B00.out.mono R9.out.below.size))))
      have E : ∀ W, (binOp .neq 24 (.agg (digF ro)) (.agg (digF (rootF R.sums)))).run Tryd.prog W = .ok (.bool (!same ro (rootF R.sums))) W := fun W => run_neq_dig _ _ W
      have HPT := Lib.hid (show pm = if (!same ro (rootF R.sums)) = true then (zeroM, 6) else (R, 0) by
        rw [HPM.out, if_pos ⟨hq0, rfl⟩]
        cases same ro (rootF R.sums) <;> rfl)
      clear HPM hks
      generalize rootF R.sums = rr at *
      generalize (!same ro rr) = nb at *
      go_wp2_with (fail)
      -- HAND
      refine wp_region_noPanic ?_
      refine wp_region_held_drew (S := (fun W : World => W.rangeAt rb 0 (digF ro).toList ∧ W.rangeAt mb 0 (manA R A c).toList)) (by kernel_rfl) k0 (fun hHeld => ?_)
      refine wpAnyH_takeAt (i := 0) (v := .agg (digF ro).toList.toArray) 37 rfl rfl (by kernel_rfl) (by kernel_rfl) (by kernel_rfl) (fun _ _ _ h => h) (yieldsIf_load_mid (by rfl) 24 _ rfl rb (0) rfl (digF ro).toList _ (fun W hW => hW.1) Tryd.underlying24 rfl HI1.out) hHeld ?_
      simp only [Act.put, List.setIfInBounds_toArray, List.set_cons_succ, List.set_cons_zero]
      refine wpAnyH_takeAt (i := 1) (v := .agg (manA R A c).toList.toArray) 38 rfl rfl (by kernel_rfl) (by kernel_rfl) (by kernel_rfl) (fun _ _ _ h => h) (yieldsIf_load_mid (by rfl) 26 _ rfl mb (0) rfl (manA R A c).toList _ (fun W hW => hW.2) Tryd.underlying26 rfl HI2.out) hHeld ?_
      simp only [Act.put, List.setIfInBounds_toArray, List.set_cons_succ, List.set_cons_zero]
      refine wpAnyH_ready (rs := [2]) (by kernel_rfl) (by simp) ?_
      refine AllReadyH.cons rfl (fun K hK => ?_) AllReadyH.nil
      go_simp
      refine HROOT.out.mono ?_
      rintro e w10 ⟨rfl, b10⟩
      have hk9 := B00.out.trans (b10.mono B00.out.size)
      refine hK.out _ _ (HKS.out _ hk9) (fun hHeld2 => ?_)
      clear hK K hHeld
      have hHeld := hHeld2
      clear hHeld2
      try simp only [Act.put, List.setIfInBounds_toArray, List.set_cons_succ, List.set_cons_zero]
      refine wpAnyH_takeAt (i := 3) (v := .bool nb) 40 rfl rfl (by kernel_rfl) (by kernel_rfl) (by kernel_rfl) (fun _ _ _ h => h) (Or.inl ⟨by rfl, ?_⟩) hHeld ?_
      · intro W hW
        try dsimp only at hW
        go_simp
      simp only [Act.put, List.setIfInBounds_toArray, List.set_cons_succ, List.set_cons_zero]
      refine wpAnyH_done (by kernel_rfl) ?_ _
      refine NoPanic.normal ?_
      -- DNAH
      have HQ := Lib.hid hk9
      have R10 := Lib.hid (R9.out.step hk9)
      clear hHeld E k0 hk9 b10
      have HZ1 := Lib.hid R10.out.out.cells
      have HM1 := Lib.hid (HMR.out _ _ R10.out)
      have HM1C := Lib.hid HM1.out.1.cells
      cases nb with
      | true =>
        have HP := Lib.hid (show pm = (zeroM, 6) from HPT.out.trans (if_pos rfl))
        go_wp2_with (first
          | (refine wpList_build_to rfl 26 #[] rfl [] rfl _ zeroMan ?_)
          | (with_reducible refine wpList_store_row rfl 26 _ _ rfl _ (manA zeroM none 0) rfl rfl 26 _ HZ1.out (HI.out zeroM none 0) rfl (HO.out zeroM none 0) ?_))
        refine bodyPost_ret (mf_res_tmp rfl _ _ _ 26 (manA zeroM none 0) (0, 0) _ rfl (setRow_heap _ _ _ _ _ _ HZ1.out) Tryd.underlying26 rfl (HI.out zeroM none 0)) rfl ?_
        rw [HP.out]
        exact ⟨none, 0, rfl, HSZ.out _, HZB.out _ R10.out.below⟩
      | false =>
        have HP := Lib.hid (show pm = (R, 0) from HPT.out.trans (if_neg Bool.false_ne_true))
        have HSN := Lib.hid (show SIn (w10.setRow w.heap.size (manA R A c)) A c R.sums by rw [HRT'.out]; exact R10.out.sinOut _)
        go_wp2_with (first
          | (with_reducible refine wpList_load_row rfl 26 _ rfl _ rfl 26 (manA R A c) (0, 0) _ HM1C.out Tryd.underlying26 rfl (HI.out R A c) ?_)
          | (with_reducible refine wpList_store_row rfl 26 _ _ rfl _ (manA R A c) rfl rfl 26 _ HZ1.out (HI.out R A c) (by rw [manA_size, manA_size]) (HO.out R A c) ?_))
        refine bodyPost_ret (mf_res_tmp rfl _ _ _ 26 (manA R A c) (0, 0) _ rfl (setRow_heap _ _ _ _ _ _ HZ1.out) Tryd.underlying26 rfl (HI.out R A c)) rfl ?_
        rw [HP.out]
        exact ⟨A, c, rfl, HSN.out, below_setRow' R10.out.below (Nat.le_refl _) _⟩
end Go.Proofs.YtgdckpldbofgfaaDoor
namespace Go.Proofs.YtgdckpldbofgfaaDoor
open Go.ChangeShapes Go.WideShapes Go.ChangeAt Go.RowKit Sh Pn Mf

namespace Mf
def exP : ByteArray := ⟨#[48, 49, 50, 51, 52, 53, 54, 55, 56, 57]⟩
def exM : Man := ⟨1, 2, (exP.size : Int), ((4 : Nat) : Int), sumsP exP 4 (cntN exP.size 4), sumF [114]⟩
theorem ex_cnt : cntN exP.size 4 = 3 := by decide +kernel
theorem ex_made : makM 1 2 4 exP (sumF [114]) = (exM, 0) ∧ countM exM = 3 := by
  have h := made (b := 1) (v := 2) (c := 4) (p := exP) (f := sumF [114]) (by omega) (by omega) (by omega) (by omega) (by omega) (by decide +kernel) (by decide +kernel) (by omega) (by omega) (by rw [ex_cnt]; omega)
  rw [ex_cnt] at h
  exact ⟨h.1.trans (by unfold exM; rw [ex_cnt]), by
    unfold exM
    rw [ex_cnt]
    exact h.2⟩
theorem ex_count : countM exM = cntN exP.size 4 := by rw [ex_made.2, ex_cnt]
theorem ex_len : lengthM exM 2 = 2 := by
  have h := made_length ex_count 2 (by rw [ex_cnt]; omega)
  exact h.trans (by decide +kernel)
theorem ex_piece : exP.extract (2 * 4) (2 * 4 + lenN exP.size 4 2) = ⟨#[56, 57]⟩ := by
  have h : (exP.extract (2 * 4) (2 * 4 + lenN exP.size 4 2)).data = #[56, 57] := by decide +kernel
  exact ByteArray.ext h
theorem ex_part : partM exM 2 exP = ⟨#[56, 57]⟩ := (made_part (by omega) ex_count 2 (by rw [ex_cnt]; omega)).trans ex_piece
theorem ex_check : checkM exM 2 ⟨#[56, 57]⟩ = 0 := by
  have h := made_check (by omega) ex_count 2 (by rw [ex_cnt]; omega)
  rw [ex_piece] at h
  exact h
theorem ex_short : checkM exM 2 ⟨#[56]⟩ = 5 := check_size (by rw [ex_len]; omega) (by rw [ex_len]; decide)
theorem ex_none : checkM exM 3 ⟨#[]⟩ = 3 := check_none (made_out (by rw [ex_made.2]; omega))
theorem ex_sums : exM.sums.length = 3 := by
  show (sumsP exP 4 (cntN exP.size 4)).length = 3
  rw [sumsP_length, ex_cnt]
theorem ex_text : (⟨(textM exM).toArray⟩ : ByteArray).size = 176 := bsize (by rw [textM_length, ex_sums])
/-- Two manifests on their way. -/
structure Two (t : TypeId) (w : World) (mb nb : Nat) (m n : Man) (A : Option Addr) (k : Nat) (B : Option Addr) (q : Nat) (W : World) : Prop where
  one : At W mb t m A k
  two : At W nb t n B q
  s1 : SIn W A k m.sums
  s2 : SIn W B q n.sums
  below : Below w.heap.size w W
theorem Two.step {t : TypeId} {w W W' : World} {mb nb : Nat} {m n : Man} {A : Option Addr} {k : Nat} {B : Option Addr} {q : Nat} (h : Two t w mb nb m n A k B q W) (hb : Below W.heap.size W W') : Two t w mb nb m n A k B q W' :=
  ⟨h.one.keep hb, h.two.keep hb, h.s1.keep hb, h.s2.keep hb, h.below.trans (hb.mono h.below.size)⟩
theorem at_store {w : World} {t : TypeId} (m : Man) (A : Option Addr) (k : Nat) (c : Array Value) : At ((w.alloc (.cells c t)).setRow w.heap.size (manA m A k)) w.heap.size t m A k ∧ Below w.heap.size w ((w.alloc (.cells c t)).setRow w.heap.size (manA m A k)) :=
  ⟨⟨setRow_heap _ _ _ _ _ _ (heap_alloc_new w _)⟩, below_setRow' ((Below.refl _ _).alloc (Nat.le_refl _) _) (Nat.le_refl _) _⟩
/-- A manifest and a sum that came in, on their way. -/
structure Held (t td : TypeId) (w : World) (mb : Nat) (m : Man) (A : Option Addr) (k : Nat) (f : Nat → UInt8) (W : World) : Prop where
  one : At W mb t m A k
  sin : SIn W A k m.sums
  res : W.heap[w.heap.size]? = some (.cells (digF f) td (0, 0))
  below : Below w.heap.size w W
  lt : w.heap.size < mb
theorem Held.step {t td : TypeId} {w W W' : World} {mb : Nat} {m : Man} {A : Option Addr} {k : Nat} {f : Nat → UInt8} (h : Held t td w mb m A k f W) (hb : Below W.heap.size W W') : Held t td w mb m A k f W' :=
  ⟨h.one.keep hb, h.sin.keep hb, (hb.block _ (Array.getElem?_eq_some_iff.1 h.res).1).trans h.res, h.below.trans (hb.mono h.below.size), h.lt⟩
end Mf
set_option maxRecDepth 100000 in
set_option maxHeartbeats 6400000 in
theorem awake20 (w : World) (hT : Tabs w) : Calls Tryd.prog 7 #[] w fun e w' => e = .returned (.bool true) ∧ Below w.heap.size w w' := by
  have HT := Lib.hid hT
  have HI := Lib.hid (fun m A k => manI m A k)
  have HO := Lib.hid (fun m A k => manA_one m A k)
  obtain ⟨n, hpa, n1, n2, n3, n4, n5, n6⟩ := read_text (m := exM) (by rw [ex_made.2]; omega)
  have hnm := sameM_of n1 n2 n3 n4 n5 n6
  have HOF := Lib.hid (fun (W : World) (hW : Below w.heap.size w W) (g : Nat) (hg : W.cell? ⟨g, 0, none⟩ = some (.string ⟨#[114]⟩)) => show Calls Tryd.prog 28 #[.slice (some ⟨g, 0, none⟩) 1 1] W fun e w' => e = .returned (.agg (digF (sumF [114]))) ∧ Below W.heap.size W w' from
    of_here [⟨#[114]⟩] [114] rfl W (some ⟨g, 0, none⟩) 1 1 rfl (by omega) (fun _ => ⟨g, 0, rfl, fun j hj => by
      obtain rfl : j = 0 := by omega
      exact hg⟩) (hT.below hW).f (hT.below hW).k (by simp))
  have HMK := Lib.hid (fun (W : World) (hW : Below w.heap.size w W) => show Calls Tryd.prog 23 #[.int .i64 1, .int .i64 2, .int .i64 4, .string ⟨#[48, 49, 50, 51, 52, 53, 54, 55, 56, 57]⟩, .agg (digF (sumF [114]))] W fun e w' => ∃ A k, e = .returned (.tuple #[.agg (manA exM A k), .int .i64 0]) ∧ SIn w' A k exM.sums ∧ Below W.heap.size W w' from by
    have := mf_make W 1 2 4 exP (sumF [114]) (by decide +kernel) (hT.below hW)
    rw [ex_made.1] at this
    exact this)
  have HBY := Lib.hid (fun (W : World) (hW : Below w.heap.size w W) A k (hS : SIn W A k exM.sums) => mf_bytes W exM A k (by rw [ex_made.2]; omega) hS (hT.below hW))
  have HPA := Lib.hid (fun (W : World) (hW : Below w.heap.size w W) => show Calls Tryd.prog 26 #[.string ⟨(textM exM).toArray⟩] W fun e w' => ∃ B q, e = .returned (.tuple #[.agg (manA n B q), .int .i64 0]) ∧ SIn w' B q n.sums ∧ Below W.heap.size W w' from by
    have := mf_parse W ⟨(textM exM).toArray⟩ (hT.below hW)
    rw [hpa] at this
    exact this)
  have HSM := Lib.hid (fun (W : World) A k B q (h1 : SIn W A k exM.sums) (h2 : SIn W B q n.sums) => show Calls Tryd.prog 20 #[.agg (manA exM A k), .agg (manA n B q)] W fun e w' => e = .returned (.bool true) ∧ Below W.heap.size W w' from by
    have := mf_same W exM A k n B q h1 h2 (by rw [ex_sums]; omega)
    rw [hnm] at this
    exact this)
  have HCO := Lib.hid (fun (W : World) A k => show Calls Tryd.prog 11 #[.agg (manA exM A k)] W fun e w' => e = .returned (.int .i64 3) ∧ Below W.heap.size W w' from by
    have := mf_count W exM A k
    rw [ex_made.2] at this
    exact this)
  have HLE := Lib.hid (fun (W : World) A k => show Calls Tryd.prog 12 #[.agg (manA exM A k), .int .i64 2] W fun e w' => e = .returned (.int .i64 2) ∧ Below W.heap.size W w' from by
    have := mf_length W exM A k 2
    rw [ex_len] at this
    exact this)
  have HPT := Lib.hid (fun (W : World) A k => show Calls Tryd.prog 14 #[.agg (manA exM A k), .int .i64 2, .string ⟨#[48, 49, 50, 51, 52, 53, 54, 55, 56, 57]⟩] W fun e w' => e = .returned (.string ⟨#[56, 57]⟩) ∧ Below W.heap.size W w' from by
    have := mf_part W exM A k 2 exP (by decide +kernel)
    rw [ex_part] at this
    exact this)
  have HC1 := Lib.hid (fun (W : World) (hW : Below w.heap.size w W) A k (hS : SIn W A k exM.sums) => show Calls Tryd.prog 16 #[.agg (manA exM A k), .int .i64 2, .string ⟨#[56, 57]⟩] W fun e w' => e = .returned (.int .i64 0) ∧ Below W.heap.size W w' from by
    have := mf_check W exM A k 2 ⟨#[56, 57]⟩ (by decide) hS (hT.below hW)
    rw [ex_check] at this
    exact this)
  have HC2 := Lib.hid (fun (W : World) (hW : Below w.heap.size w W) A k (hS : SIn W A k exM.sums) => show Calls Tryd.prog 16 #[.agg (manA exM A k), .int .i64 2, .string ⟨#[56]⟩] W fun e w' => e = .returned (.int .i64 5) ∧ Below W.heap.size W w' from by
    have := mf_check W exM A k 2 ⟨#[56]⟩ (by decide) hS (hT.below hW)
    rw [ex_short] at this
    exact this)
  have HC3 := Lib.hid (fun (W : World) (hW : Below w.heap.size w W) A k (hS : SIn W A k exM.sums) => show Calls Tryd.prog 16 #[.agg (manA exM A k), .int .i64 3, .string ⟨#[]⟩] W fun e w' => e = .returned (.int .i64 3) ∧ Below W.heap.size W w' from by
    have := mf_check W exM A k 3 ⟨#[]⟩ (by decide) hS (hT.below hW)
    rw [ex_none] at this
    exact this)
  have HTS := Lib.hid ex_text
  clear hT hpa n1 n2 n3 n4 n5 n6 hnm
  generalize exM = m at *
  generalize (⟨(textM m).toArray⟩ : ByteArray) = T at *
  have z0 : (T.size : Int) = 176 := by have := HTS.out; omega
  have z1 : ((T.size : Int) == 176) = true := beq_iff_eq.2 z0
  have z2 : (T.size == 176) = true := beq_iff_eq.2 HTS.out
  have HZ := Lib.hid (And.intro z1 z2)
  clear z0
  have HG0 := Lib.hid ((Below.refl w.heap.size w).alloc (Nat.le_refl _) (.cells #[.string ⟨#[114]⟩] 9))
  have HC0 := Lib.hid (show (w.alloc (.cells #[.string ⟨#[114]⟩] 9)).cell? ⟨w.heap.size, 0, none⟩ = some (.string ⟨#[114]⟩) by rw [cell_of_row _ _ _ _ _ _ (heap_alloc_new w _)]; rfl)
  generalize sumF [114] = R at *
  go_enter Tryd.func7, Tryd.ntmps7
  go_wp2_with (fail)
  refine (HOF.out _ HG0.out _ HC0.out).mono ?_
  rintro e w1 ⟨rfl, b1⟩
  have HG1 := Lib.hid (HG0.out.trans (b1.mono HG0.out.size))
  clear b1 HOF HG0 HC0
  go_wp2_with (fail)
  refine (HMK.out _ HG1.out).mono ?_
  rintro e w2 ⟨A, k, rfl, s2, b2⟩
  have HG2 := Lib.hid (HG1.out.trans (b2.mono HG1.out.size))
  have HS2 := Lib.hid s2
  clear b2 s2 HG1 HMK
  have HNW := Lib.hid (show ∀ o, (w2.alloc o).heap[w2.heap.size]? = some o from fun o => heap_alloc_new w2 o)
  have HXA := Lib.hid (fun c => at_store (w := w2) (t := 26) m A k c)
  have HXC := Lib.hid (fun c => (HXA.out c).1.cells)
  go_wp2_with (first
    | (with_reducible refine wpList_store_row rfl 26 _ _ rfl _ (manA m A k) rfl rfl 26 _ (HNW.out _) (HI.out m A k) (by rw [manA_size]; kernel_rfl) (HO.out m A k) ?_)
    | (with_reducible refine wpList_load_row rfl 26 _ rfl _ rfl 26 (manA m A k) (0, 0) _ (HXC.out _) Tryd.underlying26 rfl (HI.out m A k) ?_))
  refine mf_calls (fun W => At W w2.heap.size 26 m A k ∧ SIn W A k m.sums ∧ Below w.heap.size w W) ⟨(HXA.out _).1, HS2.out.keep (HXA.out _).2, HG2.out.trans ((HXA.out _).2.mono HG2.out.size)⟩ ?_
  rintro w3 ⟨a3, s3, g3⟩
  have HA3 := Lib.hid a3
  have HS3 := Lib.hid s3
  have HG3 := Lib.hid g3
  clear a3 s3 g3 HNW HXA HXC HG2 HS2
  generalize w2.heap.size = mb at *
  refine (HBY.out _ HG3.out _ _ HS3.out).mono ?_
  rintro e w4 ⟨rfl, b4⟩
  have HA4 := Lib.hid (HA3.out.keep b4)
  have HS4 := Lib.hid (HS3.out.keep b4)
  have HG4 := Lib.hid (HG3.out.trans (b4.mono HG3.out.size))
  clear b4 HA3 HS3 HG3 HBY
  go_wp2_with (fail)
  refine (HPA.out _ HG4.out).mono ?_
  rintro e w5 ⟨B, q, rfl, s5, b5⟩
  have HA5 := Lib.hid (HA4.out.keep b5)
  have HS5 := Lib.hid (HS4.out.keep b5)
  have HN5 := Lib.hid s5
  have HG5 := Lib.hid (HG4.out.trans (b5.mono HG4.out.size))
  clear b5 s5 HA4 HS4 HG4 HPA
  have HNW := Lib.hid (show ∀ o, (w5.alloc o).heap[w5.heap.size]? = some o from fun o => heap_alloc_new w5 o)
  have HXA := Lib.hid (fun c => at_store (w := w5) (t := 26) n B q c)
  have HXT := Lib.hid (fun c => show Two 26 w mb w5.heap.size m n A k B q ((w5.alloc (.cells c 26)).setRow w5.heap.size (manA n B q)) from
    ⟨HA5.out.keep (HXA.out c).2, (HXA.out c).1, HS5.out.keep (HXA.out c).2, HN5.out.keep (HXA.out c).2, HG5.out.trans ((HXA.out c).2.mono HG5.out.size)⟩)
  have HXC := Lib.hid (fun c => (HXT.out c).one.cells)
  have HXD := Lib.hid (fun c => (HXT.out c).two.cells)
  have z1 := HZ.out.1
  have z2 := HZ.out.2
  go_wp2_with (first
    | (with_reducible refine wpList_store_row rfl 26 _ _ rfl _ (manA n B q) rfl rfl 26 _ (HNW.out _) (HI.out n B q) (by rw [manA_size]; kernel_rfl) (HO.out n B q) ?_)
    | ((with_reducible refine wpList_load_row_g ?_ 26 _ rfl _ rfl 26 (manA m A k) (0, 0) _ (HXC.out _) Tryd.underlying26 rfl (HI.out m A k) ?_); rfl)
    | ((with_reducible refine wpList_load_row_g ?_ 26 _ rfl _ rfl 26 (manA n B q) (0, 0) _ (HXD.out _) Tryd.underlying26 rfl (HI.out n B q) ?_); rfl))
  refine mf_calls (fun W => Two 26 w mb w5.heap.size m n A k B q W) (HXT.out _) ?_
  rintro w6 t6
  have T6 := Lib.hid t6
  clear t6 HNW HXA HXT HXC HXD HA5 HS5 HN5 HG5
  generalize w5.heap.size = nb at *
  refine (HSM.out _ _ _ _ _ T6.out.s1 T6.out.s2).mono ?_
  rintro e w7 ⟨rfl, b7⟩
  have T7 := Lib.hid (T6.out.step b7)
  have HM7 := Lib.hid T7.out.one.cells
  clear b7
  go_wp2_with ((with_reducible refine wpList_load_row_g ?_ 26 _ rfl _ rfl 26 (manA m A k) (0, 0) _ HM7.out Tryd.underlying26 rfl (HI.out m A k) ?_); rfl)
  refine (HCO.out _ _ _).mono ?_
  rintro e w8 ⟨rfl, b8⟩
  have T8 := Lib.hid (T7.out.step b8)
  have HM8 := Lib.hid T8.out.one.cells
  clear b8
  go_wp2_with ((with_reducible refine wpList_load_row_g ?_ 26 _ rfl _ rfl 26 (manA m A k) (0, 0) _ HM8.out Tryd.underlying26 rfl (HI.out m A k) ?_); rfl)
  refine (HLE.out _ _ _).mono ?_
  rintro e w9 ⟨rfl, b9⟩
  have T9 := Lib.hid (T8.out.step b9)
  have HM9 := Lib.hid T9.out.one.cells
  clear b9
  go_wp2_with ((with_reducible refine wpList_load_row_g ?_ 26 _ rfl _ rfl 26 (manA m A k) (0, 0) _ HM9.out Tryd.underlying26 rfl (HI.out m A k) ?_); rfl)
  refine (HPT.out _ _ _).mono ?_
  rintro e w10 ⟨rfl, b10⟩
  have T10 := Lib.hid (T9.out.step b10)
  have HM10 := Lib.hid T10.out.one.cells
  clear b10
  go_wp2_with ((with_reducible refine wpList_load_row_g ?_ 26 _ rfl _ rfl 26 (manA m A k) (0, 0) _ HM10.out Tryd.underlying26 rfl (HI.out m A k) ?_); rfl)
  refine (HC1.out _ T10.out.below _ _ T10.out.s1).mono ?_
  rintro e w11 ⟨rfl, b11⟩
  have T11 := Lib.hid (T10.out.step b11)
  have HM11 := Lib.hid T11.out.one.cells
  clear b11
  go_wp2_with ((with_reducible refine wpList_load_row_g ?_ 26 _ rfl _ rfl 26 (manA m A k) (0, 0) _ HM11.out Tryd.underlying26 rfl (HI.out m A k) ?_); rfl)
  refine (HC2.out _ T11.out.below _ _ T11.out.s1).mono ?_
  rintro e w12 ⟨rfl, b12⟩
  have T12 := Lib.hid (T11.out.step b12)
  have HM12 := Lib.hid T12.out.one.cells
  clear b12
  go_wp2_with ((with_reducible refine wpList_load_row_g ?_ 26 _ rfl _ rfl 26 (manA m A k) (0, 0) _ HM12.out Tryd.underlying26 rfl (HI.out m A k) ?_); rfl)
  refine (HC3.out _ T12.out.below _ _ T12.out.s1).mono ?_
  rintro e w13 ⟨rfl, b13⟩
  have T13 := Lib.hid (T12.out.step b13)
  have HM13 := Lib.hid T13.out.one.cells
  clear b13
  go_wp2_with ((with_reducible refine wpList_load_row_g ?_ 26 _ rfl _ rfl 26 (manA m A k) (0, 0) _ HM13.out Tryd.underlying26 rfl (HI.out m A k) ?_); rfl)
  exact bodyPost_ret (results_tmp rfl _ _ _) rfl ⟨rfl, T13.out.below⟩
end Go.Proofs.YtgdckpldbofgfaaDoor
namespace Go.Proofs.YtgdckpldbofgfaaDoor
open Go.ChangeShapes Go.WideShapes Go.ChangeAt Go.RowKit Sh Pn Mf

theorem infM2 : (Tryd.prog.info? 30).map (·.size) = some 37 := by kernel_rfl
theorem manI2 (m : Man) (A : Option Addr) (k : Nat) : (Tryd.prog.info? 30).map (·.size) = some (manA m A k).size := by rw [manA_size]; exact infM2
theorem manIL2 (m : Man) (A : Option Addr) (k : Nat) : (Tryd.prog.info? 30).map (·.size) = some (manA m A k).toList.length := by rw [Array.length_toList]; exact manI2 m A k
namespace Mf
theorem head_not {b v s c : Int} (h : ¬ (1 ≤ b ∧ b ≤ 2147483647 ∧ 1 ≤ v ∧ v ≤ 2147483647 ∧ b ≠ v ∧ 1 ≤ s ∧ s ≤ 4096 ∧ 1 ≤ c ∧ c ≤ 256 ∧ cntN s.toNat c.toNat ≤ 64)) : headB b v s c = false := by
  cases hh : headB b v s c with
  | false => rfl
  | true => exact absurd (headB_iff.1 hh) h
theorem head_cases (b v s c : Int) :
    (decide (b < 1) = true ∧ headB b v s c = false) ∨ (decide (b < 1) = false ∧ decide (2147483647 < b) = true ∧ headB b v s c = false) ∨
    (decide (b < 1) = false ∧ decide (2147483647 < b) = false ∧ decide (v < 1) = true ∧ headB b v s c = false) ∨
    (decide (b < 1) = false ∧ decide (2147483647 < b) = false ∧ decide (v < 1) = false ∧ decide (2147483647 < v) = true ∧ headB b v s c = false) ∨
    (decide (b < 1) = false ∧ decide (2147483647 < b) = false ∧ decide (v < 1) = false ∧ decide (2147483647 < v) = false ∧ (b == v) = true ∧ headB b v s c = false) ∨
    (decide (b < 1) = false ∧ decide (2147483647 < b) = false ∧ decide (v < 1) = false ∧ decide (2147483647 < v) = false ∧ (b == v) = false ∧ (
      (decide (1 ≤ s) = false ∧ headB b v s c = false) ∨ (decide (1 ≤ s) = true ∧ decide (s ≤ 4096) = false ∧ headB b v s c = false) ∨
      (decide (1 ≤ s) = true ∧ decide (s ≤ 4096) = true ∧ decide (1 ≤ c) = false ∧ headB b v s c = false) ∨
      (decide (1 ≤ s) = true ∧ decide (s ≤ 4096) = true ∧ decide (1 ≤ c) = true ∧ decide (c ≤ 256) = false ∧ headB b v s c = false) ∨
      (decide (1 ≤ s) = true ∧ decide (s ≤ 4096) = true ∧ decide (1 ≤ c) = true ∧ decide (c ≤ 256) = true ∧ ∃ n : Nat, (s + c - 1).tdiv c = (n : Int) ∧ n ≤ 4096 ∧ headB b v s c = decide (n ≤ 64)))) := by
  by_cases h1 : b < 1
  · exact .inl ⟨decide_eq_true h1, head_not fun h => by omega⟩
  by_cases h2 : 2147483647 < b
  · exact .inr (.inl ⟨decide_eq_false h1, decide_eq_true h2, head_not fun h => by omega⟩)
  by_cases h3 : v < 1
  · exact .inr (.inr (.inl ⟨decide_eq_false h1, decide_eq_false h2, decide_eq_true h3, head_not fun h => by omega⟩))
  by_cases h4 : 2147483647 < v
  · exact .inr (.inr (.inr (.inl ⟨decide_eq_false h1, decide_eq_false h2, decide_eq_false h3, decide_eq_true h4, head_not fun h => by omega⟩)))
  by_cases h5 : b = v
  · exact .inr (.inr (.inr (.inr (.inl ⟨decide_eq_false h1, decide_eq_false h2, decide_eq_false h3, decide_eq_false h4, beq_iff_eq.2 h5, head_not fun h => by omega⟩))))
  refine .inr (.inr (.inr (.inr (.inr ⟨decide_eq_false h1, decide_eq_false h2, decide_eq_false h3, decide_eq_false h4, beq_eq_false_iff_ne.2 h5, ?_⟩))))
  by_cases h6 : 1 ≤ s
  case neg => exact .inl ⟨decide_eq_false h6, head_not fun h => by omega⟩
  by_cases h7 : s ≤ 4096
  case neg => exact .inr (.inl ⟨decide_eq_true h6, decide_eq_false h7, head_not fun h => by omega⟩)
  by_cases h8 : 1 ≤ c
  case neg => exact .inr (.inr (.inl ⟨decide_eq_true h6, decide_eq_true h7, decide_eq_false h8, head_not fun h => by omega⟩))
  by_cases h9 : c ≤ 256
  case neg => exact .inr (.inr (.inr (.inl ⟨decide_eq_true h6, decide_eq_true h7, decide_eq_true h8, decide_eq_false h9, head_not fun h => by omega⟩)))
  refine .inr (.inr (.inr (.inr ⟨decide_eq_true h6, decide_eq_true h7, decide_eq_true h8, decide_eq_true h9, cntN s.toNat c.toNat, cntN_quot h6 h8, ?_, ?_⟩)))
  · unfold cntN
    exact Nat.div_le_of_le_mul (by omega)
  · by_cases h10 : cntN s.toNat c.toNat ≤ 64
    · rw [decide_eq_true h10]
      exact headB_iff.2 (by omega)
    · rw [decide_eq_false h10]
      exact head_not fun h => h10 h.2.2.2.2.2.2.2.2.2
end Mf
set_option maxRecDepth 100000 in
set_option maxHeartbeats 3200000 in
theorem ref20_head (w : World) (m : Man) (A : Option Addr) (k : Nat) : Calls Tryd.prog 29 #[.agg (manA m A k)] w fun e w' => e = .returned (.bool (headB m.b m.v m.s m.c)) ∧ Below w.heap.size w w' := by
  have HB := Lib.hid ((Below.refl w.heap.size w).alloc (Nat.le_refl _) (.cells (manA m A k) 30))
  have h0 := at_new w 30 m A k
  have e0 := h0.base
  have e1 := h0.ver
  have e2 := h0.size
  have e3 := h0.chunk
  have hc := head_cases m.b m.v m.s m.c
  clear h0
  generalize manA m A k = M at *
  generalize m.b = b at *
  generalize m.v = v at *
  generalize m.s = s at *
  generalize m.c = c at *
  generalize headB b v s c = N at *
  rcases hc with ⟨t1, rfl⟩ | ⟨t1, t2, rfl⟩ | ⟨t1, t2, t3, rfl⟩ | ⟨t1, t2, t3, t4, rfl⟩ | ⟨t1, t2, t3, t4, t5, rfl⟩ | ⟨t1, t2, t3, t4, t5, ⟨t6, rfl⟩ | ⟨t6, t7, rfl⟩ | ⟨t6, t7, t8, rfl⟩ | ⟨t6, t7, t8, t9, rfl⟩ | ⟨t6, t7, t8, t9, n, hq, hn, rfl⟩⟩
  case inr.inr.inr.inr.inr.inr.inr.inr.inr =>
    have i4 := of_decide_eq_true t6
    have i5 := of_decide_eq_true t7
    have i6 := of_decide_eq_true t8
    have i7 := of_decide_eq_true t9
    have x1 := IntWalk.wrap64_in (s + c) (by omega)
    have x2 := IntWalk.wrap64_in (s + c - 1) (by omega)
    have x3 : ¬ c = 0 := by omega
    have x4 : ¬ c = -1 := by omega
    have x5 : (c == 0) = false := beq_eq_false_iff_ne.2 x3
    have x6 : (c == -1) = false := beq_eq_false_iff_ne.2 x4
    have x7 := IntWalk.wrap64_in (n : Int) (by clear hq x1 x2; omega)
    have x8 : decide ((n : Int) ≤ 64) = decide (n ≤ 64) := by
      by_cases h : n ≤ 64
      · rw [decide_eq_true h, decide_eq_true (by clear hq x1 x2 x7; omega)]
      · rw [decide_eq_false h, decide_eq_false (by clear hq x1 x2 x7; omega)]
    have X8 := Lib.hid x8
    generalize hz : decide (n ≤ 64) = z at *
    clear i4 i5 i6 i7 hz x8
    cases hz2 : decide ((n : Int) ≤ 64)
    all_goals
      have HZ := Lib.hid (X8.out.symm.trans hz2)
      go_enter Tryd.func29, Tryd.ntmps29
      go_wp2_with (fail)
      refine bodyPost_ret (results_tmp rfl _ _ _) rfl ?_
      rw [HZ.out]
      first | exact ⟨rfl, HB.out⟩ | (refine ⟨?_, HB.out⟩; simp only [hz2]; first | rfl | (simp at hz2; simp [hz2]))
  all_goals
    go_enter Tryd.func29, Tryd.ntmps29
    go_wp2_with (fail)
    exact bodyPost_ret (results_tmp rfl _ _ _) rfl ⟨rfl, HB.out⟩
end Go.Proofs.YtgdckpldbofgfaaDoor
