/-
  Package store: a store that stands: Save, and what its calls tell; law 10's example. Condition: both tables of sums lie as the program's text lays them.
-/
import Derived.Test.YtnmgkkjnjllpbaaGreatDoorMg16
import Derived.Test.YtnmgkkjnjllpbaaGreatDoorMg17
import Derived.Test.YtnmgkkjnjllpbaaGreatDoorMg5
import Derived.Deep.RegionHeld3
set_option maxRecDepth 100000
namespace Go.Proofs.YtnmgkkjnjllpbaaGreatDoor
open Go.ChangeShapes Go.WideShapes Go.ChangeAt Go.RowKit Pn Dk Sl Ly Tw

namespace Ly
section
variable {w0 w : World} {D : Nat} {x : Dk.St} {fs : List (Nat × Obj)} {b : Bl} {T r k c : Nat} {s : ByteArray} {g side : Nat} (h : Ly.Stands w0 w D x fs b T r k c s g side)
include h
theorem Stands.step {w' : World} (hb : Below w.heap.size w w') : Ly.Stands w0 w' D x fs b T r k c s g side := ⟨h.zn.step hb, h.new, h.ne⟩
theorem Stands.stB : w.heap[b.B]? = some (stobj T r k c (some ⟨b.S0, 0, none⟩) (some ⟨b.S1, 0, none⟩)) := h.zn.fix (b.B, _) (List.mem_cons_of_mem _ (List.mem_cons_self ..))
theorem Stands.stT : w.heap[T]? = some (tobj b.Zr s g side false) := h.zn.fix (T, _) (List.mem_cons_self ..)
theorem Stands.save (hT : Tabs w0) (ha : x.away = false) (hf : x.fuse = none) (hl : x.loose.length ≤ 1073700000) (hd : x.done < 4611686018427300000) (hn : 2 + r ≤ x.n) (hr4 : 4 ≤ r) (hsd : side < 2) (u : ByteArray) (hu : u.size ≤ 1024) (hp : szN u.size ≤ r / 2) (hg : g < 2147483647) :
    Calls Tryz.prog 21 #[.pointer (some ⟨T, 0, none⟩), .string u] w fun e w' => e = .returned (.int .i64 0) ∧ Ly.Stands w0 w' D ((x.cleared (Zn.other 2 r side) (r / 2)).placed (Zn.other 2 r side) (g + 1) u) fs b T r k c u (g + 1) (1 - side) := by
  refine (h.zn.saveOn (T := T) (Z := b.Zr) (f := 2) (n := r) (by simp [Bl.list]) h.ne h.new hT ha hf hl hd hn (by omega) hsd u hu hp hg).mono ?_
  rintro e w' ⟨rfl, h1⟩
  exact ⟨rfl, h1, h.new, h.ne⟩
end
end Ly
namespace Ly
theorem Stands.beside {w0 w : World} {D : Nat} {x : Dk.St} {b b' : Bl} {T T' r k c : Nat} {s s' : ByteArray} {g side g' side' : Nat} (h : Ly.Stands w0 w D x ((T, tobj b.Zr s g side false) :: b.list D T r k c) b' T' r k c s' g' side') (hT : w0.heap.size ≤ T) (hne : ∀ z ∈ b.list D T r k c, z.1 ≠ T) : Ly.Stands w0 w D x ((T', tobj b'.Zr s' g' side' false) :: b'.list D T' r k c) b T r k c s g side := by
  have hfix := h.zn.fix
  have hTT : T ≠ T' := h.ne (T, tobj b.Zr s g side false) (by simp)
  refine ⟨h.zn.less fun z hz => ?_, hT, fun z hz => ?_⟩
  · simp only [List.mem_cons, List.mem_append] at hz ⊢
    rcases hz with (h | h) | h | h <;> simp [h]
  · simp only [List.mem_cons, List.mem_append] at hz
    rcases hz with hz | hz | hz
    · exact hne z hz
    · rw [hz]; exact fun e => hTT e.symm
    · have h1 := hfix z (by simp [hz])
      have h2 := hfix (T, tobj b.Zr s g side false) (by simp)
      intro e
      rw [e] at h1
      have h3 := Option.some.inj (h1.symm.trans h2)
      simp only [Bl.list, List.mem_cons, List.not_mem_nil, or_false] at hz
      rcases hz with rfl | rfl | rfl | rfl | rfl | rfl <;> (injection h3 with _ h4 _; exact absurd h4 (by decide))
end Ly
namespace St10
def hi : ByteArray := ⟨#[104, 105]⟩
abbrev ho : ByteArray := ⟨#[104, 111]⟩
def f0 : Dk.St := freshSt 18 fun _ => 0
def sup : ByteArray := superB 4 20 3
def f1 : Dk.St := f0.fmt 18 4 hi sup
theorem ok : LyOk 4 20 3 := ⟨by decide, by decide, by decide, by decide, by decide, by decide, by decide⟩
theorem need : needN 4 20 3 = 18 := by decide
theorem supz : szN sup.size = 2 := by unfold sup; rw [superB_size]; rfl
theorem f1_away : f1.away = false := fmt_away _ _ _ _ _
theorem f1_fuse : f1.fuse = none := fmt_fuse _ _ _ _ _ rfl
theorem f1_n : f1.n = 18 := fmt_n _ _ _ _ _
theorem f1_loose : f1.loose = [] := rfl
theorem f1_done : f1.done ≤ 28 := by
  have h := fmt_done f0 18 4 hi sup
  have h2 := supz
  have h3 : szN hi.size = 2 := by decide
  have h4 : f0.done = 0 := rfl
  show (f0.fmt 18 4 hi sup).done ≤ _
  omega
theorem f1_super : getR (rdZ f1 0) 2 0 = (superB (4 : Nat) (20 : Nat) (3 : Nat), 1, 0) := fmt_super f0 18 4 hi sup (by unfold sup; rw [superB_size]; decide) supz
theorem f1_rec : acc f1 2 4 2 = (hi, 1, 0) := (fmt_rec f0 18 4 hi sup supz (by decide) (by decide) (by decide) rfl).opens (by decide)
theorem hi_text : hi.toList = [104, 105] := by rw [ByteArray.toList_eq]; rfl
end St10
open St10
set_option maxRecDepth 100000 in
set_option maxHeartbeats 6400000 in
theorem awake10 (w : World) (hT : Tabs w) :
    Calls Tryz.prog 6 #[] w fun e w' => e = .returned (.bool true) ∧ Below w.heap.size w w' := by
  have HB := Lib.hid ((Below.refl w.heap.size w).alloc (Nat.le_refl _) (.cells #[.int .i64 4, .int .i64 20, .int .i64 3] 23))
  have HL := Lib.hid (show (w.alloc (.cells #[.int .i64 4, .int .i64 20, .int .i64 3] 23)).heap[w.heap.size]? = some (lyO 4 20 3) from heap_alloc_new w _)
  have HT := Lib.hid (hT.below HB.out)
  clear hT
  go_enter Tryz.func6, Tryz.ntmps6
  go_wp2_with (fail)
  generalize w.alloc (.cells #[.int .i64 4, .int .i64 20, .int .i64 3] 23) = w1 at HB HL HT ⊢
  refine (at_new w1 w1 (Below.refl _ _) 18 18 (by omega)).mono ?_
  rintro e w2 ⟨D, rfl, h2⟩
  have H2 := Lib.hid (show Zn w1 w2 D f0 [] from Zn.of_at h2)
  have HC := Lib.hid (fun (W : World) (hW : Below w1.heap.size w1 W) => show W.heap[w.heap.size]? = some (lyO 4 20 3) from (hW.block w.heap.size (Array.getElem?_eq_some_iff.1 HL.out).1).trans HL.out)
  have d0 := ly0 (HC.out w2 h2.below)
  have d1 := ly1 (HC.out w2 h2.below)
  have d2 := ly2 (HC.out w2 h2.below)
  clear h2
  go_wp2_with (fail)
  have hF := H2.out.sformat HT.out rfl (St.Fz.of_none rfl) (by decide) (by decide) ok (by rw [need]; decide) hi (by decide) (by decide)
  rw [need] at hF
  refine hF.mono ?_
  rintro e w3 (h3 | ⟨_, y, hy, _⟩)
  case inr => exact absurd rfl (FmtFell.fuse _ _ _ _ _ hy)
  obtain ⟨b, T, rfl, h3⟩ := h3
  have H3 := Lib.hid (show Ly.Stands w1 w3 D f1 [] b T 4 20 3 hi 1 0 from h3)
  clear h3 H2 hF d0 d1 d2
  go_wp2_with (fail)
  refine (H3.out.zn.sopen HT.out f1_away ok (by rw [need, f1_n]; decide) f1_super f1_rec (by decide)).mono ?_
  rintro e w4 ⟨b', T', rfl, h4⟩
  have H4 := Lib.hid h4
  have HS1 := Lib.hid (store_slot w4 b'.B T' 4 20 3 _ _ h4.stB 1 (by decide))
  rw [if_neg (by decide)] at HS1
  clear h4
  go_wp2_with (fail)
  refine HS1.out.mono ?_
  rintro e w5 ⟨rfl, rfl⟩
  clear HS1
  go_wp2_with (fail)
  have ht := hi_text
  have HE := run_eqIn_ly 4 20 3
  unfold lyA at HE
  have HSV := Lib.hid (fun (W : World) (hW : Below w4.heap.size w4 W) => ((H4.out.step hW).beside (b := b) (by exact H3.out.new) (fun z hz => H3.out.ne z (by simp [hz]))).save HT.out f1_away f1_fuse (by rw [f1_loose]; decide) (by have := f1_done; omega) (by rw [f1_n]; decide) (by decide) (by decide) ho (by decide) (by decide) (by decide))
  have HN := Lib.hid (fun W => show Calls Tryz.prog 12 #[.agg #[.int .i64 4, .int .i64 20, .int .i64 3]] W fun e w' => e = .returned (.int .i64 18) ∧ Below W.heap.size W w' from by
    have hq := store_need W 4 20 3 ok
    rw [need] at hq
    exact hq)
  have HTX := Lib.hid (fun (W : World) (hW : Below w4.heap.size w4 W) => twin_text W T' b'.Zr 1 0 hi false (H4.out.step hW).stT)
  have HGN := Lib.hid (fun (W : World) (hW : Below w4.heap.size w4 W) => twin_gen W T' b'.Zr 1 0 hi false (H4.out.step hW).stT)
  have HLY := Lib.hid (fun (W : World) (hW : Below w4.heap.size w4 W) => store_layout W b'.B T' 4 20 3 _ _ (H4.out.step hW).stB)
  unfold lyV lyA at HLY
  have HS0 := Lib.hid (fun (W : World) (hW : Below w4.heap.size w4 W) => show Calls Tryz.prog 22 #[.pointer (some ⟨b'.B, 0, none⟩), .int .i64 0] W fun e w' => e = .returned (.pointer (some ⟨b'.S0, 0, none⟩)) ∧ W = w' from store_slot W b'.B T' 4 20 3 _ _ (H4.out.step hW).stB 0 (by decide))
  have HS2 := Lib.hid (fun (W : World) => store_slot_not W b'.B 2 (by decide))
  have HCK := Lib.hid (fun (W : World) (hW : Below w4.heap.size w4 W) => slot_chunks W b'.S0 b'.Z0 20 3 ((H4.out.step hW).zn.fix (b'.S0, slobj b'.Z0 20 3) (by simp [Bl.list])))
  have HK := Lib.hid (fun (W : World) (hW : Below w4.heap.size w4 W) => show W.cell? ⟨w.heap.size, 0, none⟩ = some (.int .i64 4) ∧ W.cell? ⟨w.heap.size, 1, none⟩ = some (.int .i64 20) ∧ W.cell? ⟨w.heap.size, 2, none⟩ = some (.int .i64 3) ∧ W.cell? ⟨b'.B, 0, none⟩ = some (.pointer (some ⟨T', 0, none⟩)) ∧ W.cell? ⟨b.B, 0, none⟩ = some (.pointer (some ⟨T, 0, none⟩)) from by
    have hl := HC.out W (H4.out.step hW).zn.below
    have hb := (H4.out.step hW).zn.fix (b.B, stobj T 4 20 3 (some ⟨b.S0, 0, none⟩) (some ⟨b.S1, 0, none⟩)) (by simp [Bl.list])
    exact ⟨ly0 hl, ly1 hl, ly2 hl, st_c0 (H4.out.step hW).stB, st_c0 hb⟩)
  have B4 := Lib.hid (show Below w4.heap.size w4 w4.drew from below_drewN (Below.refl _ _) 1)
  have k0 := HK.out _ B4.out
  go_region_held3 (fun W : World => W.cell? ⟨w.heap.size, 0, none⟩ = some (.int .i64 4) ∧ W.cell? ⟨w.heap.size, 1, none⟩ = some (.int .i64 20) ∧ W.cell? ⟨w.heap.size, 2, none⟩ = some (.int .i64 3) ∧ W.cell? ⟨b'.B, 0, none⟩ = some (.pointer (some ⟨T', 0, none⟩)) ∧ W.cell? ⟨b.B, 0, none⟩ = some (.pointer (some ⟨T, 0, none⟩))) (first | exact k0 | assumption) (first
    | (go_at_call 12; (with_reducible refine (HN.out _).mono ?_); rintro e w5 ⟨rfl, b5⟩; have B5 := Lib.hid (B4.out.trans (b5.mono B4.out.size)); have hs := HK.out _ B5.out; clear b5)
    | (go_at_call 16; (with_reducible refine (HTX.out _ B5.out).mono ?_); rintro e w6 ⟨rfl, rfl⟩)
    | (go_at_call 17; (with_reducible refine (HGN.out _ B5.out).mono ?_); rintro e w6 ⟨rfl, rfl⟩)
    | (go_at_call 26; (with_reducible refine (HLY.out _ B5.out).mono ?_); rintro e w6 ⟨rfl, b6⟩; have B6 := Lib.hid (B5.out.trans (b6.mono B5.out.size)); have hs6 := HK.out _ B6.out; clear b6)
    | (go_at_call 22; (with_reducible refine (HS0.out _ B6.out).mono ?_); rintro e w7 ⟨rfl, rfl⟩)
    | (go_at_call 22; (with_reducible refine (HS2.out _).mono ?_); rintro e w7 ⟨rfl, rfl⟩)
    | (go_at_call 32; (with_reducible refine (HCK.out _ B6.out).mono ?_); rintro e w7 ⟨rfl, rfl⟩)
    | (go_at_call 21; (with_reducible refine (HSV.out _ B6.out).mono ?_); rintro e w8 ⟨rfl, h8⟩; have H8 := Lib.hid h8; have hs8 := And.intro (ly0 (HC.out w8 h8.zn.below)) (And.intro (ly1 (HC.out w8 h8.zn.below)) (And.intro (ly2 (HC.out w8 h8.zn.below)) (And.intro (st_c0 (h8.zn.fix (b'.B, stobj T' 4 20 3 (some ⟨b'.S0, 0, none⟩) (some ⟨b'.S1, 0, none⟩)) (by simp [Bl.list]))) (st_c0 h8.stB)))); clear h8))
  go_wp2_with (fail)
  refine bodyPost_ret (results_tmp rfl _ _ _) rfl ?_
  exact ⟨rfl, HB.out.trans (H8.out.zn.below.mono HB.out.size)⟩
end Go.Proofs.YtnmgkkjnjllpbaaGreatDoor
