/-
  Package store over a disk beside blocks that stay: recordOf, slotOf, made, Layout, Slot. Conditions: the layout can be, and the disk has as many sectors.
-/
import Derived.Test.YtnmgkkjnjllpbaaGreatDoorMg12
import Derived.Test.YtnmgkkjnjllpbaaGreatDoorMg9
import Derived.Test.YtnmgkkjnjllpbaaGreatDoorMg10
set_option maxRecDepth 100000
namespace Go.Proofs.YtnmgkkjnjllpbaaGreatDoor
open Go.ChangeShapes Go.WideShapes Go.ChangeAt Go.RowKit Pn Dk Sl Ly

namespace Ly
theorem from_next (r k c i : Nat) : fromN r k c (i + 1) = fromN r k c i + c * szN k := by unfold fromN; rw [Nat.succ_mul, Nat.add_mul]; omega
theorem from_need {r k c i : Nat} (hi : i < 2) : fromN r k c i + c * szN k ≤ needN r k c := by
  rw [← from_next]
  unfold needN fromN
  have : (i + 1) * c * szN k ≤ 2 * c * szN k := Nat.mul_le_mul_right _ (Nat.mul_le_mul_right _ (by omega))
  omega
theorem chunks_of {r k c : Nat} (h : LyOk r k c) : chunksN (c * szN k) k = c := by
  have h1 := h.c64
  have h2 := szN_two k
  unfold chunksN
  rw [Nat.mul_div_cancel _ (by omega)]
  omega
end Ly
/-- A store's own block. -/
def stobj (T : Nat) (r k c : Int) (S0 S1 : Option Addr) : Obj := .cells #[.pointer (some ⟨T, 0, none⟩), .int .i64 r, .int .i64 k, .int .i64 c, .pointer S0, .pointer S1] 45 (0, 0)
section
variable {w : World} {B T : Nat} {r k c : Int} {S0 S1 : Option Addr} (h : w.heap[B]? = some (stobj T r k c S0 S1))
include h
theorem st_c0 : w.cell? ⟨B, 0, none⟩ = some (.pointer (some ⟨T, 0, none⟩)) := by rw [cell_of_row w B 0 _ _ _ h]; rfl
theorem st_c1 : w.cell? ⟨B, 1, none⟩ = some (.int .i64 r) := by rw [cell_of_row w B 1 _ _ _ h]; rfl
theorem st_c2 : w.cell? ⟨B, 2, none⟩ = some (.int .i64 k) := by rw [cell_of_row w B 2 _ _ _ h]; rfl
theorem st_c3 : w.cell? ⟨B, 3, none⟩ = some (.int .i64 c) := by rw [cell_of_row w B 3 _ _ _ h]; rfl
theorem st_c4 : w.cell? ⟨B, 4, none⟩ = some (.pointer S0) := by rw [cell_of_row w B 4 _ _ _ h]; rfl
theorem st_c5 : w.cell? ⟨B, 5, none⟩ = some (.pointer S1) := by rw [cell_of_row w B 5 _ _ _ h]; rfl
theorem st_fz (i : Nat) : w.frozen? ⟨B, i, none⟩ = false := frozen_of_row w B i _ _ h
end
/-- A store's own block beside its slots' blocks, of which m are there. -/
structure MadeTo (w0 wr : World) (D : Nat) (x : Dk.St) (fs : List (Nat × Obj)) (q B b T r k c m : Nat) (G : List (Nat × Obj)) (sl : Nat → Option Addr) : Prop where
  zn : Zn w0 wr D x ((B, stobj T r k c (sl 0) (sl 1)) :: G)
  ne : ∀ z ∈ G, z.1 ≠ B
  old : ∀ z ∈ fs, z ∈ G
  box : (b, lyO r k c) ∈ G
  done : ∀ j, j < m → ∃ S Z, sl j = some ⟨S, 0, none⟩ ∧ (S, slobj Z k c) ∈ G ∧ (Z, zobj D (fromN r k c j) (c * szN k)) ∈ G ∧ q ≤ S ∧ q ≤ Z
theorem sl_cell {w' : World} {B T m : Nat} {r k c : Int} {sl : Nat → Option Addr} (h : w'.heap[B]? = some (stobj T r k c (sl 0) (sl 1))) (hm : m < 2) : w'.cell? ⟨B, 4 + m, none⟩ = some (.pointer (sl m)) := by
  rcases (show m = 0 ∨ m = 1 by omega) with rfl | rfl
  · exact st_c4 h
  · exact st_c5 h
/-- One more slot. -/
theorem MadeTo.next {w0 wr w' : World} {D : Nat} {x : Dk.St} {fs : List (Nat × Obj)} {q B b T r k c m : Nat} {G : List (Nat × Obj)} {sl : Nat → Option Addr} (h : MadeTo w0 wr D x fs q B b T r k c m G sl) (hq : w0.heap.size ≤ B) (hs : q ≤ wr.heap.size) (hm : m < 2) {S Z : Nat} (hS : wr.heap.size ≤ S) (hZ : wr.heap.size ≤ Z)
    (hz : Zn w0 w' D x ((S, slobj Z k c) :: (Z, zobj D (fromN r k c m) (c * szN k)) :: (B, stobj T r k c (sl 0) (sl 1)) :: G)) :
    MadeTo w0 (w'.setCell ⟨B, 4 + m, none⟩ (.pointer (some ⟨S, 0, none⟩))) D x fs q B b T r k c (m + 1) ((S, slobj Z k c) :: (Z, zobj D (fromN r k c m) (c * szN k)) :: G) (fun j => if j = m then some ⟨S, 0, none⟩ else sl j) := by
  have hB := (Array.getElem?_eq_some_iff.1 (h.zn.fix (B, _) (List.mem_cons_self ..))).1
  have hne : ∀ z ∈ (S, slobj Z k c) :: (Z, zobj D (fromN r k c m) (c * szN k)) :: G, z.1 ≠ B := fun z hz => by
    rcases List.mem_cons.1 hz with rfl | hz
    · show S ≠ B; simp only at hB; omega
    rcases List.mem_cons.1 hz with rfl | hz
    · show Z ≠ B; simp only at hB; omega
    · exact h.ne z hz
  have h1 : Zn w0 w' D x ((B, stobj T r k c (sl 0) (sl 1)) :: (S, slobj Z k c) :: (Z, zobj D (fromN r k c m) (c * szN k)) :: G) := hz.less fun z hz => by
    simp only [List.mem_cons] at hz ⊢
    rcases hz with h | h | h | h <;> simp [h]
  refine ⟨h1.turn hq hne ?_ (fun i hi => heap_setCell_other w' ⟨B, 4 + m, none⟩ i _ hi) ⟨rfl, rfl, rfl⟩ (by simp [World.setCell]), hne, fun z hz => List.mem_cons_of_mem _ (List.mem_cons_of_mem _ (h.old z hz)), List.mem_cons_of_mem _ (List.mem_cons_of_mem _ h.box), fun j hj => ?_⟩
  · have hs := heap_setCell_same w' B (4 + m) _ _ (.pointer (some ⟨S, 0, none⟩)) (h1.fix (B, _) (List.mem_cons_self ..))
    rw [hs]
    rcases (show m = 0 ∨ m = 1 by omega) with rfl | rfl <;> rfl
  · by_cases he : j = m
    · subst he
      exact ⟨S, Z, if_pos rfl, List.mem_cons_self .., List.mem_cons_of_mem _ (List.mem_cons_self ..), by omega, by omega⟩
    · obtain ⟨S', Z', e1, e2, e3, e4, e5⟩ := h.done j (by omega)
      exact ⟨S', Z', (if_neg he).trans e1, List.mem_cons_of_mem _ (List.mem_cons_of_mem _ e2), List.mem_cons_of_mem _ (List.mem_cons_of_mem _ e3), e4, e5⟩
namespace Zn
variable {w0 w w' : World} {D : Nat} {x : Dk.St} {fs : List (Nat × Obj)}
set_option maxRecDepth 100000 in
set_option maxHeartbeats 1600000 in
theorem recordOf (h : Zn w0 w D x fs) {A n : Nat} (hz : (A, zobj D 0 n) ∈ fs) (hn : n ≤ x.n) {r k c : Nat} (hl : LyOk r k c) (hr : 2 + r ≤ n) :
    Calls Tryz.prog 39 #[.pointer (some ⟨A, 0, none⟩), lyV r k c] w fun e w' => ∃ Z, e = .returned (.pointer (some ⟨Z, 0, none⟩)) ∧ w.heap.size ≤ Z ∧ Zn w0 w' D x ((Z, zobj D 2 r) :: fs) := by
  have h4 := hl.r4
  have HB := Lib.hid (h.step ((Below.refl w.heap.size w).alloc (Nat.le_refl _) (lyO r k c)))
  have HP := Lib.hid (fun (W : World) (hW : Zn w0 W D x fs) => zone_part W A D 0 n (hW.fix _ hz) _ x hW.disk (by omega) 2 r (by omega) (by omega))
  clear h hz hn hl hr h4
  unfold lyV lyA
  generalize (r : Int) = ri at HP HB ⊢
  generalize (k : Int) = ki at HB ⊢
  generalize (c : Int) = ci at HB ⊢
  go_enter Tryz.func39, Tryz.ntmps39
  go_wp2_with (fail)
  refine (HP.out _ HB.out).mono ?_
  rintro e w1 ⟨Z, rfl, g1, g2, g3⟩
  have G := Lib.hid (HB.out.add g3 g1 g2)
  have G1 := Lib.hid (Nat.le_trans (show w.heap.size ≤ (w.alloc (lyO ri ki ci)).heap.size by simp) g1)
  clear g1 g2 g3
  go_wp2_with (fail)
  exact bodyPost_ret (results_tmp rfl _ _ _) rfl ⟨Z, rfl, G1.out, G.out⟩
set_option maxRecDepth 100000 in
set_option maxHeartbeats 1600000 in
theorem slotOf (h : Zn w0 w D x fs) {A n : Nat} (hz : (A, zobj D 0 n) ∈ fs) (hn : n ≤ x.n) {r k c : Nat} (hl : LyOk r k c) (hr : needN r k c ≤ n) (i : Nat) (hi : i < 2) :
    Calls Tryz.prog 72 #[.pointer (some ⟨A, 0, none⟩), lyV r k c, .int .i64 (i : Int)] w fun e w' => ∃ S Z, e = .returned (.pointer (some ⟨S, 0, none⟩)) ∧ w.heap.size ≤ Z ∧ w.heap.size ≤ S ∧ Zn w0 w' D x ((S, slobj Z k c) :: (Z, zobj D (fromN r k c i) (c * szN k)) :: fs) := by
  have hnb : x.n ≤ 4096 := by obtain ⟨_, _, _, _, _, _, h⟩ := h.disk; exact h.nb
  have hfn := from_need (r := r) (k := k) (c := c) hi
  have hnx := from_next r k c i
  have h2z := szN_two k
  have hc1 := hl.c1
  have hcz : szN k ≤ c * szN k := Nat.le_mul_of_pos_left _ (by omega)
  have hle := fromN_le hl (show i + 1 ≤ 2 by omega)
  have HB := Lib.hid (h.step ((Below.refl w.heap.size w).alloc (Nat.le_refl _) (lyO r k c)))
  have HH := Lib.hid (heap_alloc_new w (lyO r k c))
  have HF := Lib.hid (fun W => store_slotFrom W r k c i hl (by omega))
  have HF2 := Lib.hid (fun W => store_slotFrom W r k c (i + 1) hl (by omega))
  have HP := Lib.hid (fun (W : World) (hW : Zn w0 W D x fs) => zone_part W A D 0 n (hW.fix _ hz) _ x hW.disk (by omega) (fromN r k c i) (c * szN k) (by omega) (by omega))
  have HS := Lib.hid (fun (W : World) (Z : Nat) (hW : W.heap[Z]? = some (zobj D (fromN r k c i) (c * szN k))) => slot_new W Z D (fromN r k c i) (c * szN k) k hW (by omega) hl.k1 hl.k256 hcz)
  rw [chunks_of hl] at HS
  have e1 : IntKind.i64.wrap ((i : Int) + 1) = ((i + 1 : Nat) : Int) := (IntWalk.i64_in _ (by omega)).trans (by omega)
  have e2 : IntKind.i64.wrap ((fromN r k c (i + 1) : Int) - (fromN r k c i : Int)) = ((c * szN k : Nat) : Int) := (IntWalk.i64_in _ (by omega)).trans (by omega)
  rw [Nat.zero_add] at HP
  unfold lyV lyA at HF HF2 ⊢
  clear h hz hn hl hr hfn hnx h2z hc1 hcz hle hi hnb
  generalize ((i + 1 : Nat) : Int) = i1 at e1 HF2
  generalize (fromN r k c (i + 1) : Int) = f2 at e2 HF2
  generalize fromN r k c i = f1 at e2 HF HP HS ⊢
  generalize c * szN k = cz at e2 HP HS ⊢
  go_enter Tryz.func72, Tryz.ntmps72
  go_wp2_with (fail)
  refine (HF.out _).mono ?_
  rintro e w1 ⟨rfl, b1⟩
  have B1 := Lib.hid (HB.out.step b1)
  have H1 := Lib.hid ((b1.block w.heap.size (by simp)).trans HH.out)
  have S1 := Lib.hid (Nat.le_trans (show w.heap.size ≤ (w.alloc (lyO r k c)).heap.size by simp) b1.size)
  have d0 := ly0 H1.out
  have d1 := ly1 H1.out
  have d2 := ly2 H1.out
  clear b1 HB HH
  go_wp2_with (fail)
  refine (HF2.out _).mono ?_
  rintro e w2 ⟨rfl, b2⟩
  have B2 := Lib.hid (B1.out.step b2)
  have H2 := Lib.hid ((b2.block w.heap.size (Array.getElem?_eq_some_iff.1 H1.out).1).trans H1.out)
  have S2 := Lib.hid (Nat.le_trans S1.out b2.size)
  clear b2 B1 H1 S1 d0 d1 d2 HF HF2
  go_wp2_with (fail)
  refine (HP.out w2 B2.out).mono ?_
  rintro e w3 ⟨Z, rfl, g1, g2, g3⟩
  have G3 := Lib.hid (B2.out.add g3 g1 g2)
  have N3 := Lib.hid (Nat.le_trans S2.out g1)
  have Z3 := Lib.hid g2
  have H3 := Lib.hid ((g3.block w.heap.size (Array.getElem?_eq_some_iff.1 H2.out).1).trans H2.out)
  have S3 := Lib.hid (Nat.le_trans S2.out g3.size)
  have d1 := ly1 H3.out
  clear g1 g2 g3 B2 H2 S2 HP
  go_wp2_with (fail)
  refine (HS.out w3 Z Z3.out).mono ?_
  rintro e w4 ⟨S, rfl, g1, g2, g3⟩
  have G4 := Lib.hid (G3.out.add g3 g1 g2)
  have N4 := Lib.hid (Nat.le_trans S3.out g1)
  clear g1 g2 g3 G3 HS
  go_wp2_with (fail)
  exact bodyPost_ret (results_tmp rfl _ _ _) rfl ⟨S, Z, rfl, N3.out, N4.out, G4.out⟩
set_option maxRecDepth 100000 in
set_option maxHeartbeats 1600000 in
theorem made (h : Zn w0 w D x fs) {A n T : Nat} (hz : (A, zobj D 0 n) ∈ fs) (hn : n ≤ x.n) {r k c : Nat} (hl : LyOk r k c) (hr : needN r k c ≤ n) :
    Calls Tryz.prog 42 #[.pointer (some ⟨A, 0, none⟩), lyV r k c, .pointer (some ⟨T, 0, none⟩)] w fun e w' => ∃ B S0 Z0 S1 Z1, e = .returned (.pointer (some ⟨B, 0, none⟩)) ∧ (w.heap.size ≤ B ∧ w.heap.size ≤ S0 ∧ w.heap.size ≤ Z0 ∧ w.heap.size ≤ S1 ∧ w.heap.size ≤ Z1) ∧
      Zn w0 w' D x ((B, stobj T r k c (some ⟨S0, 0, none⟩) (some ⟨S1, 0, none⟩)) :: (S0, slobj Z0 k c) :: (Z0, zobj D (fromN r k c 0) (c * szN k)) :: (S1, slobj Z1 k c) :: (Z1, zobj D (fromN r k c 1) (c * szN k)) :: fs) := by
  have HB := Lib.hid (h.add ((Below.refl w.heap.size w).alloc (Nat.le_refl _) (lyO r k c)) (Nat.le_refl _) (heap_alloc_new w (lyO r k c)))
  have HN := Lib.hid (show w0.heap.size ≤ w.heap.size ∧ ∀ z ∈ fs, z.1 < w.heap.size from ⟨h.below.size, fun z hz => (Array.getElem?_eq_some_iff.1 (h.fix z hz)).1⟩)
  have HS := Lib.hid (fun (W : World) (gs : List (Nat × Obj)) (hA : (A, zobj D 0 n) ∈ gs) (hW : Zn w0 W D x gs) (i : Nat) (hi : i < 2) => hW.slotOf hA hn hl hr i hi)
  have HA := Lib.hid hz
  clear h hz hn hl hr
  unfold lyV lyA at HS ⊢
  go_enter Tryz.func42, Tryz.ntmps42
  go_wp2_with (fail)
  obtain ⟨b, hb⟩ : ∃ b, b = w.heap.size := ⟨_, rfl⟩
  obtain ⟨B, hB⟩ : ∃ B, B = w.heap.size + 1 := ⟨_, rfl⟩
  have HQ := Lib.hid (show w.heap.size ≤ B ∧ w0.heap.size ≤ B by have := HN.out.1; omega)
  have HM := Lib.hid (show MadeTo w0 ((w.alloc (.cells #[.int .i64 r, .int .i64 k, .int .i64 c] 23)).alloc (.cells #[.pointer (some ⟨T, 0, none⟩), .int .i64 r, .int .i64 k, .int .i64 c, .pointer none, .pointer none] 45)) D x fs w.heap.size B b T r k c 0 ((b, lyO r k c) :: fs) (fun _ => none) from by
    have z1 := HB.out.add ((Below.refl (w.alloc (lyO r k c)).heap.size (w.alloc (lyO r k c))).alloc (Nat.le_refl _) (stobj T r k c none none)) (Nat.le_refl _) (heap_alloc_new (w.alloc (lyO r k c)) _)
    rw [World.size_alloc, ← hB, ← hb] at z1
    refine ⟨z1, fun z hz => ?_, fun z hz => List.mem_cons_of_mem _ hz, List.mem_cons_self .., fun j hj => absurd hj (Nat.not_lt_zero j)⟩
    rcases List.mem_cons.1 hz with rfl | hz
    · show b ≠ B; omega
    · have := HN.out.2 z hz; omega)
  rw [← hB, ← hb]
  clear HB
  refine gen_world (fun W => MadeTo w0 W D x fs w.heap.size B b T r k c 0 ((b, lyO r k c) :: fs) (fun _ => none) ∧ w.heap.size ≤ W.heap.size) ⟨HM.out, by simp; omega⟩ ?_
  rintro w1 ⟨h1, s1⟩
  have H1 := Lib.hid h1
  have S1 := Lib.hid s1
  clear h1 s1 HM hb hB
  go_loopw [13] (fun i wr => ∃ (m : Nat) (G : List (Nat × Obj)) (sl : Nat → Option Addr), i = .int .i64 (m : Int) ∧ m ≤ 2 ∧ w.heap.size ≤ wr.heap.size ∧ MadeTo w0 wr D x fs w.heap.size B b T r k c m G sl) (fun i _ => match i with | .int _ m => 2 - m.toNat | _ => 0)
  case atStart => exact ⟨0, _, _, rfl, Nat.zero_le _, S1.out, H1.out⟩
  case round =>
    clear H1 S1
    obtain ⟨m, G, sl, rfl, hm2, hsz, hmt⟩ := hrel
    have HM := Lib.hid hmt
    have HZ := Lib.hid hsz
    clear hmt hsz
    by_cases hlt : m < 2
    · have y0 : (m : Int) < 2 := by omega
      have y1 : decide ((m : Int) < 2) = true := decide_eq_true y0
      have y2 : 0 ≤ (m : Int) := by omega
      have e1 := ly0 (HM.out.zn.fix (b, lyO r k c) (List.mem_cons_of_mem _ HM.out.box))
      have e2 := ly1 (HM.out.zn.fix (b, lyO r k c) (List.mem_cons_of_mem _ HM.out.box))
      have e3 := ly2 (HM.out.zn.fix (b, lyO r k c) (List.mem_cons_of_mem _ HM.out.box))
      have e4 := sl_cell (HM.out.zn.fix (B, _) (List.mem_cons_self ..)) hlt
      have e5 := st_fz (HM.out.zn.fix (B, _) (List.mem_cons_self ..)) (4 + m)
      have HK := Lib.hid (fun (W : World) (hW : Zn w0 W D x ((B, stobj T r k c (sl 0) (sl 1)) :: G)) => And.intro (ly0 (hW.fix (b, lyO r k c) (List.mem_cons_of_mem _ HM.out.box))) (And.intro (ly1 (hW.fix (b, lyO r k c) (List.mem_cons_of_mem _ HM.out.box))) (And.intro (ly2 (hW.fix (b, lyO r k c) (List.mem_cons_of_mem _ HM.out.box))) (And.intro (sl_cell (hW.fix (B, _) (List.mem_cons_self ..)) hlt) (st_fz (hW.fix (B, _) (List.mem_cons_self ..)) (4 + m))))))
      have HS1 := Lib.hid (HS.out wr.drew _ (List.mem_cons_of_mem _ (HM.out.old _ HA.out)) (HM.out.zn.drewN 1) m hlt)
      have k0 := HK.out wr.drew (HM.out.zn.drewN 1)
      obtain ⟨k1, k2, k3, k4, k5⟩ := k0
      go_wp2_with (fail)
      go_region_with (first
        | (go_at_call 72; (with_reducible refine HS1.out.mono ?_); rintro e w2 ⟨S, Z, rfl, g1, g2, g3⟩; have G3 := Lib.hid g3; have G12 := Lib.hid (And.intro g1 g2); have hs := HK.out w2 (g3.less (fun z hz => List.mem_cons_of_mem _ (List.mem_cons_of_mem _ hz))); obtain ⟨l1, l2, l3, l4, l5⟩ := hs; clear g1 g2 g3))
      all_goals go_wp2_with (fail)
      exact ⟨⟨m + 1, _, _, rfl, by omega, Nat.le_trans HZ.out (Nat.le_trans (show wr.heap.size ≤ w2.heap.size from by
          have q1 := (Array.getElem?_eq_some_iff.1 (G3.out.fix (S, _) (List.mem_cons_self ..))).1
          have q2 := G12.out.2
          simp only [World.drew] at q1 q2
          omega) (by simp [World.setCell])), HM.out.next HQ.out.2 HZ.out hlt G12.out.2 G12.out.1 G3.out⟩, by show 2 - ((m : Int) + 1).toNat < 2 - (m : Int).toNat; omega⟩
    · have hm : m = 2 := by omega
      subst hm
      have y1 : decide (((2 : Nat) : Int) < 2) = false := by decide
      clear hlt
      go_wp2_with (fail)
      refine bodyPost_ret (results_tmp rfl _ _ _) rfl ?_
      obtain ⟨S0, Z0, e0, a1, a2, a3, a4⟩ := HM.out.done 0 (by decide)
      obtain ⟨S1, Z1, e1, c1, c2, c3, c4⟩ := HM.out.done 1 (by decide)
      have hz := HM.out.zn
      rw [e0, e1] at hz
      refine ⟨B, S0, Z0, S1, Z1, rfl, ⟨HQ.out.1, a3, a4, c3, c4⟩, hz.less fun z hz => ?_⟩
      rcases List.mem_cons.1 hz with rfl | hz
      · exact List.mem_cons_self ..
      rcases List.mem_cons.1 hz with rfl | hz
      · exact List.mem_cons_of_mem _ a1
      rcases List.mem_cons.1 hz with rfl | hz
      · exact List.mem_cons_of_mem _ a2
      rcases List.mem_cons.1 hz with rfl | hz
      · exact List.mem_cons_of_mem _ c1
      rcases List.mem_cons.1 hz with rfl | hz
      · exact List.mem_cons_of_mem _ c2
      · exact List.mem_cons_of_mem _ (HM.out.old z hz)
end Zn
section
variable (w : World) (B T : Nat) (r k c : Int) (S0 S1 : Option Addr) (h : w.heap[B]? = some (stobj T r k c S0 S1))
include h
set_option maxRecDepth 100000 in
set_option maxHeartbeats 1600000 in
theorem store_layout : Calls Tryz.prog 26 #[.pointer (some ⟨B, 0, none⟩)] w fun e w' => e = .returned (lyV r k c) ∧ Below w.heap.size w w' := by
  have HB := Lib.hid ((Below.refl w.heap.size w).alloc (Nat.le_refl _) (.cells #[.int .i64 0, .int .i64 0, .int .i64 0] 23))
  have HH := Lib.hid (show (w.alloc (.cells #[.int .i64 0, .int .i64 0, .int .i64 0] 23)).heap[w.heap.size]? = some (lyO 0 0 0) from heap_alloc_new w (lyO 0 0 0))
  have hB := (Array.getElem?_eq_some_iff.1 h).1
  have HS := Lib.hid ((HB.out.block B hB).trans h)
  have HI := Lib.hid (lyI r k c)
  clear h hB
  have d0 := ly0 HH.out
  have d1 := ly1 HH.out
  have d2 := ly2 HH.out
  have df := lyFz HH.out
  have s1 := st_c1 HS.out
  have s2 := st_c2 HS.out
  have s3 := st_c3 HS.out
  go_enter Tryz.func26, Tryz.ntmps26
  go_wp2_with (fail)
  refine bodyPost_ret (results_cell_row rfl _ _ _ 23 _ _ _ rfl (show _ = some (lyO r k c) from heap_alloc_new w (lyO r k c)) Tryz.underlying23 rfl HI.out) rfl ?_
  exact ⟨rfl, (Below.refl _ _).alloc (Nat.le_refl _) _⟩
theorem store_slot (i : Nat) (hi : i < 2) : Calls Tryz.prog 22 #[.pointer (some ⟨B, 0, none⟩), .int .i64 (i : Int)] w fun e w' => e = .returned (.pointer (if i = 0 then S0 else S1)) ∧ w = w' := by
  have c4 := st_c4 h
  have c5 := st_c5 h
  clear h
  rcases (show i = 0 ∨ i = 1 by omega) with rfl | rfl
  · go_enter Tryz.func22, Tryz.ntmps22
    go_wp2_with (fail)
    refine bodyPost_ret (results_tmp rfl _ _ _) rfl ?_
    exact ⟨rfl, rfl⟩
  · go_enter Tryz.func22, Tryz.ntmps22
    go_wp2_with (fail)
    refine bodyPost_ret (results_tmp rfl _ _ _) rfl ?_
    exact ⟨rfl, rfl⟩
omit h in
theorem store_slot_not (i : Int) (hi : i < 0 ∨ 2 ≤ i) : Calls Tryz.prog 22 #[.pointer (some ⟨B, 0, none⟩), .int .i64 i] w fun e w' => e = .returned (.pointer none) ∧ w = w' := by
  by_cases h1 : i < 0
  · have t1 : decide (i < 0) = true := decide_eq_true h1
    go_enter Tryz.func22, Tryz.ntmps22
    go_wp2_with (fail)
    refine bodyPost_ret (results_tmp rfl _ _ _) rfl ?_
    exact ⟨rfl, rfl⟩
  · have t1 : decide (i < 0) = false := decide_eq_false h1
    have h2 : 2 ≤ i := by omega
    have t2 : decide (2 ≤ i) = true := decide_eq_true h2
    clear hi
    go_enter Tryz.func22, Tryz.ntmps22
    go_wp2_with (fail)
    refine bodyPost_ret (results_tmp rfl _ _ _) rfl ?_
    exact ⟨rfl, rfl⟩
end
end Go.Proofs.YtnmgkkjnjllpbaaGreatDoor
