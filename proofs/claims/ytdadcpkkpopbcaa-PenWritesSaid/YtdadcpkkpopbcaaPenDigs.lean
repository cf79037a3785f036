/-
  Package pen's pen: sums are written. Conditions: the pen stands in a block of its own, or is nil; the sums stand where it looks.
-/
import Derived.Test.YtdadcpkkpopbcaaPenNil
import Derived.Test.YtdadcpkkpopbcaaPenDigV
import Derived.Deep.MidRow
import Derived.Deep.Cut
namespace Go.Proofs.Ytdadcpkkpopbcaa
open Go.ChangeShapes Go.WideShapes Go.ChangeAt Go.RowKit Pn

namespace Pn
def digL (f : Nat → UInt8) : List UInt8 := (List.range 32).map f
def digsL (F : Nat → Nat → UInt8) (n : Nat) : List UInt8 := (List.range n).flatMap fun k => digL (F k)
theorem digL_length (f : Nat → UInt8) : (digL f).length = 32 := by simp [digL]
theorem digsL_next (F : Nat → Nat → UInt8) (n : Nat) : digsL F (n + 1) = digsL F n ++ digL (F n) := by
  unfold digsL; rw [List.range_succ, List.flatMap_append]; simp
theorem digsL_length (F : Nat → Nat → UInt8) (n : Nat) : (digsL F n).length = 32 * n := by
  induction n with
  | zero => rfl
  | succ n ih => rw [digsL_next, List.length_append, ih, digL_length]; omega
end Pn
theorem dig_cells (f : Nat → UInt8) : bcells (digL f) = (dgV f).toList := by
  unfold bcells digL dgV vals
  rw [List.map_map]
  rfl
theorem dgV_size' (f : Nat → UInt8) : (dgV f).size = 32 := vals_size 32 _
set_option maxHeartbeats 1600000 in
theorem pen_digest (w : World) (p : Nat) (l : List ByteArray) (bad : Bool) (h : PenAt w p l bad) (A : Option Addr) (n cap : Nat) (F : Nat → Nat → UInt8) (hn : n ≤ 1000)
    (hA : 0 < n → ∃ pb po, A = some ⟨pb, po, none⟩ ∧ pb ≠ p ∧ ∀ k, k < n → w.rangeAt pb (po + k * 32) (dgV (F k)).toList) (ht : 32 * n + total l < 1099511627776) :
    Calls Try.prog 10 #[.pointer (some ⟨p, 0, none⟩), .slice A n cap] w (PenSays w p (.tuple #[]) (⟨(digsL F n).toArray⟩ :: l) bad) := by
  obtain ⟨last, hh, hch⟩ := h
  have hp := hh.lt
  have HH := Lib.hid hh
  have HCH := Lib.hid hch
  have HA := Lib.hid hA
  have HT := Lib.hid ht
  obtain ⟨i0, hi, hz0, hz1, hz2⟩ := info_parts infoB
  have HI := Lib.hid hi
  have HZ0 := Lib.hid hz0
  have HZ1 := Lib.hid hz1
  have HZ2 := Lib.hid hz2
  clear hh hch hA ht hi hz0 hz1 hz2
  have e4 : IntKind.i64.wrap (32 * (n : Int)) = 32 * (n : Int) := IntWalk.i64_in _ (by omega)
  go_enter Try.func10, Try.ntmps10
  go_wp2_with (at_make; refine wpList_make_own _ rfl _ _ 33 rfl w.heap.size 5 i0 _ 1 Try.underlying33 HI.out HZ0.out HZ1.out .i64 .i64 _ (32 * n) rfl rfl (by omega) (by rw [HZ2.out]; omega) (by unfold maxLen; omega) (Nat.le_refl _) ?_; intro w1 hown hg1)
  have ho1 : Only w w1 p := (Only.refl w p).grown hg1 (fun k hk => by cases hk)
  have hh1 : PenHd w1 p last bad := HH.out.of_block (hg1.block p hp (by simp))
  have HO1 := Lib.hid ho1
  have HH1 := Lib.hid hh1
  have HW1 := Lib.hid hown
  clear hg1 ho1 hh1 hown e4
  go_loopw [4, 13] (fun v i wr => ∃ (k g c : Nat), k ≤ n ∧ i = .int .i64 k ∧ v = .slice (some ⟨g, 0, none⟩) (32 * k) c ∧ wr.ownsRow w.heap.size 5 1 v (32 * k) (bcells (digsL F k)) ∧ PenHd wr p last bad ∧ Only w wr p) (fun _ i _ => n - (intOf i).toNat)
  case atStart =>
    exact ⟨0, w.heap.size, 32 * n, Nat.zero_le _, rfl, rfl, HW1.out, HH1.out, HO1.out⟩
  case round =>
    clear HW1 HH1 HO1
    obtain ⟨k, g, c, hk, rfl, rfl, hown, hhd, ho⟩ := hrel
    have HOW := Lib.hid hown
    have HHD := Lib.hid hhd
    have HO := Lib.hid ho
    clear hown hhd ho
    by_cases hlt : k < n
    · obtain ⟨pb, po, rfl, hne, hc⟩ := HA.out (by omega)
      have hck : wr.rangeAt pb (po + k * 32) (dgV (F k)).toList := fun j v hj => (HO.out.cell (a := ⟨pb, po + k * 32 + j, none⟩) (block_lt_of_cell (hc k hlt j v hj)) hne).trans (hc k hlt j v hj)
      have l0 : 0 ≤ (k : Int) := by omega
      have m0 : (k : Int) < (n : Int) := by omega
      have hsz0 : w.heap.size ≤ wr.heap.size := HO.out.size
      have HCK := Lib.hid hck
      have HIL := Lib.hid (show (Try.prog.info? 29).map (·.size) = some (dgV (F k)).toList.length by rw [Array.length_toList]; exact dgI (F k))
      have HNW := Lib.hid (show ∀ o, (wr.alloc o).heap[wr.heap.size]? = some o from fun o => heap_alloc_new wr o)
      have HXW := Lib.hid (show ∀ c, ((wr.alloc (.cells c 29)).setRow wr.heap.size (dgV (F k))).heap[wr.heap.size]? = some (.cells (dgV (F k)) 29 (0, 0)) from fun c => setRow_heap _ _ _ _ _ _ (heap_alloc_new wr _))
      have HLAST := Lib.hid (show ∀ c, Below wr.heap.size wr ((wr.alloc (.cells c 29)).setRow wr.heap.size (dgV (F k))) from fun c => below_setRow' ((Below.refl _ _).alloc (Nat.le_refl _) _) (Nat.le_refl _) _)
      clear hc hck
      go_upto_region 4 with (first
        | (with_reducible refine wpList_load_mid rfl 29 _ rfl pb (po + k * 32) rfl (dgV (F k)).toList (.array 32 5) HCK.out Try.underlying29 rfl HIL.out ?_)
        | (with_reducible refine wpList_store_row rfl 29 _ _ rfl _ (dgV (F k)) rfl rfl 29 _ (HNW.out _) (dgI (F k)) ?_ (dgO (F k)) ?_))
      · rw [dgV_size']; rfl
      refine gen_world (fun w2 => wr.heap.size < w2.heap.size ∧ w2.heap[wr.heap.size]? = some (.cells (dgV (F k)) 29 (0, 0)) ∧ Below wr.heap.size wr w2) ⟨by simp, HXW.out _, HLAST.out _⟩ ?_
      rintro w2 ⟨hsz2, hb2, hbb⟩
      have HN2 := Lib.hid (own_below HOW.out hbb)
      have HH2 := Lib.hid (HHD.out.below hbb)
      have HO2 := Lib.hid (HO.out.then_below hbb)
      have hsz : w.heap.size ≤ w2.heap.size := HO2.out.size
      generalize wr.heap.size = g2 at hb2 hsz2 ⊢
      have HC4 := Lib.hid (show ∀ j u, (bcells (digL (F k)))[j]? = some u → w2.cell? ((⟨g2, 0, none⟩ : Addr).add j) = some u from fun j u hj => by
        rw [Addr.add_lit, Nat.zero_add, cell_of_row _ _ _ _ _ _ hb2, ← hj, dig_cells]
        exact Array.getElem?_toList.symm)
      have HL4 := Lib.hid (show (bcells (digL (F k))).length = 32 * 1 by rw [bcells_length, digL_length])
      have HL1 := Lib.hid (bcells_one (digL (F k)))
      clear hbb hb2 HNW HXW HLAST HCK HIL
      go_wp2_with (at_builtin; refine wpList_append_own _ rfl (.tmp 17) (.tmp 18) 33 rfl w.heap.size 5 i0 _ 1 1 Try.underlying33 HI.out HZ0.out HZ1.out HZ2.out rfl (by omega) _ (32 * k) _ rfl HN2.out ⟨g2, 0, none⟩ 32 32 (bcells (digL (F k))) rfl HL4.out HC4.out HL1.out (by unfold maxLen; omega) (by omega) hsz ?_; intro v' w3 hown3 hg3 hnil3)
      have hnn : v' ≠ .slice none 0 0 := fun e => by
        have := (hnil3.1 e).2
        omega
      rw [← bcells_append, ← digsL_next] at hown3
      obtain ⟨g3, c3, rfl, hb3⟩ := own_form hown3 hnn
      go_roundw
      case rel =>
        refine ⟨k + 1, g3, c3, by omega, by go_num, by rw [Nat.mul_succ], by rw [Nat.mul_succ]; exact hown3, ?_, HO2.out.grown hg3 (fun b hb => by injection hb with hb; have := (HN2.out.lt _ rfl).1; omega)⟩
        exact HH2.out.of_block (hg3.block p (by omega) (fun e => by have := (HN2.out.lt p (e.symm)).1; omega))
      case measure => simp [intOf]; omega
    · have hkn : k = n := by omega
      subst hkn
      have HTX := Lib.hid (own_text HOW.out rfl)
      have hch2 := HCH.out.only HO.out
      go_wp2_with (fail)
      refine (pen_write wr p l _ ⟨last, HHD.out, hch2⟩ _ _ _ ⟨(digsL F k).toArray⟩ (by have := digsL_length F k; simp [ByteArray.size, this]) ?_ HTX.out).mono ?_
      · have := HT.out
        have h2 := digsL_length F k
        simp only [total, ByteArray.size, List.size_toArray]
        omega
      rintro e w2 ⟨rfl, h1, h2⟩
      have H1 := Lib.hid h1
      clear h1
      go_wp2
      go_end0
      exact ⟨rfl, H1.out, HO.out.trans h2⟩
set_option maxHeartbeats 1600000 in
theorem pen_digest_nil (w : World) (A : Option Addr) (n cap : Nat) (F : Nat → Nat → UInt8) (hn : n ≤ 1000)
    (hA : 0 < n → ∃ pb po, A = some ⟨pb, po, none⟩ ∧ ∀ k, k < n → w.rangeAt pb (po + k * 32) (dgV (F k)).toList) :
    Calls Try.prog 10 #[.pointer none, .slice A n cap] w fun e w' => e = .returned (.tuple #[]) ∧ Below w.heap.size w w' := by
  have HA := Lib.hid hA
  obtain ⟨i0, hi, hz0, hz1, hz2⟩ := info_parts infoB
  have HI := Lib.hid hi
  have HZ0 := Lib.hid hz0
  have HZ1 := Lib.hid hz1
  have HZ2 := Lib.hid hz2
  clear hA hi hz0 hz1 hz2
  have e4 : IntKind.i64.wrap (32 * (n : Int)) = 32 * (n : Int) := IntWalk.i64_in _ (by omega)
  go_enter Try.func10, Try.ntmps10
  go_wp2_with (at_make; refine wpList_make_own _ rfl _ _ 33 rfl w.heap.size 5 i0 _ 1 Try.underlying33 HI.out HZ0.out HZ1.out .i64 .i64 _ (32 * n) rfl rfl (by omega) (by rw [HZ2.out]; omega) (by unfold maxLen; omega) (Nat.le_refl _) ?_; intro w1 hown hg1)
  have hb1 : Below w.heap.size w w1 := (Below.refl _ _).grown hg1 (Nat.le_refl _) (fun k hk => by cases hk)
  have HB1 := Lib.hid hb1
  have HW1 := Lib.hid hown
  clear hg1 hb1 hown e4
  go_loopw [4, 13] (fun v i wr => ∃ (k g c : Nat), k ≤ n ∧ i = .int .i64 k ∧ v = .slice (some ⟨g, 0, none⟩) (32 * k) c ∧ wr.ownsRow w.heap.size 5 1 v (32 * k) (bcells (digsL F k)) ∧ Below w.heap.size w wr) (fun _ i _ => n - (intOf i).toNat)
  case atStart =>
    exact ⟨0, w.heap.size, 32 * n, Nat.zero_le _, rfl, rfl, HW1.out, HB1.out⟩
  case round =>
    clear HW1 HB1
    obtain ⟨k, g, c, hk, rfl, rfl, hown, hb⟩ := hrel
    have HOW := Lib.hid hown
    have HB := Lib.hid hb
    clear hown hb
    by_cases hlt : k < n
    · obtain ⟨pb, po, rfl, hc⟩ := HA.out (by omega)
      have hck : wr.rangeAt pb (po + k * 32) (dgV (F k)).toList := fun j v hj => (HB.out.cell (p := ⟨pb, po + k * 32 + j, none⟩) (block_lt_of_cell (hc k hlt j v hj))).trans (hc k hlt j v hj)
      have l0 : 0 ≤ (k : Int) := by omega
      have m0 : (k : Int) < (n : Int) := by omega
      have hsz0 : w.heap.size ≤ wr.heap.size := HB.out.size
      have HCK := Lib.hid hck
      have HIL := Lib.hid (show (Try.prog.info? 29).map (·.size) = some (dgV (F k)).toList.length by rw [Array.length_toList]; exact dgI (F k))
      have HNW := Lib.hid (show ∀ o, (wr.alloc o).heap[wr.heap.size]? = some o from fun o => heap_alloc_new wr o)
      have HXW := Lib.hid (show ∀ c, ((wr.alloc (.cells c 29)).setRow wr.heap.size (dgV (F k))).heap[wr.heap.size]? = some (.cells (dgV (F k)) 29 (0, 0)) from fun c => setRow_heap _ _ _ _ _ _ (heap_alloc_new wr _))
      have HLAST := Lib.hid (show ∀ c, Below wr.heap.size wr ((wr.alloc (.cells c 29)).setRow wr.heap.size (dgV (F k))) from fun c => below_setRow' ((Below.refl _ _).alloc (Nat.le_refl _) _) (Nat.le_refl _) _)
      clear hc hck
      go_upto_region 4 with (first
        | (with_reducible refine wpList_load_mid rfl 29 _ rfl pb (po + k * 32) rfl (dgV (F k)).toList (.array 32 5) HCK.out Try.underlying29 rfl HIL.out ?_)
        | (with_reducible refine wpList_store_row rfl 29 _ _ rfl _ (dgV (F k)) rfl rfl 29 _ (HNW.out _) (dgI (F k)) ?_ (dgO (F k)) ?_))
      · rw [dgV_size']; rfl
      refine gen_world (fun w2 => wr.heap.size < w2.heap.size ∧ w2.heap[wr.heap.size]? = some (.cells (dgV (F k)) 29 (0, 0)) ∧ Below wr.heap.size wr w2) ⟨by simp, HXW.out _, HLAST.out _⟩ ?_
      rintro w2 ⟨hsz2, hb2, hbb⟩
      have HN2 := Lib.hid (own_below HOW.out hbb)
      have HBB := Lib.hid (HB.out.trans (hbb.mono HB.out.size))
      have hsz : w.heap.size ≤ w2.heap.size := HBB.out.size
      generalize wr.heap.size = g2 at hb2 hsz2 ⊢
      have HC4 := Lib.hid (show ∀ j u, (bcells (digL (F k)))[j]? = some u → w2.cell? ((⟨g2, 0, none⟩ : Addr).add j) = some u from fun j u hj => by
        rw [Addr.add_lit, Nat.zero_add, cell_of_row _ _ _ _ _ _ hb2, ← hj, dig_cells]
        exact Array.getElem?_toList.symm)
      have HL4 := Lib.hid (show (bcells (digL (F k))).length = 32 * 1 by rw [bcells_length, digL_length])
      have HL1 := Lib.hid (bcells_one (digL (F k)))
      clear hbb hb2 HNW HXW HLAST HCK HIL
      go_wp2_with (at_builtin; refine wpList_append_own _ rfl (.tmp 17) (.tmp 18) 33 rfl w.heap.size 5 i0 _ 1 1 Try.underlying33 HI.out HZ0.out HZ1.out HZ2.out rfl (by omega) _ (32 * k) _ rfl HN2.out ⟨g2, 0, none⟩ 32 32 (bcells (digL (F k))) rfl HL4.out HC4.out HL1.out (by unfold maxLen; omega) (by omega) hsz ?_; intro v' w3 hown3 hg3 hnil3)
      have hnn : v' ≠ .slice none 0 0 := fun e => by
        have := (hnil3.1 e).2
        omega
      rw [← bcells_append, ← digsL_next] at hown3
      obtain ⟨g3, c3, rfl, hb3⟩ := own_form hown3 hnn
      go_roundw
      case rel =>
        exact ⟨k + 1, g3, c3, by omega, by go_num, by rw [Nat.mul_succ], by rw [Nat.mul_succ]; exact hown3, HBB.out.grown hg3 hsz (fun b hb => by injection hb with hb; have := (HN2.out.lt _ rfl).1; omega)⟩
      case measure => simp [intOf]; omega
    · go_wp2_with (fail)
      refine (pen_write_nil wr _).mono ?_
      rintro e w2 ⟨rfl, rfl⟩
      go_wp2
      go_end0
      exact ⟨rfl, HB.out⟩

end Go.Proofs.Ytdadcpkkpopbcaa
