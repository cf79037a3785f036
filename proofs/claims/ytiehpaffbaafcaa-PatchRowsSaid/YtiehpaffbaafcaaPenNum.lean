/-
  Package pen's pen: numbers are written. Conditions: the pen stands in a block of its own; the numbers stand where it looks; fewer than 2^40 bytes.
-/
import Derived.Test.YtiehpaffbaafcaaPenOwn
namespace Go.Proofs.Ytiehpaffbaafcaa
open Go.ChangeShapes Go.WideShapes Go.ChangeAt Go.RowKit Pn

namespace Pn
def numsL (xs : Nat → Int) (n : Nat) : List UInt8 := (List.range n).flatMap fun k => numL (xs k)
def numsOk (xs : Nat → Int) (n : Nat) : Bool := (List.range n).all fun k => numOk (xs k)
theorem numsL_next (xs : Nat → Int) (n : Nat) : numsL xs (n + 1) = numsL xs n ++ numL (xs n) := by
  unfold numsL; rw [List.range_succ, List.flatMap_append]; simp
theorem numsOk_next (xs : Nat → Int) (n : Nat) : numsOk xs (n + 1) = (numsOk xs n && numOk (xs n)) := by
  unfold numsOk; rw [List.range_succ, List.all_append]; simp
theorem numsL_length (xs : Nat → Int) (n : Nat) : (numsL xs n).length = 4 * n := by
  induction n with
  | zero => rfl
  | succ n ih => rw [numsL_next, List.length_append, ih, numL_length]; omega
theorem bad_next (bad : Bool) (xs : Nat → Int) (n : Nat) : (bad || !numsOk xs n || !numOk (xs n)) = (bad || !numsOk xs (n + 1)) := by
  rw [numsOk_next]; cases bad <;> cases numsOk xs n <;> cases numOk (xs n) <;> rfl
end Pn
theorem four_cells (n : Int) : bcells (numL n) = [.int .u8 ((numF n 0).toNat : Int), .int .u8 ((numF n 1).toNat : Int), .int .u8 ((numF n 2).toNat : Int), .int .u8 ((numF n 3).toNat : Int)] := rfl

set_option maxRecDepth 100000 in
set_option maxHeartbeats 1600000 in
theorem pen_num (w : World) (p : Nat) (l : List ByteArray) (bad : Bool) (h : PenAt w p l bad) (A : Option Addr) (n cap : Nat) (xs : Nat → Int) (hn : n ≤ 1000000)
    (hA : 0 < n → ∃ pb po, A = some ⟨pb, po, none⟩ ∧ pb ≠ p ∧ ∀ k, k < n → w.cell? ⟨pb, po + k, none⟩ = some (.int .i64 (xs k))) (ht : 4 * n + total l < 1099511627776) :
    Calls Try.prog 14 #[.pointer (some ⟨p, 0, none⟩), .slice A n cap] w (PenSays w p (.tuple #[]) (⟨(numsL xs n).toArray⟩ :: l) (bad || !numsOk xs n)) := by
  obtain ⟨last, hh, hch⟩ := h
  have hp := hh.lt
  have HH := Lib.hid hh
  have HCH := Lib.hid hch
  have HA := Lib.hid hA
  have HT := Lib.hid ht
  obtain ⟨i0, hi, hz0, hz1, hz2⟩ := info_parts infoB
  have HI := Lib.hid hi
  have HZ0 := Lib.hid hz0
  have HZ1 := Lib.hid hz1
  have HZ2 := Lib.hid hz2
  clear hh hch hA ht hi hz0 hz1 hz2
  have e4 : IntKind.i64.wrap (4 * (n : Int)) = 4 * (n : Int) := IntWalk.i64_in _ (by omega)
  go_enter Try.func14, Try.ntmps14
  go_wp2_with (at_make; refine wpList_make_own _ rfl _ _ 53 rfl w.heap.size 5 i0 _ 1 Try.underlying53 HI.out HZ0.out HZ1.out .i64 .i64 _ (4 * n) rfl rfl (by omega) (by rw [HZ2.out]; omega) (by unfold maxLen; omega) (Nat.le_refl _) ?_; intro w1 hown hg1)
  have ho1 : Only w w1 p := (Only.refl w p).grown hg1 (fun k hk => by cases hk)
  have hh1 : PenHd w1 p last bad := HH.out.of_block (hg1.block p hp (by simp))
  have HO1 := Lib.hid ho1
  have HH1 := Lib.hid hh1
  have HW1 := Lib.hid hown
  clear hg1 ho1 hh1 hown e4
  go_loopw [4, 13] (fun v i wr => ∃ (k g c : Nat), k ≤ n ∧ i = .int .i64 k ∧ v = .slice (some ⟨g, 0, none⟩) (4 * k) c ∧ wr.ownsRow w.heap.size 5 1 v (4 * k) (bcells (numsL xs k)) ∧ PenHd wr p last (bad || !numsOk xs k) ∧ Only w wr p) (fun _ i _ => n - (intOf i).toNat)
  case atStart =>
    refine ⟨0, w.heap.size, 4 * n, Nat.zero_le _, rfl, rfl, HW1.out, ?_, HO1.out⟩
    have := HH1.out
    show PenHd w1 p last (bad || !true)
    simpa using this
  case round =>
    clear HW1 HH1 HO1
    obtain ⟨k, g, c, hk, rfl, rfl, hown, hhd, ho⟩ := hrel
    have HOW := Lib.hid hown
    have HHD := Lib.hid hhd
    have HO := Lib.hid ho
    clear hown hhd ho
    by_cases hlt : k < n
    · obtain ⟨pb, po, rfl, hne, hc⟩ := HA.out (by omega)
      have hck := (HO.out.cell (a := ⟨pb, po + k, none⟩) (block_lt_of_cell (hc k hlt)) hne).trans (hc k hlt)
      have l0 : 0 ≤ (k : Int) := by omega
      have m0 : (k : Int) < (n : Int) := by omega
      clear hc
      go_wp2_with (fail)
      refine (pen_number wr p last _ HHD.out (xs k)).mono ?_
      rintro e w2 ⟨⟨g2, rfl, hg2, hb2⟩, hh2, ho2⟩
      have HN2 := Lib.hid (own_only HOW.out ho2 hp)
      have HB2 := Lib.hid hb2
      have HH2 := Lib.hid hh2
      have HO2 := Lib.hid (HO.out.trans ho2)
      have hsz : w.heap.size ≤ w2.heap.size := HO2.out.size
      have HC4 := Lib.hid (show ∀ j u, (bcells (numL (xs k)))[j]? = some u → w2.cell? ((⟨g2, 0, none⟩ : Addr).add j) = some u from fun j u hj => by
        rw [Addr.add_lit, Nat.zero_add, cell_of_row _ _ _ _ _ _ HB2.out, ← hj, four_cells]
        exact List.getElem?_toArray)
      have HL4 := Lib.hid (show (bcells (numL (xs k))).length = 4 * 1 by rw [bcells_length, numL_length])
      have HL1 := Lib.hid (bcells_one (numL (xs k)))
      clear hh2 ho2 hb2 hck
      go_wp2_with (at_builtin; refine wpList_append_own _ rfl (.tmp 17) (.tmp 20) 53 rfl w.heap.size 5 i0 _ 1 1 Try.underlying53 HI.out HZ0.out HZ1.out HZ2.out rfl (by omega) _ (4 * k) _ rfl HN2.out ⟨g2, 0, none⟩ 4 4 (bcells (numL (xs k))) rfl HL4.out HC4.out HL1.out (by unfold maxLen; omega) (by omega) hsz ?_; intro v' w3 hown3 hg3 hnil3)
      have hnn : v' ≠ .slice none 0 0 := fun e => by
        have := (hnil3.1 e).2
        omega
      rw [← bcells_append, ← numsL_next] at hown3
      obtain ⟨g3, c3, rfl, hb3⟩ := own_form hown3 hnn
      go_roundw
      case rel =>
        refine ⟨k + 1, g3, c3, by omega, by go_num, by rw [Nat.mul_succ], by rw [Nat.mul_succ]; exact hown3, ?_, HO2.out.grown hg3 (fun b hb => by injection hb with hb; have := (HN2.out.lt _ rfl).1; omega)⟩
        rw [← bad_next]
        exact HH2.out.of_block (hg3.block p (by omega) (fun e => by have := (HN2.out.lt p (e.symm)).1; omega))
      case measure => simp [intOf]; omega
    · have hkn : k = n := by omega
      subst hkn
      have HTX := Lib.hid (own_text HOW.out rfl)
      have hch2 := HCH.out.only HO.out
      go_wp2_with (fail)
      refine (pen_write wr p l _ ⟨last, HHD.out, hch2⟩ _ _ _ ⟨(numsL xs k).toArray⟩ (by have := numsL_length xs k; simp [ByteArray.size, this]) ?_ HTX.out).mono ?_
      · have := HT.out
        have h2 := numsL_length xs k
        simp only [total, ByteArray.size, List.size_toArray]
        omega
      rintro e w2 ⟨rfl, h1, h2⟩
      have H1 := Lib.hid h1
      clear h1
      go_wp2
      go_end0
      exact ⟨rfl, H1.out, HO.out.trans h2⟩
end Go.Proofs.Ytiehpaffbaafcaa
