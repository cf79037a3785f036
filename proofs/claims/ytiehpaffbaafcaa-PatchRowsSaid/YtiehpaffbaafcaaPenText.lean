/-
  Package pen's pen: texts and bytes are written. Conditions: the pen stands in a block of its own; the texts stand where it looks, each of at most a million bytes; fewer than 2^40 bytes.
-/
import Derived.Test.YtiehpaffbaafcaaPenNum
import Derived.Deep.Cut
namespace Go.Proofs.Ytiehpaffbaafcaa
open Go.ChangeShapes Go.WideShapes Go.ChangeAt Go.RowKit Pn

namespace Pn
def textL (s : ByteArray) : List UInt8 := numL (s.size : Int) ++ s.data.toList
def textsL (ss : Nat → ByteArray) (n : Nat) : List UInt8 := (List.range n).flatMap fun k => textL (ss k)
theorem textsL_next (ss : Nat → ByteArray) (n : Nat) : textsL ss (n + 1) = textsL ss n ++ textL (ss n) := by
  unfold textsL; rw [List.range_succ, List.flatMap_append]; simp
theorem textL_length (s : ByteArray) : (textL s).length = 4 + s.size := by
  unfold textL
  rw [List.length_append, numL_length]
  rfl
theorem textsL_le (ss : Nat → ByteArray) (n : Nat) (h : ∀ k, k < n → (ss k).size ≤ 1000000) : (textsL ss n).length ≤ 1000004 * n := by
  induction n with
  | zero => exact Nat.zero_le _
  | succ n ih =>
    rw [textsL_next, List.length_append, textL_length]
    have := ih fun k hk => h k (by omega)
    have := h n (by omega)
    omega
end Pn

set_option maxRecDepth 100000 in
set_option maxHeartbeats 1600000 in
theorem pen_text (w : World) (p : Nat) (l : List ByteArray) (bad : Bool) (h : PenAt w p l bad) (A : Option Addr) (n cap : Nat) (ss : Nat → ByteArray) (hn : n ≤ 1000) (hss : ∀ k, k < n → (ss k).size ≤ 1000000)
    (hA : 0 < n → ∃ pb po, A = some ⟨pb, po, none⟩ ∧ pb ≠ p ∧ ∀ k, k < n → w.cell? ⟨pb, po + k, none⟩ = some (.string (ss k))) (ht : 1000004 * n + total l < 1099511627776) :
    Calls Try.prog 34 #[.pointer (some ⟨p, 0, none⟩), .slice A n cap] w (PenSays w p (.tuple #[]) (⟨(textsL ss n).toArray⟩ :: l) bad) := by
  obtain ⟨last, hh, hch⟩ := h
  have hp := hh.lt
  have HH := Lib.hid hh
  have HCH := Lib.hid hch
  have HA := Lib.hid hA
  have HT := Lib.hid ht
  have HSS := Lib.hid hss
  have HLE := Lib.hid (fun k (hk : k ≤ n) => textsL_le ss k fun j hj => hss j (by omega))
  obtain ⟨i0, hi, hz0, hz1, hz2⟩ := info_parts infoB
  have HI := Lib.hid hi
  have HZ0 := Lib.hid hz0
  have HZ1 := Lib.hid hz1
  have HZ2 := Lib.hid hz2
  clear hh hch hA ht hss hi hz0 hz1 hz2
  go_enter Try.func34, Try.ntmps34
  go_wp2_with (fail)
  go_loopw [4, 10] (fun v i wr => ∃ (k g c : Nat), k ≤ n ∧ i = .int .i64 k ∧ v = .slice (some ⟨g, 0, none⟩) (textsL ss k).length c ∧ wr.ownsRow w.heap.size 5 1 v (textsL ss k).length (bcells (textsL ss k)) ∧ PenHd wr p last bad ∧ Only w wr p) (fun _ i _ => n - (intOf i).toNat)
  case atStart =>
    refine ⟨0, w.heap.size, 0, Nat.zero_le _, rfl, rfl, World.ownsRow_made w #[] 0 (Nat.le_refl _) (Nat.zero_le _) rfl, HH.out.of_block (heap_alloc_old w _ hp), (Only.refl w p).alloc _⟩
  case round =>
    obtain ⟨k, g, c, hk, rfl, rfl, hown, hhd, ho⟩ := hrel
    have HOW := Lib.hid hown
    have HHD := Lib.hid hhd
    have HO := Lib.hid ho
    clear hown hhd ho
    by_cases hlt : k < n
    · obtain ⟨pb, po, rfl, hne, hc⟩ := HA.out (by omega)
      have hck := (HO.out.cell (a := ⟨pb, po + k, none⟩) (block_lt_of_cell (hc k hlt)) hne).trans (hc k hlt)
      have hsk := HSS.out k hlt
      have hlk := HLE.out k hk
      have HNX := Lib.hid (textsL_next ss k)
      have l0 : 0 ≤ (k : Int) := by omega
      have m0 : (k : Int) < (n : Int) := by omega
      have HOKK := Lib.hid (num_ok (n := ((ss k).size : Int)) (by omega) (by omega))
      clear hc
      generalize ss k = s at hck hsk HNX HOKK
      generalize hL : textsL ss k = L at HOW hlk HNX ⊢
      clear hL
      go_wp2_with (fail)
      refine (pen_number wr p last _ HHD.out (s.size : Int)).mono ?_
      rintro e w2 ⟨⟨g2, rfl, hg2, hb2⟩, hh2, ho2⟩
      rw [HOKK.out, Bool.not_true, Bool.or_false] at hh2
      have HN2 := Lib.hid (own_only HOW.out ho2 hp)
      have HB2 := Lib.hid hb2
      have HH2 := Lib.hid hh2
      have HO2 := Lib.hid (HO.out.trans ho2)
      have hsz : w.heap.size ≤ w2.heap.size := HO2.out.size
      have HC4 := Lib.hid (show ∀ j u, (bcells (numL (s.size : Int)))[j]? = some u → w2.cell? ((⟨g2, 0, none⟩ : Addr).add j) = some u from fun j u hj => by
        rw [Addr.add_lit, Nat.zero_add, cell_of_row _ _ _ _ _ _ HB2.out, ← hj, four_cells]
        exact List.getElem?_toArray)
      have HL4 := Lib.hid (show (bcells (numL (s.size : Int))).length = 4 * 1 by rw [bcells_length, numL_length])
      have HL1 := Lib.hid (bcells_one (numL (s.size : Int)))
      clear hh2 ho2 hb2 hck
      go_upto_region 5 with (at_builtin; refine wpList_append_own _ rfl (.tmp 14) (.tmp 18) 53 rfl w.heap.size 5 i0 _ 1 1 Try.underlying53 HI.out HZ0.out HZ1.out HZ2.out rfl (by omega) _ L.length _ rfl HN2.out ⟨g2, 0, none⟩ 4 4 (bcells (numL (s.size : Int))) rfl HL4.out HC4.out HL1.out (by unfold maxLen; omega) (by omega) hsz ?_; intro v' w3 hown3 hg3 hnil3)
      have hnn : v' ≠ .slice none 0 0 := fun e => by
        have := (hnil3.1 e).2
        omega
      rw [← bcells_append] at hown3
      obtain ⟨g3, c3, rfl, hb3⟩ := own_form hown3 hnn
      have HN3 := Lib.hid hown3
      have HH3 := Lib.hid (HH2.out.of_block (hg3.block p (by omega) (fun e => by have := (HN2.out.lt p (e.symm)).1; omega)))
      have HO3 := Lib.hid (HO2.out.grown hg3 (fun b hb => by injection hb with hb; have := (HN2.out.lt _ rfl).1; omega))
      have hsz3 : w.heap.size ≤ w3.heap.size := HO3.out.size
      clear hnn hnil3 hg3 hown3
      go_wp2_with (at_builtin; refine Lib.wpList_append_own_string _ rfl (.tmp 20) (.tmp 21) 53 9 rfl w.heap.size 5 i0 Try.underlying53 Try.underlying9 HI.out HZ0.out HZ1.out HZ2.out _ (L.length + 4) _ rfl HN3.out s rfl (by unfold maxLen; omega) (by omega) hsz3 ?_; intro v' w4 hown4 hg4 hnil4)
      have hnn : v' ≠ .slice none 0 0 := fun e => by
        have := (hnil4.1 e).1
        cases this
      rw [bcells_text, ← bcells_append, List.append_assoc, show numL (s.size : Int) ++ s.data.toList = textL s from rfl, ← HNX.out] at hown4
      have hlen : L.length + 4 + s.size = (textsL ss (k + 1)).length := by rw [HNX.out, List.length_append, textL_length]; omega
      rw [hlen] at hown4
      obtain ⟨g4, c4, rfl, hb4⟩ := own_form hown4 hnn
      have HF := Lib.hid (show (∃ (j g c : Nat), j ≤ n ∧ Value.int .i64 ((k : Int) + 1) = .int .i64 j ∧ Value.slice (some ⟨g4, 0, none⟩) (textsL ss (k + 1)).length c4 = .slice (some ⟨g, 0, none⟩) (textsL ss j).length c ∧ w4.ownsRow w.heap.size 5 1 (Value.slice (some ⟨g4, 0, none⟩) (textsL ss (k + 1)).length c4) (textsL ss j).length (bcells (textsL ss j)) ∧ PenHd w4 p last bad ∧ Only w w4 p) from
        ⟨k + 1, g4, c4, by omega, by go_num, rfl, hown4, HH3.out.of_block (hg4.block p (by omega) (fun e => by have := (HN3.out.lt p (e.symm)).1; omega)), HO3.out.grown hg4 (fun b hb => by injection hb with hb; have := (HN3.out.lt _ rfl).1; omega)⟩)
      clear hlen hown4 hg4 hnil4 hnn
      go_roundw
      case rel => exact HF.out
      case measure => simp [intOf]; omega
    · have hkn : k = n := by omega
      subst hkn
      have HTX := Lib.hid (own_text HOW.out rfl)
      have hch2 := HCH.out.only HO.out
      go_wp2_with (fail)
      refine (pen_write wr p l _ ⟨last, HHD.out, hch2⟩ _ _ _ ⟨(textsL ss k).toArray⟩ (by simp [ByteArray.size]) ?_ HTX.out).mono ?_
      · have := HT.out
        have h2 := HLE.out k (Nat.le_refl _)
        simp only [total, ByteArray.size, List.size_toArray]
        omega
      rintro e w2 ⟨rfl, h1, h2⟩
      have H1 := Lib.hid h1
      clear h1
      go_wp2
      go_end0
      exact ⟨rfl, H1.out, HO.out.trans h2⟩

set_option maxRecDepth 100000 in
set_option maxHeartbeats 800000 in
theorem pen_byte (w : World) (p : Nat) (l : List ByteArray) (bad : Bool) (h : PenAt w p l bad) (A : Option Addr) (n cap : Nat) (q : ByteArray) (hn : n = q.size) (ht : total (q :: l) < 1099511627776)
    (hc : ∀ W : World, W.heap = w.heap → (convert 53 9 (.slice A n cap)).run Try.prog W = .ok (.string q) W) :
    Calls Try.prog 33 #[.pointer (some ⟨p, 0, none⟩), .slice A n cap] w (PenSays w p (.tuple #[]) (q :: l) bad) := by
  have H := Lib.hid h
  have HN := Lib.hid hn
  have HT := Lib.hid ht
  have HC := Lib.hid hc
  clear h hn ht hc
  go_enter Try.func33, Try.ntmps33
  go_wp2_with (fail)
  refine (pen_write w p l bad H.out A n cap q HN.out HT.out HC.out).mono ?_
  rintro e w2 ⟨rfl, h1, h2⟩
  have H1 := Lib.hid h1
  clear h1
  go_wp2
  go_end0
  exact ⟨rfl, H1.out, h2⟩
end Go.Proofs.Ytiehpaffbaafcaa
