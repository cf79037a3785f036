/-
  The law's own helper: the document's examples. No condition.
-/
import Derived.Test.YtdadcpkkpopbcabPenBytes
namespace Go.Proofs.Ytdadcpkkpopbcab
open Go.ChangeShapes Go.WideShapes Go.ChangeAt Go.RowKit Pn

namespace Pn
def awS : ByteArray := ⟨#[2, 1, 0, 0, 2, 0, 0, 0, 97, 98, 33]⟩
def awN (k : Nat) : Int := [258, -1].getD k 0
def awT (k : Nat) : ByteArray := [⟨#[97, 98]⟩, ⟨#[]⟩].getD k ⟨#[]⟩
theorem aw_bytes : penL [⟨#[7]⟩, ⟨(textsL awT 2).toArray⟩, ⟨(numsL awN 2).toArray⟩] = [2, 1, 0, 0, 0, 0, 0, 0, 2, 0, 0, 0, 97, 98, 0, 0, 0, 0, 7] := by decide +kernel
theorem aw_tot1 : total [⟨(numsL awN 2).toArray⟩] = 8 := by decide +kernel
theorem aw_tot2 : total [⟨#[7]⟩, ⟨(textsL awT 2).toArray⟩, ⟨(numsL awN 2).toArray⟩] = 19 := by decide +kernel
theorem aw_bad : (false || !numsOk awN 2) = true := by decide +kernel
theorem aw_num : nmOut awS 300 = 258 := by decide +kernel
theorem aw_nrest : nmRest awS 300 = ⟨#[2, 0, 0, 0, 97, 98, 33]⟩ := by decide +kernel
theorem aw_nbad : nmBad awS false 300 = false := by decide +kernel
theorem aw_text : txOut ⟨#[2, 0, 0, 0, 97, 98, 33]⟩ 2 = ⟨#[97, 98]⟩ := by decide +kernel
theorem aw_trest : txRest ⟨#[2, 0, 0, 0, 97, 98, 33]⟩ 2 = ⟨#[33]⟩ := by decide +kernel
theorem aw_tbad : txBad ⟨#[2, 0, 0, 0, 97, 98, 33]⟩ false 2 = false := by decide +kernel
theorem aw_byte : byAt (tkOut ⟨#[33]⟩ 1) 0 = 33 := by decide +kernel
theorem aw_brest : tkRest ⟨#[33]⟩ 1 = ⟨#[]⟩ := by decide +kernel
theorem aw_bbad : tkBad ⟨#[33]⟩ false 1 = false := by decide +kernel
end Pn
theorem below_only {B : Nat} {w w1 w2 : World} {p : Nat} (h : Below B w w1) (ho : Only w1 w2 p) (hp : B ≤ p) (hB : B ≤ w1.heap.size) : Below B w w2 := h.trans (ho.below hp hB)
theorem as_says {w : World} {b : Nat} {v v' : Value} {r r' : ByteArray} {x x' : Bool} {e : Ending} {w' : World} (h : EyeSays w b v r x e w') (hv : v = v') (hr : r = r') (hx : x = x') : EyeSays w b v' r' x' e w' := by rw [← hv, ← hr, ← hx]; exact h

set_option maxHeartbeats 3200000 in
theorem awake_any (w : World) :
    Calls Try.prog 5 #[] w fun e w' => e = .returned (.bool true) ∧ Below w.heap.size w w' := by
  go_enter Try.func5, Try.ntmps5
  go_wp2_with (fail)
  refine (pen_num _ w.heap.size [] false ?_ (some ⟨w.heap.size + 1, 0, none⟩) 2 2 awN (by omega) (fun _ => ⟨w.heap.size + 1, 0, rfl, by omega, fun k hk => ?_⟩) (by simp [total])).mono ?_
  · exact pen_new _ _ ((heap_alloc_old _ _ (by simp)).trans (heap_alloc_new w _))
  · have h := heap_alloc_new (w.alloc (.cells #[.pointer none, .bool false] 46)) (.cells #[.int .i64 258, .int .i64 (-1)] 3)
    rw [World.size_alloc] at h
    rw [Nat.zero_add]
    match k, hk with
    | 0, _ => exact cell_of_row _ _ 0 _ _ _ h
    | 1, _ => exact cell_of_row _ _ 1 _ _ _ h
  rintro e w1 ⟨rfl, p1, o1⟩
  have b1 : Below w.heap.size w w1 := below_only (((Below.refl _ _).alloc (Nat.le_refl _) _).alloc (by simp) _) o1 (Nat.le_refl _) (by simp; omega)
  rw [aw_bad] at p1
  have P1 := Lib.hid p1
  have B1 := Lib.hid b1
  have s1 : w.heap.size < w1.heap.size := p1.lt
  clear p1 o1 b1
  go_wp2_with (fail)
  refine (pen_text _ w.heap.size _ true ?_ (some ⟨w1.heap.size, 0, none⟩) 2 2 awT (by omega) (fun k hk => ?_) (fun _ => ⟨w1.heap.size, 0, rfl, by omega, fun k hk => ?_⟩) (by rw [aw_tot1]; omega)).mono ?_
  · exact P1.out.below ((Below.refl _ _).alloc (Nat.le_refl _) _)
  · match k, hk with
    | 0, _ => exact (by decide : (2 : Nat) ≤ 1000000)
    | 1, _ => exact Nat.zero_le _
  · rw [Nat.zero_add]
    have h := heap_alloc_new w1 (.cells #[.string ⟨#[97, 98]⟩, .string ⟨#[]⟩] 9)
    match k, hk with
    | 0, _ => exact cell_of_row _ _ 0 _ _ _ h
    | 1, _ => exact cell_of_row _ _ 1 _ _ _ h
  rintro e w2 ⟨rfl, p2, o2⟩
  have b2 : Below w.heap.size w w2 := below_only (B1.out.alloc (by omega) _) o2 (Nat.le_refl _) (by simp; omega)
  have P2 := Lib.hid p2
  have B2 := Lib.hid b2
  have s2 : w.heap.size < w2.heap.size := p2.lt
  clear p2 o2 b2 P1 B1
  go_wp2_with (fail)
  refine (pen_byte _ w.heap.size _ true ?_ (some ⟨w2.heap.size, 0, none⟩) 1 1 ⟨#[7]⟩ rfl (by rw [aw_tot2]; omega) ?_).mono ?_
  · exact P2.out.below ((Below.refl _ _).alloc (Nat.le_refl _) _)
  · intro W hW
    refine run_text W _ 1 1 [7] rfl fun j u hj => ?_
    have h := heap_alloc_new w2 (.cells #[.int .u8 7] 5)
    rw [← hW] at h
    rw [Addr.add_lit, Nat.zero_add, cell_of_row _ _ _ _ _ _ h, ← hj]
    exact List.getElem?_toArray
  rintro e w3 ⟨rfl, p3, o3⟩
  have b3 : Below w.heap.size w w3 := below_only (B2.out.alloc (by omega) _) o3 (Nat.le_refl _) (by simp; omega)
  have P3 := Lib.hid p3
  have B3 := Lib.hid b3
  have s3 : w.heap.size < w3.heap.size := p3.lt
  clear p3 o3 b3 P2 B2
  go_wp2_with (fail)
  refine (eye_of awS w3).mono ?_
  rintro e w4 ⟨rfl, e4, b4⟩
  have P4 := Lib.hid (P3.out.below b4)
  have E4 := Lib.hid e4
  have B4 := Lib.hid (B3.out.trans (b4.mono (by omega)))
  have s4 := e4.lt
  clear e4 b4 P3 B3
  go_wp2_with (fail)
  refine (pen_bad w4 _ _ _ P4.out).mono ?_
  rintro e w5 ⟨rfl, rfl⟩
  go_wp2_with (fail)
  refine (pen_bytes w4 _ _ _ P4.out (by rw [aw_tot2]; omega)).mono ?_
  rintro e w5 ⟨rfl, b5⟩
  rw [aw_bytes]
  have E5 := Lib.hid (E4.out.of_block (b5.block _ s4))
  have B5 := Lib.hid (B4.out.trans (b5.mono (by omega)))
  have s5 := b5.size
  clear b5 P4 E4 B4
  go_wp2_with (fail)
  refine (eye_num w5 _ _ _ E5.out 300).mono ?_
  rintro e w6 h6
  obtain ⟨rfl, e6, o6⟩ := as_says h6 (by rw [aw_num]) aw_nrest aw_nbad
  have E6 := Lib.hid e6
  have B6 := Lib.hid (below_only B5.out o6 (by omega) (by omega))
  have s6 := o6.size
  clear e6 o6 h6 E5 B5
  go_wp2_with (fail)
  refine (eye_text w6 _ _ _ E6.out (by decide) 2).mono ?_
  rintro e w7 h7
  obtain ⟨rfl, e7, o7⟩ := as_says h7 (by rw [aw_text]) aw_trest aw_tbad
  have E7 := Lib.hid e7
  have B7 := Lib.hid (below_only B6.out o7 (by omega) (by omega))
  have s7 := o7.size
  clear e7 o7 h7 E6 B6
  go_wp2_with (fail)
  refine (eye_left w7 _ _ _ E7.out).mono ?_
  rintro e w8 ⟨rfl, rfl⟩
  go_wp2_with (fail)
  refine (eye_end w7 _ _ _ E7.out).mono ?_
  rintro e w8 ⟨rfl, rfl⟩
  go_wp2_with (fail)
  refine (eye_byte w7 _ _ _ E7.out).mono ?_
  rintro e w8 h8
  obtain ⟨rfl, e8, o8⟩ := as_says h8 (by rw [aw_byte]) aw_brest aw_bbad
  have E8 := Lib.hid e8
  have B8 := Lib.hid (below_only B7.out o8 (by omega) (by omega))
  clear e8 o8 h8 E7 B7
  go_wp2_with (fail)
  refine (eye_end w8 _ _ _ E8.out).mono ?_
  rintro e w9 ⟨rfl, rfl⟩
  go_wp2
  go_ret
  exact ⟨rfl, B8.out⟩
end Go.Proofs.Ytdadcpkkpopbcab
