/-
  The program's sums (package sha): digits as a sum. No conditions.
-/
import Derived.Test.YtdadcpkkpopbcaaDoorLawDigits
import Derived.Test.YtdadcpkkpopbcaaDoorShelf
import Derived.Test.YtdadcpkkpopbcaaDoorShaTreeS
import Derived.Laws.ResultCell
namespace Go.Proofs.YtdadcpkkpopbcaaDoor
open Go.ChangeShapes Go.WideShapes Go.ChangeAt Go.RowKit Sh

/-- What a digit counts. -/
def hexv (b : UInt8) : Nat := if b ≤ 57 then b.toNat - 48 else b.toNat - 87
theorem hexv_lt (b : UInt8) (h : isHex b = true) : hexv b < 16 := by
  have key : ∀ k : _root_.Fin 256, isHex (UInt8.ofNat k.val) = true → hexv (UInt8.ofNat k.val) < 16 := by decide +kernel
  have := key ⟨b.toNat, b.toNat_lt⟩
  simp only [UInt8.ofNat_toNat] at this
  exact this h
def hexDat : ByteArray := ⟨#[48, 49, 50, 51, 52, 53, 54, 55, 56, 57, 97, 98, 99, 100, 101, 102]⟩
theorem index_good (b : UInt8) (h : isHex b = true) : Lib.indexByte hexDat.data.toList ((b.toNat : Int)).toNat.toUInt8 = (hexv b : Int) := by
  have key : ∀ k : _root_.Fin 256, isHex (UInt8.ofNat k.val) = true → Lib.indexByte hexDat.data.toList (UInt8.ofNat k.val) = (hexv (UInt8.ofNat k.val) : Int) := by decide +kernel
  have := key ⟨b.toNat, b.toNat_lt⟩
  simp only [UInt8.ofNat_toNat] at this
  rw [Int.toNat_natCast, show b.toNat.toUInt8 = b from UInt8.ofNat_toNat]
  exact this h
theorem index_not (b : UInt8) (h : isHex b = false) : Lib.indexByte hexDat.data.toList ((b.toNat : Int)).toNat.toUInt8 = -1 := by
  have key : ∀ k : _root_.Fin 256, isHex (UInt8.ofNat k.val) = false → Lib.indexByte hexDat.data.toList (UInt8.ofNat k.val) = -1 := by decide +kernel
  have := key ⟨b.toNat, b.toNat_lt⟩
  simp only [UInt8.ofNat_toNat] at this
  rw [Int.toNat_natCast, show b.toNat.toUInt8 = b from UInt8.ofNat_toNat]
  exact this h
/-- The byte of two digits, the higher one first. -/
def pairB (a b : UInt8) : UInt8 := UInt8.ofNat (16 * hexv a + hexv b)
theorem pairB_val (a b : UInt8) (h : isHex a = true) (k : isHex b = true) : ((pairB a b).toNat : Int) = 16 * (hexv a : Int) + (hexv b : Int) := by
  have h1 := hexv_lt a h
  have h2 := hexv_lt b k
  unfold pairB
  rw [UInt8.toNat_ofNat']
  omega
theorem join16 (a b : Nat) (ha : a < 16) (hb : b < 16) : bits .or .i64 (16 * (a : Int)) (b : Int) = 16 * (a : Int) + (b : Int) := by
  have key : ∀ i : _root_.Fin 16, ∀ j : _root_.Fin 16, bits .or .i64 (16 * (i.val : Int)) (j.val : Int) = 16 * (i.val : Int) + (j.val : Int) := by decide +kernel
  exact key ⟨a, ha⟩ ⟨b, hb⟩
/-- The sum that digits tell. -/
def parsedF (q : ByteArray) (j : Nat) : UInt8 := pairB (byteAt q.data.toList (2 * j)) (byteAt q.data.toList (2 * j + 1))
theorem row_good (q : ByteArray) (h : hexText q = true) : q.size = 64 ∧ ∀ j, j < 64 → isHex (byteAt q.data.toList j) = true := by
  unfold hexText at h
  simp only [Bool.and_eq_true, decide_eq_true_eq] at h
  refine ⟨h.1, fun j hj => ?_⟩
  have hl : j < q.data.toList.length := by show j < q.size; omega
  have := List.all_eq_true.1 h.2 (q.data.toList[j]) (List.getElem_mem hl)
  unfold byteAt
  rwa [List.getD_eq_getElem?_getD, List.getElem?_eq_getElem hl]

theorem hex_index (b : UInt8) (h : isHex b = true) (w : World) :
    Calls Tryd.prog 24 #[.string ⟨#[48, 49, 50, 51, 52, 53, 54, 55, 56, 57, 97, 98, 99, 100, 101, 102]⟩, .int .u8 (b.toNat : Int)] w fun e w' => e = .returned (.int .i64 (hexv b : Int)) ∧ w' = w := by
  have := Tryd.strings_IndexByte hexDat (b.toNat : Int) w
  rw [index_good b h] at this
  exact this
theorem hex_index_not (b : UInt8) (h : isHex b = false) (w : World) :
    Calls Tryd.prog 24 #[.string ⟨#[48, 49, 50, 51, 52, 53, 54, 55, 56, 57, 97, 98, 99, 100, 101, 102]⟩, .int .u8 (b.toNat : Int)] w fun e w' => e = .returned (.int .i64 (-1)) ∧ w' = w := by
  have := Tryd.strings_IndexByte hexDat (b.toNat : Int) w
  rw [index_not b h] at this
  exact this

theorem hexd_is (n : Nat) (h : n < 16) : isHex (hexd n) = true ∧ hexv (hexd n) = n := by
  have key : ∀ k : _root_.Fin 16, isHex (hexd k.val) = true ∧ hexv (hexd k.val) = k.val := by decide +kernel
  exact key ⟨n, h⟩
theorem hexd_back (b : UInt8) (h : isHex b = true) : hexd (hexv b) = b := by
  have key : ∀ k : _root_.Fin 256, isHex (UInt8.ofNat k.val) = true → hexd (hexv (UInt8.ofNat k.val)) = UInt8.ofNat k.val := by decide +kernel
  have := key ⟨b.toNat, b.toNat_lt⟩
  simp only [UInt8.ofNat_toNat] at this
  exact this h
theorem text_hex (f : Nat → UInt8) (j : Nat) (hj : j < 64) : isHex ((textOf f 32).getD j 0) = true := by
  have h1 := textOf_at f 32 (j / 2) (by omega)
  have hb := (f (j / 2)).toNat_lt
  rcases (show j % 2 = 0 ∨ j % 2 = 1 by omega) with h | h
  · rw [show j = 2 * (j / 2) by omega, h1.1]; exact (hexd_is _ (by omega)).1
  · rw [show j = 2 * (j / 2) + 1 by omega, h1.2]; exact (hexd_is _ (by omega)).1
theorem text_good (f : Nat → UInt8) : hexText ⟨(textOf f 32).toArray⟩ = true := by
  have hs : (⟨(textOf f 32).toArray⟩ : ByteArray).size = 64 := by simp [ByteArray.size, textOf_length]
  rw [hexText_of ⟨(textOf f 32).toArray⟩ fun j hj => (text_hex f j (by rw [hs] at hj; exact hj) : isHex (byteAt (ByteArray.mk (textOf f 32).toArray).data.toList j) = true), hs]
  rfl
theorem parsed_text (f : Nat → UInt8) : digF (parsedF ⟨(textOf f 32).toArray⟩) = digF f := by
  refine vals_congr fun j hj => ?_
  have h1 := textOf_at f 32 j hj
  have hb := (f j).toNat_lt
  have e : parsedF ⟨(textOf f 32).toArray⟩ j = f j := by
    unfold parsedF byteAt pairB
    rw [show (⟨(textOf f 32).toArray⟩ : ByteArray).data.toList = textOf f 32 from rfl, h1.1, h1.2, (hexd_is _ (by omega)).2, (hexd_is _ (by omega)).2]
    rw [show 16 * ((f j).toNat / 16) + (f j).toNat % 16 = (f j).toNat by omega, UInt8.ofNat_toNat]
  rw [e]
theorem text_parsed (q : ByteArray) (h : hexText q = true) : (⟨(textOf (parsedF q) 32).toArray⟩ : ByteArray) = q := by
  obtain ⟨hs, hx⟩ := row_good q h
  have hl : q.data.toList.length = 64 := hs
  have key : textOf (parsedF q) 32 = q.data.toList := by
    apply List.ext_getElem (by rw [textOf_length, hl])
    intro i h1 h2
    have e1 : (textOf (parsedF q) 32)[i] = (textOf (parsedF q) 32).getD i 0 := by rw [List.getD_eq_getElem?_getD, List.getElem?_eq_getElem h1]; rfl
    have e2 : q.data.toList[i] = byteAt q.data.toList i := by unfold byteAt; rw [List.getD_eq_getElem?_getD, List.getElem?_eq_getElem h2]; rfl
    rw [e1, e2]
    have h3 := textOf_at (parsedF q) 32 (i / 2) (by omega)
    have g1 := hx (2 * (i / 2)) (by omega)
    have g2 := hx (2 * (i / 2) + 1) (by omega)
    have hv : (parsedF q (i / 2)).toNat = 16 * hexv (byteAt q.data.toList (2 * (i / 2))) + hexv (byteAt q.data.toList (2 * (i / 2) + 1)) := by
      have := pairB_val _ _ g1 g2
      unfold parsedF
      omega
    have l1 := hexv_lt _ g1
    have l2 := hexv_lt _ g2
    rcases (show i % 2 = 0 ∨ i % 2 = 1 by omega) with e | e
    · rw [show i = 2 * (i / 2) by omega, h3.1, hv, show (16 * hexv (byteAt q.data.toList (2 * (i / 2))) + hexv (byteAt q.data.toList (2 * (i / 2) + 1))) / 16 = hexv (byteAt q.data.toList (2 * (i / 2))) by omega]
      exact hexd_back _ g1
    · rw [show i = 2 * (i / 2) + 1 by omega, h3.2, hv, show (16 * hexv (byteAt q.data.toList (2 * (i / 2))) + hexv (byteAt q.data.toList (2 * (i / 2) + 1))) % 16 = hexv (byteAt q.data.toList (2 * (i / 2) + 1)) by omega]
      exact hexd_back _ g2
  rw [key]
end Go.Proofs.YtdadcpkkpopbcaaDoor
