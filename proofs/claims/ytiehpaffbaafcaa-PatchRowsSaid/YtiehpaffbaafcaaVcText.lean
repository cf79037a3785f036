/-
  A row of bytes as a text; numbers of eight bits as bytes, and back. No program's function here. No conditions.
-/
import Derived.Test.YtiehpaffbaafcaaVcSpec
import Derived.Laws.BytesString
namespace Go.Proofs.Ytiehpaffbaafcaa
open Go.ChangeShapes Go.WideShapes Go.ChangeAt Go.RowKit Nm Vc

namespace Vc
/-- Numbers as bytes. -/
def byteZ (z : Int) : UInt8 := UInt8.ofNat (z % 256).toNat
def textD (D : List Int) : ByteArray := ⟨(D.map byteZ).toArray⟩
theorem byteZ_toNat (z : Int) : ((byteZ z).toNat : Int) = z % 256 := by
  unfold byteZ
  rw [UInt8.toNat_ofNat', Nat.mod_eq_of_lt (by omega)]
  omega
theorem textD_size (D : List Int) : (textD D).size = D.length := by show (D.map byteZ).toArray.size = _; rw [List.size_toArray, List.length_map]
theorem wrap_u8 (z : Int) : IntKind.u8.wrap z = z % 256 := by simp [IntKind.wrap, IntKind.bits, IntKind.signed]
/-- A byte as a number of eight bits. -/
def i8 (b : UInt8) : Int := if b.toNat < 128 then b.toNat else b.toNat - 256
theorem wrap_i8_all : ∀ n : Fin 256, IntKind.i8.wrap ((n.1 : Nat) : Int) = if n.1 < 128 then (n.1 : Int) else (n.1 : Int) - 256 := by decide +kernel
theorem wrap_i8 (b : UInt8) : IntKind.i8.wrap (b.toNat : Int) = i8 b := wrap_i8_all ⟨b.toNat, UInt8.toNat_lt b⟩
theorem byteZ_i8 (b : UInt8) : byteZ (i8 b) = b := by
  have hb := UInt8.toNat_lt b
  apply UInt8.toNat_inj.1
  have h1 := byteZ_toNat (i8 b)
  have h2 : i8 b % 256 = (b.toNat : Int) := by
    unfold i8
    split <;> omega
  omega
def listD (s : ByteArray) : List Int := s.data.toList.map i8
theorem listD_length (s : ByteArray) : (listD s).length = s.size := by unfold listD; rw [List.length_map, Array.length_toList]; rfl
theorem textD_listD (s : ByteArray) : textD (listD s) = s := by
  unfold textD listD
  rw [List.map_map]
  have : (byteZ ∘ i8) = id := by funext b; exact byteZ_i8 b
  rw [this, List.map_id]
theorem listD_at (s : ByteArray) (i : Nat) (h : i < s.size) : (listD s).getD i 0 = i8 (s[i]'h) := by
  unfold listD
  have hl : i < s.data.toList.length := h
  rw [List.getD_eq_getElem?_getD, List.getElem?_map, List.getElem?_eq_getElem hl]
  rfl
theorem i8_in (b : UInt8) : -128 ≤ i8 b ∧ i8 b ≤ 127 := by
  have := UInt8.toNat_lt b
  unfold i8
  split <;> omega
theorem listD_I8 (s : ByteArray) : I8 (listD s) := fun i hi => by
  rw [listD_at s i (by rw [listD_length] at hi; exact hi)]
  exact i8_in _
theorem textD_at (D : List Int) (i : Nat) (h : i < D.length) : ((textD D)[i]'(by rw [textD_size]; exact h)).toNat = (D.getD i 0 % 256).toNat := by
  have : (textD D)[i]'(by rw [textD_size]; exact h) = byteZ (D.getD i 0) := by
    have hl : i < (D.map byteZ).length := by simpa using h
    show (D.map byteZ).toArray[i]'(by simpa using h) = _
    rw [List.getElem_toArray, List.getElem_map, List.getD_eq_getElem?_getD, List.getElem?_eq_getElem h]
    rfl
  rw [this]
  have := byteZ_toNat (D.getD i 0)
  omega
theorem textD_wrap (D : List Int) (i : Nat) (h : i < (textD D).size) : (((textD D)[i]'h).toNat : Int) = IntKind.u8.wrap (D.getD i 0) := by
  have h2 : i < D.length := by rw [textD_size] at h; exact h
  have := textD_at D i h2
  rw [wrap_u8]
  omega
def bcells (l : List UInt8) : List Value := l.map fun b => Value.int .u8 (b.toNat : Int)
theorem bcells_length (l : List UInt8) : (bcells l).length = l.length := by simp [bcells]
theorem foldl_push (ns : List UInt8) : ∀ r : ByteArray, ns.foldl (fun r b => r.push b) r = ⟨(r.data.toList ++ ns).toArray⟩ := by
  induction ns with
  | nil => intro r; simp
  | cons a ns ih =>
    intro r
    rw [List.foldl_cons, ih]
    simp [ByteArray.push]
theorem foldl_push_int (ns : List UInt8) (r : ByteArray) : (ns.map fun b => (b.toNat : Int)).foldl (fun r n => r.push (UInt8.ofNat n.toNat)) r = ns.foldl (fun r b => r.push b) r := by
  rw [List.foldl_map]
  congr 1
  funext r b
  rw [Int.toNat_natCast, UInt8.ofNat_toNat]
/-- A slice of bytes as a string. -/
theorem run_text8 (w : World) (a : Addr) (n cap : Nat) (l : List UInt8) (hn : n = l.length) (h : ∀ j u, (bcells l)[j]? = some u → w.cell? (a.add j) = some u) :
    (convert 53 9 (.slice (some a) n cap)).run Try.prog w = .ok (.string ⟨l.toArray⟩) w := by
  subst hn
  rw [run_convert_bytes_string w _ _ 5 _ l.length cap Try.underlying53 Try.underlying5 Try.underlying9]
  have hl := run_loadCells_list (P := Try.prog) w a (bcells l) h
  have e : bcells l = (l.map fun b => (b.toNat : Int)).map (Value.int .u8) := by simp [bcells, List.map_map, Function.comp_def]
  rw [bcells_length] at hl
  rw [e] at hl
  rw [run_bytesToString w a l.length cap (l.map fun b => (b.toNat : Int)) hl, foldl_push_int, foldl_push]
  simp
theorem run_textD {w : World} {g n cap : Nat} {t : TypeId} {D : List Int} (h : w.rowIs g t n (prt .u8 (D.map (· % 256)) n)) (hn : n = D.length) :
    (convert 53 9 (.slice (some ⟨g, 0, none⟩) n cap)).run Try.prog w = .ok (.string (textD D)) w := by
  refine run_text8 w _ n cap (D.map byteZ) (by rw [List.length_map, hn]) fun j x hj => ?_
  have hl := (List.getElem?_eq_some_iff.1 hj).1
  rw [bcells_length, List.length_map] at hl
  rw [Addr.add_lit, Nat.zero_add, h.cell (by omega), prt_all _ _ _ _ (by omega), ← hj]
  unfold bcells
  rw [List.getElem?_map, List.getElem?_map, List.getElem?_eq_getElem hl, List.getD_eq_getElem?_getD, List.getElem?_map, List.getElem?_eq_getElem hl]
  show _ = some (Value.int .u8 ((byteZ D[j]).toNat : Int))
  rw [byteZ_toNat]
  rfl
end Vc
end Go.Proofs.Ytiehpaffbaafcaa
