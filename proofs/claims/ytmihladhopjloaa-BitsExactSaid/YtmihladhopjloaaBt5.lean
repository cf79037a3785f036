/-
  Package bits: what Text answers: the bits as bytes. Conditions: the set stands in its block, of 1 to 1024 numbers.
-/
import Derived.Test.YtmihladhopjloaaBt4
import Derived.Laws.BytesString
import Derived.StillTailTactics
namespace Go.Proofs.Ytmihladhopjloaa
open Go.ChangeShapes Go.WideShapes Go.ChangeAt Go.RowKit Bt

namespace Bt
def bcellsB (l : List UInt8) : List Value := l.map fun b => Value.int .u8 (b.toNat : Int)
theorem bcellsB_length (l : List UInt8) : (bcellsB l).length = l.length := by simp [bcellsB]
theorem foldl_pushB (ns : List UInt8) : ∀ r : ByteArray, ns.foldl (fun r b => r.push b) r = ⟨(r.data.toList ++ ns).toArray⟩ := by
  induction ns with
  | nil => intro r; simp
  | cons a ns ih =>
    intro r
    rw [List.foldl_cons, ih]
    simp [ByteArray.push]
theorem foldl_pushB_int (ns : List UInt8) (r : ByteArray) : (ns.map fun b => (b.toNat : Int)).foldl (fun r n => r.push (UInt8.ofNat n.toNat)) r = ns.foldl (fun r b => r.push b) r := by
  rw [List.foldl_map]
  congr 1
  funext r b
  rw [Int.toNat_natCast, UInt8.ofNat_toNat]
/-- A slice of bytes as a string. -/
theorem run_textB (w : World) (a : Addr) (n cap : Nat) (l : List UInt8) (hn : n = l.length) (h : ∀ j u, (bcellsB l)[j]? = some u → w.cell? (a.add j) = some u) :
    (convert 54 9 (.slice (some a) n cap)).run Try.prog w = .ok (.string ⟨l.toArray⟩) w := by
  subst hn
  rw [run_convert_bytes_string w _ _ 5 _ l.length cap Try.underlying54 Try.underlying5 Try.underlying9]
  have hl := run_loadCells_list (P := Try.prog) w a (bcellsB l) h
  have e : bcellsB l = (l.map fun b => (b.toNat : Int)).map (Value.int .u8) := by simp [bcellsB, List.map_map, Function.comp_def]
  rw [bcellsB_length] at hl
  rw [e] at hl
  rw [run_bytesToString w a l.length cap (l.map fun b => (b.toNat : Int)) hl, foldl_pushB_int, foldl_pushB]
  simp
theorem run_set_text {w : World} {b n : Nat} {u : Nat → Bool} (h : w.heap[b]? = some (sobj n u)) (hn : n ≤ 1024) (cap : Nat) :
    (convert 54 9 (.slice (some ⟨b, 1, none⟩) (szB n) cap)).run Try.prog w = .ok (.string (textB n u)) w := by
  refine run_textB w _ (szB n) cap (bytesOf u (szB n)) (bytesOf_length u _).symm fun j x hj => ?_
  have hl := (List.getElem?_eq_some_iff.1 hj).1
  rw [bcellsB_length, bytesOf_length] at hl
  rw [Addr.add_lit, sobj_byte h j (by unfold szB at hl; omega), ← hj]
  unfold bcellsB
  rw [List.getElem?_map, bytesOf_get u _ j hl]
  show _ = some (Value.int .u8 ((UInt8.ofNat (by8 u j)).toNat : Int))
  rw [byte_back]
end Bt
section
variable (w : World) (b n : Nat) (u : Nat → Bool) (hs : w.heap[b]? = some (sobj n u)) (hn : n ≤ 1024)
include hs hn
set_option maxRecDepth 100000 in
set_option maxHeartbeats 1600000 in
theorem bits_text : Calls Try.prog 17 #[.pointer (some ⟨b, 0, none⟩)] w fun e w' => e = .returned (.string (textB n u)) ∧ ∃ m, w' = w.drewN m := by
  have c0 := sobj_n hs
  have hcv := run_set_text (w := w.drew) hs hn 128
  have HSZ := Lib.hid (fun W => bits_size W n (by omega))
  have m1 : szB n ≤ 128 := by unfold szB; omega
  clear hs
  generalize textB n u = q at hcv ⊢
  generalize szB n = m at hcv HSZ m1
  have m2 : 0 ≤ (m : Int) := by omega
  have m3 : (m : Int) ≤ 128 := by omega
  go_enter Try.func17, Try.ntmps17
  go_wp2_with (fail)
  go_still_tail 9, (by kernel_rfl)
  still_call ((HSZ.out _).mono fun _ _ ⟨a, b⟩ => ⟨a, b.symm⟩)
  repeat still_step
  refine wpStill_nil ?_
  change wpList _ _ _ _ _ w.drew
  go_wp2_with (fail)
  refine bodyPost_ret (results_tmp rfl _ _ _) rfl ?_
  exact ⟨rfl, 1, rfl⟩
end
end Go.Proofs.Ytmihladhopjloaa
