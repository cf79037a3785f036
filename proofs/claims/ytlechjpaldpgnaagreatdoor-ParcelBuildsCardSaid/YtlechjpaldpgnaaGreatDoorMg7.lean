/-
  Both tables of package sha lie where the program looks. No conditions.
  The program's sums (package sha): a sum as digits. No conditions.
  The document's own examples of layer 2, reckoned: the sums of "abc" and of nothing. No program here. No conditions.
  The document's own examples of layer 2, which each statement of it asks first. Conditions: both tables lie as the program's text lays them.
  The program's sums (package sha): the sum of texts that lie in a row of their own. Conditions: both tables lie as the program's text lays them.
  The program's sums (package sha): the pair of two sums. Condition: both tables lie as the program's text lays them.
-/
import Derived.Test.YtlechjpaldpgnaaGreatDoorMg6
import Derived.Deep.RegionHeld3
set_option maxRecDepth 100000
namespace Go.Proofs.YtlechjpaldpgnaaGreatDoor
open Go.ChangeShapes Go.WideShapes Go.ChangeAt Go.RowKit Sh

/-- Both tables lie where the program looks. -/
structure Tabs (w : World) : Prop where
  f : FOn w
  k : KOn w
theorem Tabs.below {w w' : World} (h : Tabs w) (b : Below w.heap.size w w') : Tabs w' := ⟨h.f.below b, h.k.below h.k.lt b⟩
end Go.Proofs.YtlechjpaldpgnaaGreatDoor
namespace Go.Proofs.YtlechjpaldpgnaaGreatDoor
open Go.ChangeShapes Go.WideShapes Go.ChangeAt Go.RowKit Sh

end Go.Proofs.YtlechjpaldpgnaaGreatDoor
namespace Go.Proofs.YtlechjpaldpgnaaGreatDoor
namespace Sh
theorem t1 : wAt (word (byteAt (padded [97, 98, 99]))) 63 = 0x12b1edeb := by decide +kernel
theorem abc_text : textOf (sumByte (sumSt [97, 98, 99])) 32 = [98, 97, 55, 56, 49, 54, 98, 102, 56, 102, 48, 49, 99, 102, 101, 97, 52, 49, 52, 49, 52, 48, 100, 101, 53, 100, 97, 101, 50, 50, 50, 51, 98, 48, 48, 51, 54, 49, 97, 51, 57, 54, 49, 55, 55, 97, 57, 99, 98, 52, 49, 48, 102, 102, 54, 49, 102, 50, 48, 48, 49, 53, 97, 100] := by decide +kernel
theorem nil_text : textOf (sumByte (sumSt [])) 32 = [101, 51, 98, 48, 99, 52, 52, 50, 57, 56, 102, 99, 49, 99, 49, 52, 57, 97, 102, 98, 102, 52, 99, 56, 57, 57, 54, 102, 98, 57, 50, 52, 50, 55, 97, 101, 52, 49, 101, 52, 54, 52, 57, 98, 57, 51, 52, 99, 97, 52, 57, 53, 57, 57, 49, 98, 55, 56, 53, 50, 98, 56, 53, 53] := by decide +kernel
end Sh
end Go.Proofs.YtlechjpaldpgnaaGreatDoor
namespace Go.Proofs.YtlechjpaldpgnaaGreatDoor
open Go.ChangeShapes Go.WideShapes Go.ChangeAt Go.RowKit Sh

end Go.Proofs.YtlechjpaldpgnaaGreatDoor
namespace Go.Proofs.YtlechjpaldpgnaaGreatDoor
open Go.ChangeShapes Go.WideShapes Go.ChangeAt Go.RowKit Sh

theorem of_strs (ss : List ByteArray) (l : List UInt8) (hl : flat ss = l) (g n cap : Nat) (w : World) (hn : n = ss.length) (hnb : n ≤ 1000) (hc : ∀ k, k < n → w.cell? ⟨g, k, none⟩ = some (.string (ss.getD k ByteArray.empty))) (hT : Tabs w) (hM : l.length < 72057594037927936) :
    Calls Tryz.prog 62 #[.slice (some ⟨g, 0, none⟩) n cap] w fun e w' => e = .returned (.agg (digF (sumF l))) ∧ Below w.heap.size w w' :=
  of_here ss l hl w _ n cap hn (by omega) (fun _ => ⟨g, 0, rfl, fun k hk => by rw [Nat.zero_add]; exact hc k hk⟩) hT.f hT.k hM
theorem extract_list (s : ByteArray) (i j : Nat) : (s.extract i j).data.toList = (s.data.toList.take j).drop i := by
  rw [ByteArray.data_extract, Array.toList_extract, List.extract_eq_take_drop, List.drop_take]
theorem parts_two (s : ByteArray) (i : Nat) : flat [s.extract 0 i, s.extract i s.size] = s.data.toList := by
  have h : s.data.toList.length = s.size := rfl
  simp only [flat, List.flatMap_cons, List.flatMap_nil, List.append_nil, extract_list, List.drop_zero]
  rw [← h, List.take_length, List.take_append_drop]
theorem parts_four (s : ByteArray) (i k : Nat) (hik : i ≤ k) : flat [s.extract 0 i, s.extract i k, ⟨#[]⟩, s.extract k s.size] = s.data.toList := by
  have h : s.data.toList.length = s.size := rfl
  simp only [flat, List.flatMap_cons, List.flatMap_nil, List.append_nil, extract_list, List.drop_zero]
  rw [← h, List.take_length, List.nil_append, ← List.append_assoc]
  have e : s.data.toList.take i ++ (s.data.toList.take k).drop i = s.data.toList.take k := by
    conv => rhs; rw [← List.take_append_drop i (s.data.toList.take k)]
    rw [List.take_take, Nat.min_eq_left hik]
  rw [e, List.take_append_drop]
theorem flat_one (s : ByteArray) : flat [s] = s.data.toList := by simp [flat]
end Go.Proofs.YtlechjpaldpgnaaGreatDoor
namespace Go.Proofs.YtlechjpaldpgnaaGreatDoor
open Go.ChangeShapes Go.WideShapes Go.ChangeAt Go.RowKit Sh

end Go.Proofs.YtlechjpaldpgnaaGreatDoor
