/-
  The program's sums (package sha): the sum of texts that lie in a row of their own. Conditions: both tables lie as the program's text lays them.
-/
import Derived.Test.YthmpmpofhpkmjaaDoorShaAwake
import Derived.Deep.RegionHeld3
namespace Go.Proofs.YthmpmpofhpkmjaaDoor
open Go.ChangeShapes Go.WideShapes Go.ChangeAt Go.RowKit Sh

theorem of_strs (ss : List ByteArray) (l : List UInt8) (hl : flat ss = l) (g n cap : Nat) (w : World) (hn : n = ss.length) (hnb : n ≤ 1000) (hc : ∀ k, k < n → w.cell? ⟨g, k, none⟩ = some (.string (ss.getD k ByteArray.empty))) (hT : Tabs w) (hM : l.length < 72057594037927936) :
    Calls Tryd.prog 9 #[.slice (some ⟨g, 0, none⟩) n cap] w fun e w' => e = .returned (.agg (digF (sumF l))) ∧ Below w.heap.size w w' :=
  of_here ss l hl w _ n cap hn (by omega) (fun _ => ⟨g, 0, rfl, fun k hk => by rw [Nat.zero_add]; exact hc k hk⟩) hT.f hT.k hM
theorem extract_list (s : ByteArray) (i j : Nat) : (s.extract i j).data.toList = (s.data.toList.take j).drop i := by
  rw [ByteArray.data_extract, Array.toList_extract, List.extract_eq_take_drop, List.drop_take]
theorem parts_two (s : ByteArray) (i : Nat) : flat [s.extract 0 i, s.extract i s.size] = s.data.toList := by
  have h : s.data.toList.length = s.size := rfl
  simp only [flat, List.flatMap_cons, List.flatMap_nil, List.append_nil, extract_list, List.drop_zero]
  rw [← h, List.take_length, List.take_append_drop]
theorem parts_four (s : ByteArray) (i k : Nat) (hik : i ≤ k) : flat [s.extract 0 i, s.extract i k, ⟨#[]⟩, s.extract k s.size] = s.data.toList := by
  have h : s.data.toList.length = s.size := rfl
  simp only [flat, List.flatMap_cons, List.flatMap_nil, List.append_nil, extract_list, List.drop_zero]
  rw [← h, List.take_length, List.nil_append, ← List.append_assoc]
  have e : s.data.toList.take i ++ (s.data.toList.take k).drop i = s.data.toList.take k := by
    conv => rhs; rw [← List.take_append_drop i (s.data.toList.take k)]
    rw [List.take_take, Nat.min_eq_left hik]
  rw [e, List.take_append_drop]
theorem flat_one (s : ByteArray) : flat [s] = s.data.toList := by simp [flat]
end Go.Proofs.YthmpmpofhpkmjaaDoor
