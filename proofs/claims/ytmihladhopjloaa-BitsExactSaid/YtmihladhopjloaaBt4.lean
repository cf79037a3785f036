/-
  Package bits: what Row and Count answer: all that are there, rising. Conditions: the set stands in its block, of at most 1024 numbers.
-/
import Derived.Test.YtmihladhopjloaaBt3
import Derived.Lib.AppendStr
import Derived.OwnWalk
import Derived.Laws.OwnMore
import Derived.Deep.AppendLies
namespace Go.Proofs.Ytmihladhopjloaa
open Go.ChangeShapes Go.WideShapes Go.ChangeAt Go.RowKit Bt

namespace Bt
/-- The numbers below n that are there, rising. -/
def rowL (u : Nat → Bool) (n : Nat) : List Nat := (List.range n).filter u
theorem rowL_next (u : Nat → Bool) (n : Nat) : rowL u (n + 1) = if u n then rowL u n ++ [n] else rowL u n := by
  unfold rowL
  rw [List.range_succ, List.filter_append]
  cases h : u n <;> simp [h]
theorem rowL_length (u : Nat → Bool) (n : Nat) : (rowL u n).length ≤ n := by
  have := List.length_filter_le u (List.range n)
  rwa [List.length_range] at this
def rcells (l : List Nat) : List Value := l.map fun k : Nat => .int .i64 (k : Int)
theorem rcells_length (l : List Nat) : (rcells l).length = l.length := by simp [rcells]
theorem rcells_add (l : List Nat) (k : Nat) : rcells (l ++ [k]) = rcells l ++ [.int .i64 (k : Int)] := by simp [rcells]
theorem rcells_at (l : List Nat) (j : Nat) (h : j < l.length) : (rcells l)[j]? = some (.int .i64 (l.getD j 0 : Int)) := by simp [rcells, h]
theorem own_formB {w : World} {base : Nat} {e : TypeId} {size n : Nat} {v : Value} {xs : List Value} (h : w.ownsRow base e size v n xs) (hv : v ≠ .slice none 0 0) : ∃ g cap, v = .slice (some ⟨g, 0, none⟩) n cap ∧ base ≤ g := by
  rcases h.2 with ⟨hn, _⟩ | ⟨g, cap, cur, rfl, hb, _⟩
  · exact absurd hn hv
  · exact ⟨g, cap, rfl, hb⟩
/-- A row that one owns is a slice. -/
theorem own_sliceB {w : World} {base : Nat} {e : TypeId} {size n : Nat} {v : Value} {xs : List Value} (h : w.ownsRow base e size v n xs) : ∃ A cap, v = .slice A n cap := by
  rcases h.2 with ⟨hn, h0⟩ | ⟨g, cap, cur, rfl, hb, _⟩
  · exact ⟨none, 0, by rw [hn, h0]⟩
  · exact ⟨_, cap, rfl⟩
theorem own_belowB {w w' : World} {B : Nat} {base : Nat} {e : TypeId} {size n : Nat} {v : Value} {xs : List Value} (h : w.ownsRow base e size v n xs) (hb : Below B w w') (hB : w.heap.size ≤ B) : w'.ownsRow base e size v n xs := by
  refine ⟨h.1, ?_⟩
  rcases h.2 with hn | ⟨g, cap, cur, hv, h1, hg, r⟩
  · exact .inl hn
  · exact .inr ⟨g, cap, cur, hv, h1, (hb.block g (by have := (Array.getElem?_eq_some_iff.1 hg).1; omega)).trans hg, r⟩
theorem one_srcB (w : World) (c : Int) : ∀ j u, ([.int .i64 c] : List Value)[j]? = some u → (w.alloc (.cells #[.int .i64 c] 3)).cell? ((⟨w.heap.size, 0, none⟩ : Addr).add j) = some u := fun j u hj => by
  rw [Addr.add_lit, Nat.zero_add, cell_of_row _ _ _ _ _ _ (heap_alloc_new w _), ← hj]
  exact List.getElem?_toArray
theorem one_oneB (c : Int) : ∀ u ∈ ([.int .i64 c] : List Value), u.oneCell' = true := fun u hu => by
  obtain rfl := List.mem_singleton.1 hu
  rfl
theorem info_intB : (Try.prog.info? 3).map (fun i => (i.zero, i.size, i.bytes)) = some (some (.int .i64 0), 1, 8) := by kernel_rfl
/-- A row of numbers that one owns. -/
def RowSays (w : World) (L : List Nat) (e : Ending) (w' : World) : Prop := ∃ A cap, e = .returned (.slice A L.length cap) ∧ w'.ownsRow w.heap.size 3 1 (.slice A L.length cap) L.length (rcells L) ∧ Below w.heap.size w w'
end Bt
section
variable (w : World) (b n : Nat) (u : Nat → Bool) (hs : w.heap[b]? = some (sobj n u)) (hn : n ≤ 1024)
include hs hn
set_option maxRecDepth 100000 in
set_option maxHeartbeats 1600000 in
theorem bits_row : Calls Try.prog 13 #[.pointer (some ⟨b, 0, none⟩)] w (RowSays w (rowL u n)) := by
  have HLN := Lib.hid (bits_len w b n u hs)
  have HH := Lib.hid (fun (W : World) (hW : Below w.heap.size w W) k hk => bits_has W b n u (sobj_below hs hW) k hk)
  obtain ⟨i0, hi, hz0, hz1, hz2⟩ := info_parts info_intB
  have HI := Lib.hid hi
  have HZ0 := Lib.hid hz0
  have HZ1 := Lib.hid hz1
  have HZ2 := Lib.hid hz2
  clear hs hi hz0 hz1 hz2
  go_enter Try.func13, Try.ntmps13
  go_wp2_with (fail)
  refine HLN.out.mono ?_
  rintro e w2 ⟨rfl, rfl⟩
  go_wp2_with (fail)
  go_loopw [3, 7] (fun r i wr => ∃ (k : Nat) (A : Option Addr) (c : Nat), i = .int .i64 (k : Int) ∧ k ≤ n ∧ r = .slice A (rowL u k).length c ∧ wr.ownsRow w.heap.size 3 1 r (rowL u k).length (rcells (rowL u k)) ∧ Below w.heap.size w wr) (fun _ i _ => match i with | .int _ k => n - k.toNat | _ => 0)
  case atStart => exact ⟨0, none, 0, rfl, Nat.zero_le _, rfl, ⟨by rw [rcells_length, Nat.mul_one], .inl ⟨rfl, rfl⟩⟩, Below.refl _ _⟩
  case round =>
    obtain ⟨k, A, c, rfl, hk, rfl, hown, hb⟩ := hrel
    have HO := Lib.hid hown
    have HB := Lib.hid hb
    have HLE := Lib.hid (rowL_length u k)
    clear hown hb
    by_cases hlt : k < n
    · have x0 : (k : Int) < (n : Int) := by omega
      have x1 : decide ((k : Int) < (n : Int)) = true := decide_eq_true x0
      have x2 : 0 ≤ (k : Int) := by omega
      have HHX := Lib.hid (HH.out wr HB.out k (by omega))
      have HNX := Lib.hid (rowL_next u k)
      clear HH HLN
      cases hu : u k with
      | true =>
        rw [hu] at HHX HNX
        rw [if_pos rfl] at HNX
        generalize rowL u k = L at HO HLE HNX ⊢
        go_wp2_with (fail)
        refine HHX.out.mono ?_
        rintro e w2 ⟨rfl, m2, rfl⟩
        have HO2 := Lib.hid (show (wr.drewN m2).ownsRow w.heap.size 3 1 (.slice A L.length c) L.length (rcells L) from HO.out)
        have HB2 := Lib.hid (below_drewN HB.out m2)
        clear HO HB HHX
        generalize wr.drewN m2 = w3 at HO2 HB2 ⊢
        have hsz := HB2.out.size
        go_wp2_with (at_builtin; refine wpList_append_lies _ rfl (.tmp 13) (.tmp 15) 27 rfl w.heap.size 3 i0 _ 1 8 Try.underlying27 HI.out HZ0.out HZ1.out HZ2.out rfl (by omega) (.slice A L.length c) L.length _ rfl (HO2.out.alloc _) ⟨w3.heap.size, 0, none⟩ 1 1 [.int .i64 (k : Int)] rfl rfl (one_srcB w3 k) (one_oneB k) (by omega) (by unfold maxLen; have := HLE.out; omega) (by have := HLE.out; omega) (by simp; omega) _ rfl ?_; intro g4 c4 w4 hown4 hg4 hwh4 hl4)
        have HB4 := Lib.hid ((HB2.out.alloc hsz (.cells #[.int .i64 (k : Int)] 3)).grown hg4 (by simp; omega) (fun i hi => (HO2.out.lt i hi).1))
        rw [← rcells_add] at hown4
        have HO4 := Lib.hid hown4
        clear hown4 hg4 hwh4
        go_wp2_with (fail)
        refine ⟨⟨k + 1, _, c4, rfl, by omega, by rw [HNX.out, List.length_append, List.length_singleton], by rw [HNX.out, List.length_append, List.length_singleton]; exact HO4.out, HB4.out⟩, by show n - ((k : Int) + 1).toNat < n - (k : Int).toNat; omega⟩
      | false =>
        rw [hu] at HHX HNX
        rw [if_neg Bool.false_ne_true] at HNX
        go_wp2_with (fail)
        refine HHX.out.mono ?_
        rintro e w2 ⟨rfl, m2, rfl⟩
        go_wp2_with (fail)
        exact ⟨⟨k + 1, A, c, rfl, by omega, by rw [HNX.out], by rw [HNX.out]; exact HO.out, below_drewN HB.out m2⟩, by show n - ((k : Int) + 1).toNat < n - (k : Int).toNat; omega⟩
    · have hke : k = n := by omega
      subst hke
      have x0 : ¬ (k : Int) < (k : Int) := by omega
      have x1 : decide ((k : Int) < (k : Int)) = false := decide_eq_false x0
      clear hlt x0
      go_wp2_with (fail)
      refine bodyPost_ret (results_tmp rfl _ _ _) rfl ?_
      exact ⟨A, c, rfl, HO.out, HB.out⟩
set_option maxRecDepth 100000 in
theorem bits_count : Calls Try.prog 14 #[.pointer (some ⟨b, 0, none⟩)] w fun e w' => e = .returned (.int .i64 ((rowL u n).length : Int)) ∧ Below w.heap.size w w' := by
  have HR := Lib.hid (bits_row w b n u hs hn)
  clear hs hn
  generalize rowL u n = L at HR ⊢
  go_enter Try.func14, Try.ntmps14
  go_wp2_with (fail)
  refine HR.out.mono ?_
  rintro e w2 ⟨A, c, rfl, _, hb⟩
  go_wp2_with (fail)
  refine bodyPost_ret (results_tmp rfl _ _ _) rfl ?_
  exact ⟨rfl, hb⟩
end
end Go.Proofs.Ytmihladhopjloaa
