/-
  The reference of layer 8: Parse. Conditions: n from 1 to 1024.
-/
import Derived.Test.YtmihladhopjloaaRef08
import Derived.Test.YtmihladhopjloaaBuildNone
namespace Go.Proofs.Ytmihladhopjloaa
open Go.ChangeShapes Go.WideShapes Go.ChangeAt Go.RowKit Bt

namespace Bt
theorem bit_of8 : ∀ (X : Fin 256) (r : Fin 8), bits .and .u8 ((X.val : Int) / 2 ^ r.val) 1 = if X.val.testBit r.val then 1 else 0 := by decide +kernel
/-- The bit of a byte, as the reference asks it. -/
theorem bit_asked (x : UInt8) (r : Nat) (hr : r < 8) : (bits .and .u8 ((x.toNat : Int) / 2 ^ r) 1 == 1) = x.toNat.testBit r := by
  rw [bit_of8 ⟨x.toNat, UInt8.toNat_lt x⟩ ⟨r, hr⟩]
  cases h : x.toNat.testBit r <;> simp
theorem over_of {n : Nat} {t : ByteArray} (h1 : 1 ≤ n) (ht : t.size = szB n) {k : Nat} (hk : n ≤ k) (h : tb t k = true) : overB n t = true := by
  cases ho : overB n t with
  | true => rfl
  | false => exact absurd (tb_low h1 ht ho k h) (by omega)
theorem not_over {n : Nat} {t : ByteArray} (h1 : 1 ≤ n) (h : ∀ k, n ≤ k → k < 8 * szB n → tb t k = false) : overB n t = false := by
  cases ho : overB n t with
  | false => rfl
  | true =>
    obtain ⟨k, a, b, c⟩ := tb_over h1 ho
    rw [h k a b] at c
    cases c
def ucells (u : Nat → Bool) (n : Nat) : List Value := (List.range n).map fun k => .bool (u k)
theorem ucells_length (u : Nat → Bool) (n : Nat) : (ucells u n).length = n := by simp [ucells]
theorem ucells_next (u : Nat → Bool) (n : Nat) : ucells u (n + 1) = ucells u n ++ [.bool (u n)] := by unfold ucells; rw [List.range_succ, List.map_append]; rfl
theorem ucells_at (u : Nat → Bool) (n j : Nat) (h : j < n) : (ucells u n)[j]? = some (.bool (u j)) := by simp [ucells, h]
theorem one_srcU (w : World) (c : Bool) : ∀ j u, ([.bool c] : List Value)[j]? = some u → (w.alloc (.cells #[.bool c] 4)).cell? ((⟨w.heap.size, 0, none⟩ : Addr).add j) = some u := fun j u hj => by
  rw [Addr.add_lit, Nat.zero_add, cell_of_row _ _ _ _ _ _ (heap_alloc_new w _), ← hj]
  exact List.getElem?_toArray
theorem one_oneU (c : Bool) : ∀ u ∈ ([.bool c] : List Value), u.oneCell' = true := fun u hu => by
  obtain rfl := List.mem_singleton.1 hu
  rfl
theorem info_boolB : (Try.prog.info? 4).map (fun i => (i.zero, i.size, i.bytes)) = some (some (.bool false), 1, 1) := by kernel_rfl
theorem own_bools {w : World} {base n cap : Nat} {A : Option Addr} {u : Nat → Bool} (h : w.ownsRow base 4 1 (.slice A n cap) n (ucells u n)) : BoolsInB w A n u := fun h0 => by
  rcases h.2 with ⟨_, hz⟩ | ⟨g, c, cur, hv, _⟩
  · omega
  · injection hv with hA _ _
    subst hA
    refine ⟨g, 0, rfl, fun k hk => ?_⟩
    have h2 := h.cells (g := g) rfl k _ (ucells_at u n k hk)
    rwa [Addr.add_lit] at h2
end Bt
section
variable (w : World) (n : Nat) (h1 : 1 ≤ n) (h2 : n ≤ 1024) (t : ByteArray)
include h1 h2
set_option maxRecDepth 100000 in
theorem ref8_parse_size (ht : t.size ≠ szB n) : Calls Try.prog 20 #[.int .i64 (n : Int), .string t] w fun e w' => e = .returned (.tuple #[.slice none 0 0, .bool false]) ∧ w = w' := by
  have e7 : ((n : Int) + 7) / 8 = ((szB n : Nat) : Int) := by unfold szB; omega
  have e1 : ((t.size : Int) != ((n : Int) + 7) / 8) = true := bne_iff_ne.2 (by omega)
  clear e7 ht
  go_enter Try.func20, Try.ntmps20
  go_wp2_with (fail)
  refine bodyPost_ret (results_tmp2 rfl _ _ _) rfl ?_
  exact ⟨rfl, rfl⟩
set_option maxRecDepth 100000 in
set_option maxHeartbeats 3200000 in
theorem ref8_parse (ht : t.size = szB n) : Calls Try.prog 20 #[.int .i64 (n : Int), .string t] w fun e w' => Below w.heap.size w w' ∧
    (overB n t = true ∧ e = .returned (.tuple #[.slice none 0 0, .bool false]) ∨ overB n t = false ∧ ∃ A cap, e = .returned (.tuple #[.slice A n cap, .bool true]) ∧ BoolsInB w' A n (tb t)) := by
  obtain ⟨i0, hi, hz0, hz1, hz2⟩ := info_parts info_boolB
  have HI := Lib.hid hi
  have HZ0 := Lib.hid hz0
  have HZ1 := Lib.hid hz1
  have HZ2 := Lib.hid hz2
  have HO1 := Lib.hid (fun (k : Nat) (hk : n ≤ k) (h : tb t k = true) => over_of h1 ht hk h)
  have HO2 := Lib.hid (fun (h : ∀ k, n ≤ k → k < 8 * szB n → tb t k = false) => not_over h1 h)
  have HTB := Lib.hid (show ∀ (k j : Nat) (hj : j < t.size), k / 8 = j → (bits .and .u8 (((t[j]'hj).toNat : Int) / 2 ^ (k % 8)) 1 == 1) = tb t k from fun k j hj e => by
    rw [bit_asked _ _ (by omega)]
    unfold tb
    rw [e, getD_at t j hj])
  have e1 : ((t.size : Int) != ((n : Int) + 7) / 8) = false := bne_eq_false_iff_eq.2 (by rw [ht]; unfold szB; omega)
  have hm : szB n ≤ 128 := by unfold szB; omega
  have hn8 : n ≤ 8 * szB n := by unfold szB; omega
  have z0 : (t.size : Int) = (szB n : Int) := by omega
  have HZ := Lib.hid ht
  clear ht hi hz0 hz1 hz2
  generalize szB n = m at HO2 hm hn8 z0 HZ
  go_enter Try.func20, Try.ntmps20
  go_wp2_with (refine wpList_buildNone rfl 26 4 rfl i0 Try.underlying26 HI.out ?_)
  clear e1
  go_loopw [6, 7] (fun r i wr => ∃ (k : Nat) (A : Option Addr) (c : Nat), i = .int .i64 (k : Int) ∧ k ≤ 8 * m ∧ r = .slice A (min k n) c ∧ wr.ownsRow w.heap.size 4 1 r (min k n) (ucells (tb t) (min k n)) ∧ (∀ j, n ≤ j → j < k → tb t j = false) ∧ Below w.heap.size w wr) (fun _ i _ => match i with | .int _ k => 8 * m - k.toNat | _ => 0)
  case atStart => exact ⟨0, _, 0, rfl, Nat.zero_le _, by rw [Nat.zero_min], ⟨by rw [Nat.zero_min]; rfl, .inr ⟨w.heap.size, 0, #[], by rw [Nat.zero_min], Nat.le_refl _, heap_alloc_new w _, by rw [Nat.zero_min]; omega, by unfold maxLen; omega, rfl, by rw [Nat.zero_min]; rfl⟩⟩, fun j _ hj => by omega, (Below.refl _ _).alloc (Nat.le_refl _) _⟩
  case round =>
    obtain ⟨k, A, c, rfl, hk, rfl, hown, hz, hb⟩ := hrel
    have HO := Lib.hid hown
    have HB := Lib.hid hb
    have HZF := Lib.hid hz
    clear hown hb hz
    have x2 : 0 ≤ (k : Int) := by omega
    by_cases hlt : k < 8 * m
    · have x0 : (k : Int) < 8 * (m : Int) := by omega
      have x1 : decide ((k : Int) < 8 * (m : Int)) = true := decide_eq_true x0
      have hjm : k / 8 < m := by omega
      have hj : k / 8 < t.size := by rw [HZ.out]; exact hjm
      have hbit := HTB.out k (k / 8) hj rfl
      have k1 : (k : Int) / 8 = ((k / 8 : Nat) : Int) := by omega
      have hsz := HB.out.size
      generalize k / 8 = j at k1 hj hjm hbit
      have k2 : 0 ≤ (j : Int) := by omega
      have k3 : (j : Int) < (m : Int) := by omega
      cases hu : tb t k with
      | true =>
        rw [hu] at hbit
        by_cases hn : n ≤ k
        · have HV := Lib.hid (HO1.out k hn hu)
          have y0 : (n : Int) ≤ (k : Int) := by omega
          have y1 : decide ((n : Int) ≤ (k : Int)) = true := decide_eq_true y0
          clear hu
          go_wp2_with (fail)
          refine bodyPost_ret (results_tmp2 rfl _ _ _) rfl ?_
          exact ⟨HB.out, .inl ⟨HV.out, rfl⟩⟩
        · have y0 : ¬ (n : Int) ≤ (k : Int) := by omega
          have y1 : decide ((n : Int) ≤ (k : Int)) = false := decide_eq_false y0
          have y2 : (k : Int) < (n : Int) := by omega
          have y3 : decide ((k : Int) < (n : Int)) = true := decide_eq_true y2
          have hmin : min k n = k := by omega
          have HM1 := Lib.hid (show min (k + 1) n = k + 1 by omega)
          have HZN := Lib.hid (show ∀ j, n ≤ j → j < k + 1 → tb t j = false from fun j a b => by omega)
          have hnx := ucells_next (tb t) k
          rw [hu] at hnx
          have HNX := Lib.hid hnx
          rw [hmin] at HO ⊢
          clear hu hmin hnx hn
          go_wp2_with (at_builtin; refine wpList_append_lies _ rfl (.tmp 41) (.tmp 43) 26 rfl w.heap.size 4 i0 _ 1 1 Try.underlying26 HI.out HZ0.out HZ1.out HZ2.out rfl (by omega) (.slice A k c) k _ rfl (HO.out.alloc _) ⟨wr.heap.size, 0, none⟩ 1 1 [.bool true] rfl rfl (one_srcU wr true) (one_oneU true) (by omega) (by unfold maxLen; omega) (by omega) (by simp; omega) _ rfl ?_; intro g4 c4 w4 hown4 hg4 hwh4 hl4)
          have HB4 := Lib.hid ((HB.out.alloc hsz (.cells #[.bool true] 4)).grown hg4 (by simp; omega) (fun i hi => (HO.out.lt i hi).1))
          rw [← HNX.out] at hown4
          have HO4 := Lib.hid hown4
          clear hown4 hg4 hwh4
          go_wp2_with (fail)
          exact ⟨⟨k + 1, _, c4, rfl, by omega, by rw [HM1.out], by rw [HM1.out]; exact HO4.out, HZN.out, HB4.out⟩, by show 8 * m - ((k : Int) + 1).toNat < 8 * m - (k : Int).toNat; omega⟩
      | false =>
        rw [hu] at hbit
        by_cases hn : n ≤ k
        · have y0 : (n : Int) ≤ (k : Int) := by omega
          have y1 : decide ((n : Int) ≤ (k : Int)) = true := decide_eq_true y0
          have y2 : ¬ (k : Int) < (n : Int) := by omega
          have y3 : decide ((k : Int) < (n : Int)) = false := decide_eq_false y2
          have HM0 := Lib.hid (show min k n = n by omega)
          have HM1 := Lib.hid (show min (k + 1) n = n by omega)
          have HU := Lib.hid hu
          have HZN := Lib.hid (show ∀ j, n ≤ j → j < k + 1 → tb t j = false from fun j a b => (show j < k ∨ j = k by omega).elim (HZF.out j a) fun e => by rw [e]; exact HU.out)
          rw [HM0.out] at HO ⊢
          clear hu hn HU
          go_wp2_with (fail)
          exact ⟨⟨k + 1, A, c, rfl, by omega, by rw [HM1.out], by rw [HM1.out]; exact HO.out, HZN.out, HB.out⟩, by show 8 * m - ((k : Int) + 1).toNat < 8 * m - (k : Int).toNat; omega⟩
        · have y0 : ¬ (n : Int) ≤ (k : Int) := by omega
          have y1 : decide ((n : Int) ≤ (k : Int)) = false := decide_eq_false y0
          have y2 : (k : Int) < (n : Int) := by omega
          have y3 : decide ((k : Int) < (n : Int)) = true := decide_eq_true y2
          have hmin : min k n = k := by omega
          have HM1 := Lib.hid (show min (k + 1) n = k + 1 by omega)
          have HZN := Lib.hid (show ∀ j, n ≤ j → j < k + 1 → tb t j = false from fun j a b => by omega)
          have hnx := ucells_next (tb t) k
          rw [hu] at hnx
          have HNX := Lib.hid hnx
          rw [hmin] at HO ⊢
          clear hu hmin hnx hn
          go_wp2_with (at_builtin; refine wpList_append_lies _ rfl (.tmp 41) (.tmp 43) 26 rfl w.heap.size 4 i0 _ 1 1 Try.underlying26 HI.out HZ0.out HZ1.out HZ2.out rfl (by omega) (.slice A k c) k _ rfl (HO.out.alloc _) ⟨wr.heap.size, 0, none⟩ 1 1 [.bool false] rfl rfl (one_srcU wr false) (one_oneU false) (by omega) (by unfold maxLen; omega) (by omega) (by simp; omega) _ rfl ?_; intro g4 c4 w4 hown4 hg4 hwh4 hl4)
          have HB4 := Lib.hid ((HB.out.alloc hsz (.cells #[.bool false] 4)).grown hg4 (by simp; omega) (fun i hi => (HO.out.lt i hi).1))
          rw [← HNX.out] at hown4
          have HO4 := Lib.hid hown4
          clear hown4 hg4 hwh4
          go_wp2_with (fail)
          exact ⟨⟨k + 1, _, c4, rfl, by omega, by rw [HM1.out], by rw [HM1.out]; exact HO4.out, HZN.out, HB4.out⟩, by show 8 * m - ((k : Int) + 1).toNat < 8 * m - (k : Int).toNat; omega⟩
    · have hke : k = 8 * m := by omega
      have HV := Lib.hid (HO2.out (fun j a b => HZF.out j a (by omega)))
      have x0 : ¬ (k : Int) < 8 * (m : Int) := by omega
      have x1 : decide ((k : Int) < 8 * (m : Int)) = false := decide_eq_false x0
      have hmin : min k n = n := by omega
      rw [hmin] at HO ⊢
      have HBI := Lib.hid (own_bools HO.out)
      clear hlt hke hmin
      go_wp2_with (fail)
      refine bodyPost_ret (results_tmp2 rfl _ _ _) rfl ?_
      exact ⟨HB.out, .inr ⟨HV.out, A, ⟨c, rfl⟩, HBI.out⟩⟩
end
end Go.Proofs.Ytmihladhopjloaa
