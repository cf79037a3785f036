/-
  Package bits: what Parse answers: the set of a text; nothing, if there is none. Conditions: none.
-/
import Derived.Test.YtmihladhopjloaaBt5
import Derived.Laws.IdiomCopy
import Derived.Deep.MidRow
namespace Go.Proofs.Ytmihladhopjloaa
open Go.ChangeShapes Go.WideShapes Go.ChangeAt Go.RowKit Bt

namespace Bt
/-- The bits of a text. -/
def tb (t : ByteArray) (k : Nat) : Bool := (t.data.toList.getD (k / 8) 0).toNat.testBit (k % 8)
/-- Whether a bit behind the last of n numbers is there, in a text of n's size. -/
def overB (n : Nat) (t : ByteArray) : Bool := decide ((t.data.toList.getD (szB n - 1) 0).toNat / 2 ^ (n - (szB n - 1) * 8) ≠ 0)
theorem getD_at (t : ByteArray) (l : Nat) (h : l < t.size) : t.data.toList.getD l 0 = t[l]'h := by
  have hl : l < t.data.toList.length := h
  rw [List.getD_eq_getElem?_getD, List.getElem?_eq_getElem hl]
  rfl
theorem tb_by8 (t : ByteArray) (j : Nat) : by8 (tb t) j = (t.data.toList.getD j 0).toNat := by
  refine by8_of_bits _ (UInt8.toNat_lt _) _ _ fun e he => ?_
  unfold tb
  rw [show (8 * j + e) / 8 = j by omega, show (8 * j + e) % 8 = e by omega]
theorem tb_low {n : Nat} {t : ByteArray} (h1 : 1 ≤ n) (ht : t.size = szB n) (h : overB n t = false) : Low n (tb t) := fun k hk => by
  unfold tb at hk
  have hsz : t.data.toList.length = szB n := ht
  have hj : k / 8 < szB n := by
    rcases Nat.lt_or_ge (k / 8) (szB n) with h | h
    · exact h
    · rw [List.getD_eq_getElem?_getD, List.getElem?_eq_none (by omega)] at hk
      simp at hk
  rcases Nat.lt_or_ge k n with hlt | hge
  · exact hlt
  have hk8 : k / 8 = szB n - 1 := by unfold szB at *; omega
  unfold overB at h
  have h0 : (t.data.toList.getD (szB n - 1) 0).toNat / 2 ^ (n - (szB n - 1) * 8) = 0 := by simpa using h
  rw [hk8] at hk
  have hb := Nat.ge_two_pow_of_testBit hk
  have hle : 2 ^ (n - (szB n - 1) * 8) ≤ 2 ^ (k % 8) := Nat.pow_le_pow_right (by omega) (by omega)
  have := (Nat.div_eq_zero_iff).1 h0
  rcases this with h | h
  · have := Nat.pow_pos (n := n - (szB n - 1) * 8) (show 0 < 2 by omega); omega
  · omega
/-- Where bits behind the last number are there, no set has the text. -/
theorem tb_over {n : Nat} {t : ByteArray} (h1 : 1 ≤ n) (h : overB n t = true) : ∃ k, n ≤ k ∧ k < 8 * szB n ∧ tb t k = true := by
  unfold overB at h
  have h0 := of_decide_eq_true h
  have hx := UInt8.toNat_lt (t.data.toList.getD (szB n - 1) 0)
  have hs : 1 ≤ szB n := by unfold szB; omega
  generalize hX : (t.data.toList.getD (szB n - 1) 0).toNat = X at h0 hx
  obtain ⟨i, hi⟩ := Nat.exists_testBit_of_ne_zero h0
  rw [Nat.testBit_div_two_pow] at hi
  have hi8 : i + (n - (szB n - 1) * 8) < 8 := by
    rcases Nat.lt_or_ge (i + (n - (szB n - 1) * 8)) 8 with h | h
    · exact h
    · rw [Nat.testBit_lt_two_pow (Nat.lt_of_lt_of_le hx (Nat.pow_le_pow_right (n := 2) (i := 8) (by omega) h))] at hi
      cases hi
  refine ⟨8 * (szB n - 1) + (i + (n - (szB n - 1) * 8)), by omega, by omega, ?_⟩
  unfold tb
  rw [show (8 * (szB n - 1) + (i + (n - (szB n - 1) * 8))) / 8 = szB n - 1 by omega, show (8 * (szB n - 1) + (i + (n - (szB n - 1) * 8))) % 8 = i + (n - (szB n - 1) * 8) by omega, hX]
  exact hi
theorem text_tb {n : Nat} {t : ByteArray} (ht : t.size = szB n) : textB n (tb t) = t := by
  have hl : t.data.toList.length = szB n := ht
  have : bytesOf (tb t) (szB n) = t.data.toList := by
    apply List.ext_getElem?
    intro j
    by_cases hj : j < szB n
    · rw [bytesOf_get _ _ _ hj, tb_by8, List.getElem?_eq_getElem (by omega), List.getD_eq_getElem?_getD, List.getElem?_eq_getElem (by omega)]
      simp
    · rw [List.getElem?_eq_none (by rw [bytesOf_length]; omega), List.getElem?_eq_none (by omega)]
  unfold textB
  rw [this]
theorem tb_text {n : Nat} {u : Nat → Bool} (hu : Low n u) : tb (textB n u) = u := by
  funext k
  unfold tb textB
  show ((bytesOf u (szB n)).getD (k / 8) 0).toNat.testBit (k % 8) = u k
  rw [List.getD_eq_getElem?_getD]
  by_cases hk : k / 8 < szB n
  · rw [bytesOf_get _ _ _ hk]
    show (UInt8.ofNat (by8 u (k / 8))).toNat.testBit (k % 8) = u k
    rw [byte_back, by8_at]
  · rw [List.getElem?_eq_none (by rw [bytesOf_length]; omega), hu.off (by unfold szB at hk; omega)]
    simp
theorem over_text {n : Nat} {u : Nat → Bool} (h1 : 1 ≤ n) (hu : Low n u) : overB n (textB n u) = false := by
  cases h : overB n (textB n u) with
  | false => rfl
  | true =>
    obtain ⟨k, hk, _, h3⟩ := tb_over h1 h
    rw [tb_text hu] at h3
    exact absurd (hu k h3) (by omega)
/-- The builtin copy of a text into cells. -/
theorem run_copyB {P : Program} (w : World) (dT sT ty elem : TypeId) (b o dLen dCap : Nat) (q : ByteArray) (cs : List Value)
    (hu : P.underlying dT = some (.slice elem)) (hz : ∀ w, (Go.sizeOf elem).run P w = .ok 1 w) (ht : w.there b o cs.length)
    (hcs : cs = (q.data.toList.take (min q.size dLen)).map fun x => Value.int .u8 (x.toNat : Int)) (n : Nat) (hn : n = min q.size dLen) :
    (Builtin.copy_ #[dT, sT] ty #[.slice (some ⟨b, o, none⟩) dLen dCap, .string q]).run P w = .ok (goInt n) (w.setCells b o cs) := by
  subst hn
  have hst := run_storeCells_cells (P := P) b o cs 0 w (fun j hj => by simpa using (ht j hj).1) (fun j hj => by simpa using (ht j hj).2) (by
    intro v hv
    rw [hcs] at hv
    obtain ⟨x, _, rfl⟩ := List.mem_map.1 hv
    rfl)
  rw [Nat.add_zero] at hst
  have hmin : Nat.min q.size dLen = min q.size dLen := rfl
  simp [Builtin.copy_, run_underlying hu, Builtin.lenOf, Builtin.firstCells, hz, hmin]
  rw [← List.map_take, ← hcs, hst]
  rfl
theorem setCells_vals (b m : Nat) (t : TypeId) : ∀ (cs : List Value) (o : Nat) (f : Nat → Value) (w : World), w.heap[b]? = some (.cells (vals m f) t (0, 0)) →
    (w.setCells b o cs).heap[b]? = some (.cells (vals m fun i => if o ≤ i ∧ i < o + cs.length then cs.getD (i - o) (f i) else f i) t (0, 0))
  | [], o, f, w, h => by
    rw [World.setCells, h]
    congr 2
    exact vals_congr fun i _ => by rw [if_neg (by simp)]
  | v :: r, o, f, w, h => by
    rw [World.setCells, setCells_vals b m t r (o + 1) (fun j => if j = o then v else f j) _ (by rw [heap_setCell_same w b o _ _ _ h, vals_set])]
    congr 2
    refine vals_congr fun i _ => ?_
    by_cases h0 : i = o
    · subst h0
      rw [if_neg (by omega), if_pos rfl, if_pos ⟨Nat.le_refl _, by simp⟩, Nat.sub_self]
      rfl
    · rw [if_neg h0]
      by_cases h1 : o + 1 ≤ i ∧ i < o + 1 + r.length
      · rw [if_pos h1, if_pos ⟨by omega, by simp; omega⟩, show i - o = i - (o + 1) + 1 by omega]
        rfl
      · rw [if_neg h1, if_neg (by simp; omega)]
theorem setCells_sizeB (b : Nat) : ∀ (vs : List Value) (o : Nat) (w : World), (w.setCells b o vs).heap.size = w.heap.size
  | [], _, _ => rfl
  | v :: r, o, w => by rw [World.setCells, setCells_sizeB b r]; simp [World.setCell]
theorem setCells_belowB {B b : Nat} (hb : B ≤ b) {w0 : World} : ∀ (vs : List Value) (o : Nat) (w : World), Below B w0 w → Below B w0 (w.setCells b o vs)
  | [], _, _, h => h
  | v :: r, o, w, h => by rw [World.setCells]; exact setCells_belowB hb r (o + 1) _ (h.setCell (p := ⟨b, o, none⟩) hb v)
/-- What a text that is copied into a new set makes of it. -/
theorem sobj_copy {w : World} {b n : Nat} (h : w.heap[b]? = some (sobj n fun _ => false)) {t : ByteArray} :
    (w.setCells b 1 (bcellsB t.data.toList)).heap[b]? = some (sobj n (tb t)) := by
  rw [setCells_vals b 129 _ _ 1 _ w h]
  unfold sobj
  congr 2
  refine vals_congr fun i hi => ?_
  rw [bcellsB_length]
  by_cases h0 : i = 0
  · subst h0
    rw [if_neg (by omega)]
    rfl
  · unfold scell
    rw [if_neg h0, if_neg h0, tb_by8]
    by_cases h1 : 1 ≤ i ∧ i < 1 + t.data.toList.length
    · rw [if_pos h1]
      unfold bcellsB
      rw [List.getD_eq_getElem?_getD, List.getElem?_map, List.getD_eq_getElem?_getD, List.getElem?_eq_getElem (by omega)]
      rfl
    · rw [if_neg h1, List.getD_eq_getElem?_getD, List.getElem?_eq_none (by omega)]
      rfl
end Bt
set_option maxRecDepth 100000 in
theorem bits_parse_arg (w : World) (x : Int) (h : x < 1 ∨ 1024 < x) (t : ByteArray) : Calls Try.prog 19 #[.int .i64 x, .string t] w fun e w' => e = .returned (.tuple #[.pointer none, .int .i64 1]) ∧ w = w' := by
  have HN := Lib.hid (bits_new_not w x h)
  clear h
  go_enter Try.func19, Try.ntmps19
  go_wp2_with (fail)
  refine HN.out.mono ?_
  rintro e w2 ⟨rfl, rfl⟩
  go_wp2_with (fail)
  refine bodyPost_ret (results_tmp2 rfl _ _ _) rfl ?_
  exact ⟨rfl, rfl⟩
section
variable (w : World) (n : Nat) (h1 : 1 ≤ n) (h2 : n ≤ 1024) (t : ByteArray) 
include h1 h2
set_option maxRecDepth 100000 in
theorem bits_parse_size (ht : t.size ≠ szB n) : Calls Try.prog 19 #[.int .i64 (n : Int), .string t] w fun e w' => e = .returned (.tuple #[.pointer none, .int .i64 5]) ∧ Below w.heap.size w w' := by
  have HN := Lib.hid (bits_new w n h1 h2)
  have HSZ := Lib.hid (fun W => bits_size W n (by omega))
  have e1 : ((t.size : Int) != (szB n : Int)) = true := bne_iff_ne.2 (by omega)
  generalize szB n = m at HSZ e1
  generalize (n : Int) = nn at HN HSZ
  clear h1 h2 ht
  go_enter Try.func19, Try.ntmps19
  go_wp2_with (fail)
  refine HN.out.mono ?_
  rintro e w2 ⟨b, rfl, _, _, hb⟩
  go_wp2_with (fail)
  refine (HSZ.out _).mono ?_
  rintro e w3 ⟨rfl, rfl⟩
  go_wp2_with (fail)
  refine bodyPost_ret (results_tmp2 rfl _ _ _) rfl ?_
  exact ⟨rfl, hb⟩
set_option maxRecDepth 100000 in
theorem bits_parse_over (ht : t.size = szB n) (hx : overB n t = true) : Calls Try.prog 19 #[.int .i64 (n : Int), .string t] w fun e w' => e = .returned (.tuple #[.pointer none, .int .i64 5]) ∧ Below w.heap.size w w' := by
  have HN := Lib.hid (bits_new w n h1 h2)
  have HSZ := Lib.hid (fun W => bits_size W n (by omega))
  obtain ⟨l, hl⟩ : ∃ l, szB n = l + 1 := ⟨szB n - 1, by unfold szB; omega⟩
  unfold overB at hx
  rw [hl] at HSZ ht hx
  have hl2 : 8 * l < n := by unfold szB at hl; omega
  have hl3 : n ≤ 8 * l + 8 := by unfold szB at hl; omega
  have e2 : (((t[l]'(by omega)).toNat : Int) / 2 ^ (n - l * 8) != 0) = true := by
    rw [Nat.add_sub_cancel, getD_at t l (by omega)] at hx
    have := of_decide_eq_true hx
    refine bne_iff_ne.2 fun h => this ?_
    have e : ((2 : Int) ^ (n - l * 8)) = ((2 ^ (n - l * 8) : Nat) : Int) := by simp
    rw [e] at h
    omega
  have z1 : (t.size : Int) = (l : Int) + 1 := by omega
  have z2 : ((l + 1 : Nat) : Int) = (l : Int) + 1 := by omega
  have e1 : (((l : Int) + 1) != ((l : Int) + 1)) = false := by simp
  have y0 : 0 ≤ (l : Int) := by omega
  have y1 : (l : Int) < 128 := by omega
  clear hx
  go_enter Try.func19, Try.ntmps19
  go_wp2_with (fail)
  refine HN.out.mono ?_
  rintro e w2 ⟨b, rfl, _, _, hb⟩
  go_wp2_with (fail)
  refine (HSZ.out _).mono ?_
  rintro e w3 ⟨rfl, rfl⟩
  go_wp2_with (fail)
  refine bodyPost_ret (results_tmp2 rfl _ _ _) rfl ?_
  exact ⟨rfl, hb⟩
set_option maxRecDepth 100000 in
theorem bits_parse_ok (ht : t.size = szB n) (hx : overB n t = false) : Calls Try.prog 19 #[.int .i64 (n : Int), .string t] w fun e w' => ∃ b, e = .returned (.tuple #[.pointer (some ⟨b, 0, none⟩), .int .i64 0]) ∧ w.heap.size ≤ b ∧ w'.heap[b]? = some (sobj n (tb t)) ∧ Below w.heap.size w w' := by
  have HN := Lib.hid (bits_new w n h1 h2)
  have HSZ := Lib.hid (fun W => bits_size W n (by omega))
  have HU := Lib.hid (fun W : World => (show (Go.sizeOf 5).run Try.prog W = .ok 1 W by kernel_rfl))
  have HCP := Lib.hid (fun (W : World) (b : Nat) (h : W.heap[b]? = some (sobj n fun _ => false)) => run_copyB (P := Try.prog) W 54 9 3 5 b 1 128 128 t (bcellsB t.data.toList) Try.underlying54 HU.out (fun j hj => by
    rw [bcellsB_length, show t.data.toList.length = szB n from ht] at hj
    rw [sobj_byte h j (by unfold szB at hj; omega)]
    exact ⟨rfl, sobj_fz h _⟩) (by
    have hl : t.data.toList.length = t.size := rfl
    rw [List.take_of_length_le (by rw [hl, ht]; unfold szB; omega)]
    rfl) t.size (by rw [ht]; unfold szB; omega))
  obtain ⟨l, hl⟩ : ∃ l, szB n = l + 1 := ⟨szB n - 1, by unfold szB; omega⟩
  unfold overB at hx
  rw [hl] at HSZ ht hx
  have hl2 : 8 * l < n := by unfold szB at hl; omega
  have hl3 : n ≤ 8 * l + 8 := by unfold szB at hl; omega
  have e2 : (((t[l]'(by omega)).toNat : Int) / 2 ^ (n - l * 8) != 0) = false := by
    rw [Nat.add_sub_cancel, getD_at t l (by omega)] at hx
    have := of_decide_eq_false hx
    refine bne_eq_false_iff_eq.2 ?_
    have e : ((2 : Int) ^ (n - l * 8)) = ((2 ^ (n - l * 8) : Nat) : Int) := by simp
    rw [e]
    omega
  have z1 : (t.size : Int) = (l : Int) + 1 := by omega
  have z2 : ((l + 1 : Nat) : Int) = (l : Int) + 1 := by omega
  have e1 : (((l : Int) + 1) != ((l : Int) + 1)) = false := by simp
  have y0 : 0 ≤ (l : Int) := by omega
  have y1 : (l : Int) < 128 := by omega
  clear hx
  go_enter Try.func19, Try.ntmps19
  go_wp2_with (fail)
  refine HN.out.mono ?_
  rintro e w2 ⟨b, rfl, hbb, hs, hb⟩
  have hcp := HCP.out w2 b hs
  have HS := Lib.hid (sobj_copy (t := t) hs)
  have HB := Lib.hid (setCells_belowB hbb (bcellsB t.data.toList) 1 _ hb)
  clear HCP hs hb
  generalize w2.setCells b 1 (bcellsB t.data.toList) = w5 at hcp HS HB
  go_wp2_with (fail)
  refine (HSZ.out _).mono ?_
  rintro e w3 ⟨rfl, rfl⟩
  go_wp2_with (fail)
  refine bodyPost_ret (results_tmp2 rfl _ _ _) rfl ?_
  exact ⟨b, rfl, hbb, HS.out, HB.out⟩
end
end Go.Proofs.Ytmihladhopjloaa
