/-
  Package disk: what the calls that turn nothing answer. Conditions: the disk stands in blocks of its own.
-/
import Derived.Test.YtmnponjngdnolaaDkNew
import Derived.Laws.BytesString
namespace Go.Proofs.Ytmnponjngdnolaa
open Go.ChangeShapes Go.WideShapes Go.ChangeAt Go.RowKit Dk

section
variable (K : Nat → Prop) (w : World) (D : Nat) (x : St)
theorem disk_isOn (h : DiskAt K w D x) : Calls Try.prog 20 #[.pointer (some ⟨D, 0, none⟩)] w fun e w' => e = .returned (.bool (!x.away)) ∧ w = w' := by
  obtain ⟨s, cs, t, ct, lv, fv, h⟩ := h
  have c4 := h.cell 4
  simp only [List.getElem?_toArray, List.getElem?_cons_succ, List.getElem?_cons_zero] at c4
  clear h
  generalize x.away = aw at c4 ⊢
  go_enter Try.func20, Try.ntmps20
  go_wp2
  go_ret
  exact ⟨rfl, rfl⟩
theorem disk_len (h : DiskAt K w D x) : Calls Try.prog 16 #[.pointer (some ⟨D, 0, none⟩)] w fun e w' => e = .returned (.int .i64 (x.n : Int)) ∧ w = w' := by
  obtain ⟨s, cs, t, ct, lv, fv, h⟩ := h
  have c0 := h.cell 0
  simp only [List.getElem?_toArray, List.getElem?_cons_zero] at c0
  clear h
  generalize x.n = n at c0 ⊢
  go_enter Try.func16, Try.ntmps16
  go_wp2
  go_ret
  exact ⟨rfl, rfl⟩
theorem disk_loose (h : DiskAt K w D x) : Calls Try.prog 14 #[.pointer (some ⟨D, 0, none⟩)] w fun e w' => e = .returned (.int .i64 (x.loose.length : Int)) ∧ w = w' := by
  obtain ⟨s, cs, t, ct, lv, fv, h⟩ := h
  have c2 := h.cell 2
  simp only [List.getElem?_toArray, List.getElem?_cons_succ, List.getElem?_cons_zero] at c2
  have hv : ∃ a c, lv = .slice a x.loose.length c := by
    rcases h.lo.2 with ⟨rfl, h0⟩ | ⟨g, cap, cur, rfl, _⟩
    · exact ⟨_, _, by rw [h0]⟩
    · exact ⟨_, _, rfl⟩
  obtain ⟨a, c, rfl⟩ := hv
  clear h
  generalize x.loose.length = n at c2 ⊢
  go_enter Try.func14, Try.ntmps14
  go_wp2
  go_ret
  exact ⟨rfl, rfl⟩
theorem disk_done (h : DiskAt K w D x) : Calls Try.prog 17 #[.pointer (some ⟨D, 0, none⟩)] w fun e w' => e = .returned (.int .i64 (x.done : Int)) ∧ w = w' := by
  obtain ⟨s, cs, t, ct, lv, fv, h⟩ := h
  have c5 := h.cell 5
  simp only [List.getElem?_toArray, List.getElem?_cons_succ, List.getElem?_cons_zero] at c5
  clear h
  generalize (x.done : Int) = n at c5 ⊢
  go_enter Try.func17, Try.ntmps17
  go_wp2
  go_ret
  exact ⟨rfl, rfl⟩
end
namespace Dk
/-- Whether there is such a sector, and the power to get at it. -/
def St.reach (x : St) (p : Int) : Int := if p < 0 ∨ (x.n : Int) ≤ p then 3 else if x.away then 4 else 0
theorem reach_out {x : St} {p : Int} (h : p < 0 ∨ (x.n : Int) ≤ p) : x.reach p = 3 := if_pos h
theorem reach_in {x : St} {p : Int} (h0 : ¬ p < 0) (h1 : ¬ (x.n : Int) ≤ p) : x.reach p = if x.away then 4 else 0 := if_neg (by omega)
end Dk
section
variable (K : Nat → Prop) (w : World) (D : Nat) (x : St)
theorem disk_reach (h : DiskAt K w D x) (p : Int) : Calls Try.prog 29 #[.pointer (some ⟨D, 0, none⟩), .int .i64 p] w fun e w' => e = .returned (.int .i64 (x.reach p)) ∧ w = w' := by
  obtain ⟨s, cs, t, ct, lv, fv, h⟩ := h
  have c0 := h.cell 0
  have c4 := h.cell 4
  simp only [List.getElem?_toArray, List.getElem?_cons_succ, List.getElem?_cons_zero] at c0 c4
  clear h
  by_cases h0 : p < 0
  · have h0' : decide (p < 0) = true := decide_eq_true h0
    rw [reach_out (.inl h0)]
    go_enter Try.func29, Try.ntmps29
    go_wp2
    go_ret
    exact ⟨rfl, rfl⟩
  · have h0' : decide (p < 0) = false := decide_eq_false h0
    by_cases h1 : (x.n : Int) ≤ p
    · have h1' : decide ((x.n : Int) ≤ p) = true := decide_eq_true h1
      rw [reach_out (.inr h1)]
      generalize x.n = n at c0 h1 h1'
      go_enter Try.func29, Try.ntmps29
      go_wp2
      go_ret
      exact ⟨rfl, rfl⟩
    · have h1' : decide ((x.n : Int) ≤ p) = false := decide_eq_false h1
      rw [reach_in h0 h1]
      generalize x.n = n at c0 h1 h1'
      cases ha : x.away with
      | true =>
        rw [ha] at c4
        rw [if_pos rfl]
        go_enter Try.func29, Try.ntmps29
        go_wp2
        go_ret
        exact ⟨rfl, rfl⟩
      | false =>
        rw [ha] at c4
        rw [if_neg Bool.false_ne_true]
        go_enter Try.func29, Try.ntmps29
        go_wp2
        go_ret
        exact ⟨rfl, rfl⟩
end
namespace Dk
/-- A sector's bytes as a text. -/
def secS (g : Nat → UInt8) : ByteArray := ⟨((List.range 32).map g).toArray⟩
theorem secS_congr {f g : Nat → UInt8} (h : ∀ j, j < 32 → f j = g j) : secS f = secS g := by
  unfold secS
  rw [List.map_congr_left fun j hj => h j (List.mem_range.1 hj)]
theorem secS_inj {f g : Nat → UInt8} (h : secS f = secS g) : ∀ j, j < 32 → f j = g j := by
  intro j hj
  have h2 := congrArg (fun b : ByteArray => b.data.toList[j]?) h
  simpa [secS, hj] using h2
theorem secS_size (g : Nat → UInt8) : (secS g).size = 32 := by
  show ((List.range 32).map g).toArray.size = 32
  simp
end Dk
theorem foldl_pushK (ns : List UInt8) : ∀ r : ByteArray, ns.foldl (fun r b => r.push b) r = ⟨(r.data.toList ++ ns).toArray⟩ := by
  induction ns with
  | nil => intro r; simp
  | cons a ns ih =>
    intro r
    rw [List.foldl_cons, ih]
    simp [ByteArray.push]
theorem foldl_pushK_int (ns : List UInt8) (r : ByteArray) : (ns.map fun b => (b.toNat : Int)).foldl (fun r n => r.push (UInt8.ofNat n.toNat)) r = ns.foldl (fun r b => r.push b) r := by
  rw [List.foldl_map]
  congr 1
  funext r b
  rw [Int.toNat_natCast, UInt8.ofNat_toNat]
/-- A slice of bytes as a string. -/
theorem run_textK (w : World) (a : Addr) (n cap : Nat) (l : List UInt8) (hn : n = l.length) (h : ∀ j u, (l.map fun b => Value.int .u8 (b.toNat : Int))[j]? = some u → w.cell? (a.add j) = some u) :
    (convert 22 9 (.slice (some a) n cap)).run Try.prog w = .ok (.string ⟨l.toArray⟩) w := by
  subst hn
  rw [run_convert_bytes_string w _ _ 5 _ l.length cap Try.underlying22 Try.underlying5 Try.underlying9]
  have hl := run_loadCells_list (P := Try.prog) w a _ h
  have e : (l.map fun b => Value.int .u8 (b.toNat : Int)) = (l.map fun b => (b.toNat : Int)).map (Value.int .u8) := by simp [List.map_map, Function.comp_def]
  rw [e] at hl
  rw [List.length_map, List.length_map] at hl
  rw [run_bytesToString w a l.length cap (l.map fun b => (b.toNat : Int)) hl, foldl_pushK_int, foldl_pushK]
  simp
theorem range_text {w : World} {b n p : Nat} {f : Nat → UInt8} (h : Row w b n f) (hp : p < n) (cap : Nat) : (convert 22 9 (.slice (some ⟨b, p * 32, none⟩) 32 cap)).run Try.prog w = .ok (.string (secS (sect f p))) w := by
  refine run_textK w _ 32 cap ((List.range 32).map (sect f p)) (by simp) fun j u hj => ?_
  rw [Addr.add_lit]
  have hl := (List.getElem?_eq_some_iff.1 hj).1
  simp only [List.length_map, List.length_range] at hl
  rw [h.range hp j (.int .u8 ((sect f p j).toNat : Int)) (secL_get _ _ hl), ← hj]
  simp [hl]
theorem disk_read (K : Nat → Prop) (w : World) (D : Nat) (x : St) (h : DiskAt K w D x) (ha : x.away = false) (p : Nat) (hp : p < x.n) :
    Calls Try.prog 12 #[.pointer (some ⟨D, 0, none⟩), .int .i64 (p : Int)] w fun e w' => e = .returned (.tuple #[.string (secS (sect x.now p)), .int .i64 0]) ∧ w = w' := by
  have hr := disk_reach K w D x h (p : Int)
  rw [reach_in (by omega) (by omega), ha, if_neg Bool.false_ne_true] at hr
  have HR := Lib.hid hr
  obtain ⟨s, cs, t, ct, lv, fv, h⟩ := h
  have c1 := h.cell 1
  simp only [List.getElem?_toArray, List.getElem?_cons_succ, List.getElem?_cons_zero] at c1
  have hx := range_text h.tr hp 32
  have h1 : (p : Int) < (x.n : Int) := by omega
  have h2 : ¬ (p : Int) < 0 := by omega
  have h3 : 0 ≤ (p : Int) := by omega
  have h4 : p < x.n := hp
  clear h hr
  generalize x.n = n at c1 h1 h4
  generalize secS (sect x.now p) = z at hx ⊢
  go_enter Try.func12, Try.ntmps12
  go_wp2_with (fail)
  refine HR.out.mono ?_
  rintro e w1 ⟨rfl, rfl⟩
  clear HR
  go_wp2
  refine bodyPost_ret (results_tmp2 rfl _ _ _) rfl ?_
  exact ⟨rfl, rfl⟩
end Go.Proofs.Ytmnponjngdnolaa
