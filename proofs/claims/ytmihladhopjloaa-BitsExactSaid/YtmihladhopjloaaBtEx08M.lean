/-
  BitsExact: what deeds leave, in plain words; the set and the law's own row of bools, side by side. No conditions.
-/
import Derived.Test.YtmihladhopjloaaBtAwake08
import Derived.Test.YtmihladhopjloaaRef08
import Derived.Test.YtmihladhopjloaaBtFill08
namespace Go.Proofs.Ytmihladhopjloaa
open Go.ChangeShapes Go.WideShapes Go.ChangeAt Go.RowKit Bt

namespace Bt
theorem info_boolE : (Try.prog.info? 4).map (fun i => (i.zero, i.size, i.bytes)) = some (some (.bool false), 1, 1) := by kernel_rfl
/-- Whether all of so many are there, each below the length. -/
def allU (u : Nat → Bool) (xs : Nat → Int) (k : Nat) : Bool := (List.range k).all fun j => u (xs j).toNat
theorem allU_next (u : Nat → Bool) (xs : Nat → Int) (k : Nat) : allU u xs (k + 1) = (allU u xs k && u (xs k).toNat) := by
  unfold allU; rw [List.range_succ, List.all_append]; simp
theorem allU_at {n : Nat} (u : Nat → Bool) {xs : Nat → Int} {L : Nat} (h : allIn n xs L = true) : ∀ k, k ≤ L → allU u xs k = allAt n u xs k
  | 0, _ => rfl
  | k + 1, hk => by
    rw [allU_next, allAt_next, allU_at u h k (by omega)]
    unfold isIn
    rw [allIn_at (by omega) h, Bool.true_and]
theorem allAt_out {n : Nat} (u : Nat → Bool) {xs : Nat → Int} {L : Nat} (h : allIn n xs L = false) : allAt n u xs L = false := by
  unfold allIn at h
  rw [List.all_eq_false] at h
  obtain ⟨k, hk, hf⟩ := h
  refine allAt_not (List.mem_range.1 hk) ?_
  unfold isIn
  rw [Bool.not_eq_true] at hf
  rw [hf, Bool.false_and]
theorem allIn_pos {n : Nat} {xs : Nat → Int} {L : Nat} (h : allIn n xs L = false) : 0 < L := by
  cases L with
  | zero => cases h
  | succ L => omega
/-- What a deed leaves. -/
def deed (n : Nat) (v : Bool) (u : Nat → Bool) (xs : Nat → Int) (L : Nat) : Nat → Bool := if allIn n xs L then puts v u xs L else u
theorem deed_in {n : Nat} {v : Bool} {u : Nat → Bool} {xs : Nat → Int} {L : Nat} (h : allIn n xs L = true) : deed n v u xs L = puts v u xs L := by unfold deed; rw [if_pos h]
theorem deed_out {n : Nat} {v : Bool} {u : Nat → Bool} {xs : Nat → Int} {L : Nat} (h : allIn n xs L = false) : deed n v u xs L = u := by unfold deed; rw [h]; rfl
theorem deed_low {n : Nat} {v : Bool} {u : Nat → Bool} {xs : Nat → Int} {L : Nat} (h : Low n u) : Low n (deed n v u xs L) := by
  cases hi : allIn n xs L with
  | true => rw [deed_in hi]; exact puts_low h L hi
  | false => rw [deed_out hi]; exact h
/-- The set, and the law's own row of bools. -/
structure Ex (w wr : World) (b G n : Nat) (u v : Nat → Bool) : Prop where
  s : Stands w wr b n u
  row : wr.rowIs G 4 n fun j => .bool (v j)
  new : w.heap.size ≤ G
  ne : b ≠ G
namespace Ex
variable {w wr w' : World} {b G n : Nat} {u u' v : Nat → Bool}
theorem step (h : Ex w wr b G n u v) (hb : Below wr.heap.size wr w') : Ex w w' b G n u v := ⟨h.s.step hb, h.row.of_block (hb.block G h.row.lt), h.new, h.ne⟩
theorem drewN (h : Ex w wr b G n u v) (k : Nat) : Ex w (wr.drewN k) b G n u v := h.step (below_drewN (Below.refl _ _) k)
theorem drew (h : Ex w wr b G n u v) : Ex w wr.drew b G n u v := h.drewN 1
theorem alloc (h : Ex w wr b G n u v) (o : Obj) : Ex w (wr.alloc o) b G n u v := h.step ((Below.refl _ _).alloc (Nat.le_refl _) o)
theorem only (h : Ex w wr b G n u v) (hs : w'.heap[b]? = some (sobj n u')) (ho : Only wr w' b) : Ex w w' b G n u' v := ⟨h.s.only hs ho, ho.row h.row (fun e => h.ne e.symm), h.new, h.ne⟩
theorem put (h : Ex w wr b G n u v) (k : Nat) (x : Bool) : Ex w (wr.setCell ⟨G, k, none⟩ (.bool x)) b G n u (upd v k x) :=
  ⟨⟨(heap_setCell_other wr ⟨G, k, none⟩ b _ h.ne).trans h.s.blk, h.s.new, h.s.below.setCell (p := ⟨G, k, none⟩) h.new _⟩, (h.row.set k _).congr fun j _ => by
    unfold upd
    by_cases e : j = k
    · rw [if_pos e, if_pos e]
    · rw [if_neg e, if_neg e], h.new, h.ne⟩
/-- A deed that adds. -/
theorem add (h : Ex w wr b G n u v) (hn : n ≤ 1024) (A : Option Addr) (L cap : Nat) (xs : Nat → Int) (hl : L < 9223372036854775807) (hA : IntsInB wr A L xs) (hne : 0 < L → ∀ a, A = some a → a.block ≠ b) :
    Calls Try.prog 10 #[.pointer (some ⟨b, 0, none⟩), .slice A L cap] wr fun e w' => e = .returned (.int .i64 (chk n xs L)) ∧ Ex w w' b G n (deed n true u xs L) v ∧ Only wr w' b := by
  cases hi : allIn n xs L with
  | true =>
    rw [chk_in hi, deed_in hi]
    exact (bits_Add wr b n u h.s.blk hn A L cap xs hl hA hi hne).mono fun _ _ ⟨he, hs, ho⟩ => ⟨he, h.only hs ho, ho⟩
  | false =>
    rw [chk_out hi, deed_out hi]
    exact (bits_Add_not wr b n u h.s.blk A L cap xs hl hA hi).mono fun _ _ ⟨he, hw⟩ => ⟨he, by rw [← hw]; exact h, by rw [← hw]; exact Only.refl _ _⟩
theorem drop (h : Ex w wr b G n u v) (hn : n ≤ 1024) (A : Option Addr) (L cap : Nat) (xs : Nat → Int) (hl : L < 9223372036854775807) (hA : IntsInB wr A L xs) (hne : 0 < L → ∀ a, A = some a → a.block ≠ b) :
    Calls Try.prog 9 #[.pointer (some ⟨b, 0, none⟩), .slice A L cap] wr fun e w' => e = .returned (.int .i64 (chk n xs L)) ∧ Ex w w' b G n (deed n false u xs L) v ∧ Only wr w' b := by
  cases hi : allIn n xs L with
  | true =>
    rw [chk_in hi, deed_in hi]
    exact (bits_Drop wr b n u h.s.blk hn A L cap xs hl hA hi hne).mono fun _ _ ⟨he, hs, ho⟩ => ⟨he, h.only hs ho, ho⟩
  | false =>
    rw [chk_out hi, deed_out hi]
    exact (bits_Drop_not wr b n u h.s.blk A L cap xs hl hA hi).mono fun _ _ ⟨he, hw⟩ => ⟨he, by rw [← hw]; exact h, by rw [← hw]; exact Only.refl _ _⟩
end Ex
/-- A deed that came in. -/
structure Deed (w : World) (pb q : Nat) (K : Int) (B : Option Addr) (L C : Nat) (xs : Nat → Int) : Prop where
  kind : w.cell? ⟨pb, q, none⟩ = some (.int .i64 K)
  list : w.cell? ⟨pb, q + 1, none⟩ = some (.slice B L C)
  cap : L ≤ C
  ints : IntsInB w B L xs
/-- The law's variable for a deed. -/
structure It (w wr : World) (b G n : Nat) (u v : Nat → Bool) (X : Nat) (K : Int) (B : Option Addr) (L C : Nat) : Prop where
  ex : Ex w wr b G n u v
  var : wr.heap[X]? = some (.cells #[.int .i64 K, .slice B L C] 29 (0, 0))
  nb : X ≠ b
  nG : X ≠ G
namespace It
variable {w wr w' : World} {b G n : Nat} {u u' v : Nat → Bool} {X : Nat} {K : Int} {B : Option Addr} {L C : Nat}
theorem c0 (h : It w wr b G n u v X K B L C) : wr.cell? ⟨X, 0, none⟩ = some (.int .i64 K) := cell_of_row wr X 0 _ _ _ h.var
theorem c1 (h : It w wr b G n u v X K B L C) : wr.cell? ⟨X, 1, none⟩ = some (.slice B L C) := cell_of_row wr X 1 _ _ _ h.var
theorem lt (h : It w wr b G n u v X K B L C) : X < wr.heap.size := (Array.getElem?_eq_some_iff.1 h.var).1
theorem step (h : It w wr b G n u v X K B L C) (hb : Below wr.heap.size wr w') : It w w' b G n u v X K B L C := ⟨h.ex.step hb, (hb.block X h.lt).trans h.var, h.nb, h.nG⟩
theorem drewN (h : It w wr b G n u v X K B L C) (k : Nat) : It w (wr.drewN k) b G n u v X K B L C := h.step (below_drewN (Below.refl _ _) k)
theorem drew (h : It w wr b G n u v X K B L C) : It w wr.drew b G n u v X K B L C := h.drewN 1
theorem put (h : It w wr b G n u v X K B L C) (k : Nat) (x : Bool) : It w (wr.setCell ⟨G, k, none⟩ (.bool x)) b G n u (upd v k x) X K B L C := ⟨h.ex.put k x, (heap_setCell_other wr ⟨G, k, none⟩ X _ h.nG).trans h.var, h.nb, h.nG⟩
theorem add (h : It w wr b G n u v X K B L C) (hn : n ≤ 1024) (xs : Nat → Int) (hl : L < 9223372036854775807) (hA : IntsInB w B L xs) (hne : 0 < L → ∀ a, B = some a → a.block ≠ b) :
    Calls Try.prog 10 #[.pointer (some ⟨b, 0, none⟩), .slice B L C] wr fun e w' => e = .returned (.int .i64 (chk n xs L)) ∧ It w w' b G n (deed n true u xs L) v X K B L C :=
  (h.ex.add hn B L C xs hl (hA.below h.ex.s.below) hne).mono fun _ _ ⟨he, hx, ho⟩ => ⟨he, hx, (ho.block X h.lt h.nb).trans h.var, h.nb, h.nG⟩
theorem drop (h : It w wr b G n u v X K B L C) (hn : n ≤ 1024) (xs : Nat → Int) (hl : L < 9223372036854775807) (hA : IntsInB w B L xs) (hne : 0 < L → ∀ a, B = some a → a.block ≠ b) :
    Calls Try.prog 9 #[.pointer (some ⟨b, 0, none⟩), .slice B L C] wr fun e w' => e = .returned (.int .i64 (chk n xs L)) ∧ It w w' b G n (deed n false u xs L) v X K B L C :=
  (h.ex.drop hn B L C xs hl (hA.below h.ex.s.below) hne).mono fun _ _ ⟨he, hx, ho⟩ => ⟨he, hx, (ho.block X h.lt h.nb).trans h.var, h.nb, h.nG⟩
theorem has (h : It w wr b G n u v X K B L C) (hn : n ≤ 1024) (xs : Nat → Int) (hl : L < 9223372036854775807) (hA : IntsInB w B L xs) :
    Calls Try.prog 12 #[.pointer (some ⟨b, 0, none⟩), .slice B L C] wr fun e w' => e = .returned (.bool (allAt n u xs L)) ∧ It w w' b G n u v X K B L C :=
  (bits_Has wr b n u h.ex.s.blk B L C xs hl (hA.below h.ex.s.below) hn).mono fun _ _ ⟨he, m, hw⟩ => ⟨he, by rw [hw]; exact h.drewN m⟩
end It
/-- The first of the last d numbers below n that isn't there; -1, if all are. -/
def fF (u : Nat → Bool) (n : Nat) : Nat → Int
  | 0 => -1
  | d + 1 => if u (n - (d + 1)) then fF u n d else ((n - (d + 1) : Nat) : Int)
theorem fF_or (u : Nat → Bool) (n : Nat) : ∀ d, d ≤ n → (∃ k, n - d ≤ k ∧ k < n ∧ fF u n d = (k : Int) ∧ u k = false ∧ ∀ j, n - d ≤ j → j < k → u j = true) ∨ fF u n d = -1 ∧ ∀ j, n - d ≤ j → j < n → u j = true
  | 0, _ => .inr ⟨rfl, fun j a b => by omega⟩
  | d + 1, h => by
    unfold fF
    cases hu : u (n - (d + 1)) with
    | false => exact .inl ⟨n - (d + 1), by omega, by omega, rfl, hu, fun j a b => by omega⟩
    | true =>
      rw [if_pos rfl]
      rcases fF_or u n d (by omega) with ⟨k, h1, h2, h3, h4, h5⟩ | ⟨h1, h2⟩
      · refine .inl ⟨k, by omega, h2, h3, h4, fun j a b => ?_⟩
        by_cases e : j = n - (d + 1)
        · rw [e]; exact hu
        · exact h5 j (by omega) b
      · refine .inr ⟨h1, fun j a b => ?_⟩
        by_cases e : j = n - (d + 1)
        · rw [e]; exact hu
        · exact h2 j (by omega) b
theorem fF_all (u : Nat → Bool) (n : Nat) : fF u n n = fstB n u := by
  rcases fF_or u n n (Nat.le_refl _) with ⟨k, _, h2, h3, h4, h5⟩ | ⟨h1, h2⟩
  · rw [h3, fstB_at h2 h4 (fun j hj => h5 j (by omega) hj)]
  · rw [h1, fstB_all (fun j hj => h2 j (by omega) hj)]
theorem cnt_mono (u : Nat → Bool) {i n : Nat} (h : i ≤ n) : cnt u i ≤ cnt u n := by
  induction n with
  | zero => obtain rfl : i = 0 := by omega
            exact Nat.le_refl _
  | succ n ih =>
    by_cases e : i = n + 1
    · rw [e]; exact Nat.le_refl _
    · have := ih (by omega)
      rw [cnt_next]
      omega
theorem row_at (u : Nat → Bool) {i : Nat} (hu : u i = true) : ∀ n, i < n → (rowL u n).getD (cnt u i) 0 = i
  | n + 1, h => by
    rw [rowL_next]
    by_cases e : i = n
    · subst e
      rw [if_pos hu]
      show ((rowL u i) ++ [i]).getD (rowL u i).length 0 = i
      rw [List.getD_eq_getElem?_getD, List.getElem?_append_right (Nat.le_refl _), Nat.sub_self]
      rfl
    · have ih := row_at u hu n (by omega)
      have hlt : cnt u i < (rowL u n).length := by
        have h1 := cnt_next u i
        have h2 := cnt_mono u (show i + 1 ≤ n by omega)
        rw [hu] at h1
        simp only [Bool.toNat_true] at h1
        show cnt u i < cnt u n
        omega
      cases hn : u n with
      | false => exact ih
      | true =>
        rw [if_pos rfl, List.getD_eq_getElem?_getD, List.getElem?_append_left hlt, ← List.getD_eq_getElem?_getD]
        exact ih
theorem cnt_under {u : Nat → Bool} {i n : Nat} (hu : u i = true) (h : i < n) : cnt u i < cnt u n := by
  have h1 := cnt_next u i
  have h2 := cnt_mono u (show i + 1 ≤ n by omega)
  rw [hu] at h1
  simp only [Bool.toNat_true] at h1
  omega
theorem own_ints {w : World} {base cap : Nat} {A : Option Addr} {l : List Nat} (h : w.ownsRow base 3 1 (.slice A l.length cap) l.length (rcells l)) : IntsInB w A l.length fun j => (l.getD j 0 : Int) := fun h0 => by
  rcases h.2 with ⟨_, hz⟩ | ⟨g, c, cur, hv, _⟩
  · omega
  · injection hv with hA _ _
    subst hA
    refine ⟨g, 0, rfl, fun k hk => ?_⟩
    have h2 := h.cells (g := g) rfl k _ (rcells_at l k hk)
    rwa [Addr.add_lit] at h2
theorem Ex.bools {w wr : World} {b G n : Nat} {u v : Nat → Bool} (h : Ex w wr b G n u v) : BoolsInB wr (some ⟨G, 0, none⟩) n v := fun _ => ⟨G, 0, rfl, fun k hk => by
  rw [Nat.zero_add]
  exact h.row.cell hk⟩
end Bt
end Go.Proofs.Ytmihladhopjloaa
