/-
  Package pen's pen: what it wrote lies in pieces, the newest first. Conditions: the pen stands in a block of its own; fewer than 2^40 bytes.
-/
import Derived.Test.YtiehpaffbaafcaaPenEye
import Derived.Laws.BytesString
import Derived.StillTailTactics
namespace Go.Proofs.Ytiehpaffbaafcaa
open Go.ChangeShapes Go.WideShapes Go.ChangeAt Go.RowKit Pn

namespace Pn
/-- How many bytes the pieces have. -/
def total : List ByteArray → Nat
  | [] => 0
  | q :: r => q.size + total r
/-- The bytes of pieces, the newest of which is the first. -/
def penL : List ByteArray → List UInt8
  | [] => []
  | q :: r => penL r ++ q.data.toList
theorem penL_length (l : List ByteArray) : (penL l).length = total l := by
  induction l with
  | nil => rfl
  | cons q r ih =>
    have : q.data.toList.length = q.size := rfl
    simp only [penL, total, List.length_append, ih, this]
    omega
end Pn
/-- The pieces that stand behind an address, none in the pen's own block. -/
def Chain (w : World) (p : Nat) : Option Addr → List ByteArray → Prop
  | a, [] => a = none
  | a, q :: r => ∃ g ah, a = some ⟨g, 0, none⟩ ∧ g ≠ p ∧ w.heap[g]? = some (.cells #[.pointer ah, .string q, .int .i64 (total (q :: r) : Int)] 73 (0, 0)) ∧ Chain w p ah r
theorem Chain.only {w w' : World} {p : Nat} (ho : Only w w' p) : ∀ {l : List ByteArray} {a : Option Addr}, Chain w p a l → Chain w' p a l
  | [], _, h => h
  | _ :: _, _, ⟨g, ah, e, hg, hb, hr⟩ => ⟨g, ah, e, hg, (ho.block g (Array.getElem?_eq_some_iff.1 hb).1 hg).trans hb, hr.only ho⟩
/-- A pen's own block. -/
def PenHd (w : World) (p : Nat) (last : Option Addr) (bad : Bool) : Prop := w.heap[p]? = some (.cells #[.pointer last, .bool bad] 45 (0, 0))
namespace PenHd
variable {w w' : World} {p : Nat} {last : Option Addr} {bad : Bool}
theorem lt (h : PenHd w p last bad) : p < w.heap.size := (Array.getElem?_eq_some_iff.1 h).1
theorem last0 (h : PenHd w p last bad) : w.cell? ⟨p, 0, none⟩ = some (.pointer last) := cell_of_row w p 0 _ _ _ h
theorem bad1 (h : PenHd w p last bad) : w.cell? ⟨p, 1, none⟩ = some (.bool bad) := cell_of_row w p 1 _ _ _ h
theorem fz (h : PenHd w p last bad) (i : Nat) : w.frozen? ⟨p, i, none⟩ = false := frozen_of_row w p i _ _ h
theorem setLast (h : PenHd w p last bad) (a : Option Addr) : PenHd (w.setCell ⟨p, 0, none⟩ (.pointer a)) p a bad := heap_setCell_same w p 0 _ _ _ h
theorem setBad (h : PenHd w p last bad) (x : Bool) : PenHd (w.setCell ⟨p, 1, none⟩ (.bool x)) p last x := heap_setCell_same w p 1 _ _ _ h
theorem of_block (h : PenHd w p last bad) (e : w'.heap[p]? = w.heap[p]?) : PenHd w' p last bad := e.trans h
theorem below (h : PenHd w p last bad) (hb : Below w.heap.size w w') : PenHd w' p last bad := h.of_block (hb.block p h.lt)
end PenHd
/-- A pen stands in block p: its pieces, and whether a number couldn't be. -/
def PenAt (w : World) (p : Nat) (l : List ByteArray) (bad : Bool) : Prop := ∃ last, PenHd w p last bad ∧ Chain w p last l
namespace PenAt
variable {w w' : World} {p : Nat} {l : List ByteArray} {bad : Bool}
theorem lt (h : PenAt w p l bad) : p < w.heap.size := by obtain ⟨_, h, _⟩ := h; exact h.lt
theorem below (h : PenAt w p l bad) (hb : Below w.heap.size w w') : PenAt w' p l bad := by
  obtain ⟨a, h1, h2⟩ := h
  exact ⟨a, h1.below hb, h2.only (Only.of_below hb p)⟩
theorem other (h : PenAt w p l bad) {b : Nat} (ho : Only w w' b) (hne : p ≠ b) (hl : ∀ a, Chain w p a l → Chain w' p a l) : PenAt w' p l bad := by
  obtain ⟨a, h1, h2⟩ := h
  exact ⟨a, h1.of_block (ho.block p h1.lt hne), hl a h2⟩
end PenAt
theorem pen_new (w : World) (p : Nat) (h : w.heap[p]? = some (.cells #[.pointer none, .bool false] 45 (0, 0))) : PenAt w p [] false := ⟨none, h, rfl⟩
def PenSays (w : World) (p : Nat) (v : Value) (l : List ByteArray) (bad : Bool) (e : Ending) (w' : World) : Prop := e = .returned v ∧ PenAt w' p l bad ∧ Only w w' p

set_option maxRecDepth 100000 in
set_option maxHeartbeats 1600000 in
theorem pen_write (w : World) (p : Nat) (l : List ByteArray) (bad : Bool) (h : PenAt w p l bad) (A : Option Addr) (n cap : Nat) (q : ByteArray) (hn : n = q.size) (ht : total (q :: l) < 1099511627776)
    (hc : ∀ W : World, W.heap = w.heap → (convert 53 9 (.slice A n cap)).run Try.prog W = .ok (.string q) W) :
    Calls Try.prog 30 #[.pointer (some ⟨p, 0, none⟩), .slice A n cap] w (PenSays w p (.tuple #[]) (q :: l) bad) := by
  obtain ⟨last, hh, hch⟩ := h
  have hp := hh.lt
  have hcv := hc w.drew rfl
  have HN := Lib.hid hn
  have HT := Lib.hid ht
  cases l with
  | nil =>
    obtain rfl : last = none := hch
    have c0 := hh.last0
    have f0 := hh.fz 0
    have HH := Lib.hid hh
    clear hc hh hn ht
    go_enter Try.func30, Try.ntmps30
    go_wp2_with (fail)
    go_still_tail 9, (by kernel_rfl)
    change wpList _ _ _ _ _ w.drew
    have hcd : w.drew.cell? ⟨p, 0, none⟩ = some (.pointer none) := c0
    have hfd : w.drew.frozen? ⟨p, 0, none⟩ = false := f0
    have HHd : Hid (PenHd w.drew p none bad) := HH
    have hpd : p < w.drew.heap.size := hp
    have HOd := Lib.hid ((Only.refl w p).drew)
    clear c0 f0 HH hp hcv
    generalize w.drew = w1 at hcd hfd HHd hpd HOd ⊢
    go_wp2
    go_end0
    have e : (w1.setCell ⟨p, 0, none⟩ (.pointer (some ⟨w1.heap.size, 0, none⟩))).heap.size = w1.heap.size := by simp [World.setCell]
    refine ⟨rfl, ⟨some ⟨w1.heap.size, 0, none⟩, ?_, w1.heap.size, none, rfl, by omega, ?_, rfl⟩, (HOd.out.setCell (.inl rfl) _).alloc _⟩
    · exact (HHd.out.setLast _).of_block (heap_alloc_old _ _ (by rw [e]; exact hpd))
    · have := heap_alloc_new (w1.setCell ⟨p, 0, none⟩ (.pointer (some ⟨w1.heap.size, 0, none⟩))) (.cells #[.pointer none, .string q, .int .i64 (n : Int)] 73)
      rw [e] at this
      rw [this, HN.out]
      rfl
  | cons q0 r =>
    obtain ⟨g, ah, rfl, hg, hb, hr⟩ := hch
    have c0 := hh.last0
    have f0 := hh.fz 0
    have cg : w.cell? ⟨g, 2, none⟩ = some (.int .i64 (total (q0 :: r) : Int)) := cell_of_row w g 2 _ _ _ hb
    have hgl : g < w.heap.size := (Array.getElem?_eq_some_iff.1 hb).1
    have HH := Lib.hid hh
    have HCH := Lib.hid (show Chain w p (some ⟨g, 0, none⟩) (q0 :: r) from ⟨g, ah, rfl, hg, hb, hr⟩)
    have e0 : IntKind.i64.wrap ((n : Int) + (total (q0 :: r) : Int)) = (n : Int) + (total (q0 :: r) : Int) := IntWalk.i64_in _ (by simp only [total] at ht; simp only [total]; omega)
    have HS := Lib.hid (show (n : Int) + (total (q0 :: r) : Int) = (total (q :: q0 :: r) : Int) by rw [hn]; simp only [total]; omega)
    clear hc hh hb hr hn ht
    generalize (total (q0 :: r) : Int) = T0 at cg e0 HS
    go_enter Try.func30, Try.ntmps30
    go_wp2_with (fail)
    go_still_tail 9, (by kernel_rfl)
    change wpList _ _ _ _ _ w.drew
    have hcd : w.drew.cell? ⟨p, 0, none⟩ = some (.pointer (some ⟨g, 0, none⟩)) := c0
    have hfd : w.drew.frozen? ⟨p, 0, none⟩ = false := f0
    have hgd : w.drew.cell? ⟨g, 2, none⟩ = some (.int .i64 T0) := cg
    have HHd : Hid (PenHd w.drew p (some ⟨g, 0, none⟩) bad) := HH
    have hpd : p < w.drew.heap.size := hp
    have hgld : g < w.drew.heap.size := hgl
    have HOd := Lib.hid ((Only.refl w p).drew)
    have hsz : w.heap.size ≤ w.drew.heap.size := Nat.le_refl _
    clear c0 f0 cg HH hp hgl hcv
    generalize w.drew = w1 at hcd hfd hgd HHd hpd hgld HOd hsz ⊢
    go_wp2
    refine gen_world (fun wr => PenHd wr p (some ⟨g, 0, none⟩) bad ∧ wr.cell? ⟨g, 2, none⟩ = some (.int .i64 T0) ∧ wr.heap[w1.heap.size]? = some (.cells #[.pointer (some ⟨g, 0, none⟩), .string q, .int .i64 (n : Int)] 73 (0, 0)) ∧ Only w wr p) ?_ ?_
    · exact ⟨HHd.out.of_block (heap_alloc_old w1 _ hpd), by rw [World.cell?_alloc_lt _ _ _ hgld]; exact hgd, heap_alloc_new w1 _, HOd.out.alloc _⟩
    rintro wr ⟨h1, h2, h3, h4⟩
    have d0 : wr.drew.cell? ⟨p, 0, none⟩ = some (.pointer (some ⟨g, 0, none⟩)) := h1.last0
    have d1 : wr.drew.frozen? ⟨p, 0, none⟩ = false := h1.fz 0
    have d2 : wr.drew.cell? ⟨g, 2, none⟩ = some (.int .i64 T0) := h2
    have d3 : wr.drew.cell? ⟨w1.heap.size, 2, none⟩ = some (.int .i64 (n : Int)) := cell_of_row wr w1.heap.size 2 _ _ _ h3
    have d4 : wr.drew.frozen? ⟨w1.heap.size, 2, none⟩ = false := frozen_of_row wr w1.heap.size 2 _ _ h3
    have k0 : wr.cell? ⟨p, 0, none⟩ = some (.pointer (some ⟨g, 0, none⟩)) := h1.last0
    have k2 : wr.cell? ⟨g, 2, none⟩ = some (.int .i64 T0) := h2
    have k3 : wr.cell? ⟨w1.heap.size, 2, none⟩ = some (.int .i64 (n : Int)) := cell_of_row wr w1.heap.size 2 _ _ _ h3
    have H1 := Lib.hid (show PenHd wr.drew p (some ⟨g, 0, none⟩) bad from h1)
    have H3 := Lib.hid (show wr.drew.heap[w1.heap.size]? = some (.cells #[.pointer (some ⟨g, 0, none⟩), .string q, .int .i64 (n : Int)] 73 (0, 0)) from h3)
    have H4 := Lib.hid h4.drew
    clear h1 h2 h3 h4 hcd hfd hgd
    go_still_tail 14, (by kernel_rfl)
    change wpList _ _ _ _ _ wr.drew
    clear k0 k2 k3
    generalize wr.drew = w2 at d0 d1 d2 d3 d4 H1 H3 H4 ⊢
    have hne : (⟨w1.heap.size, 2, none⟩ : Addr) ≠ ⟨p, 0, none⟩ := fun e => by injection e with e; omega
    go_wp2
    go_end0
    refine ⟨rfl, ⟨some ⟨w1.heap.size, 0, none⟩, ?_, w1.heap.size, some ⟨g, 0, none⟩, rfl, by omega, ?_, ?_⟩, ?_⟩
    · have h1 : PenHd (w2.setCell ⟨w1.heap.size, 2, none⟩ (.int .i64 ((n : Int) + T0))) p (some ⟨g, 0, none⟩) bad := H1.out.of_block (heap_setCell_other _ _ _ _ (by show p ≠ w1.heap.size; omega))
      exact h1.setLast _
    · rw [heap_setCell_other _ _ _ _ (by show w1.heap.size ≠ p; omega), heap_setCell_same _ _ _ _ _ _ H3.out, HS.out]
      rfl
    · exact HCH.out.only ((H4.out.setCell (.inr hsz) _).setCell (.inl rfl) _)
    · exact (H4.out.setCell (.inr hsz) _).setCell (.inl rfl) _

theorem pen_write_nil (w : World) (v : Value) : Calls Try.prog 30 #[.pointer none, v] w fun e w' => e = .returned (.tuple #[]) ∧ w = w' := by
  go_enter Try.func30, Try.ntmps30
  go_wp2
  exact bodyPost_ret (results_none rfl _ _ _) rfl ⟨rfl, rfl⟩
theorem pen_spoil (w : World) (p : Nat) (last : Option Addr) (bad : Bool) (h : PenHd w p last bad) :
    Calls Try.prog 42 #[.pointer (some ⟨p, 0, none⟩)] w fun e w' => e = .returned (.tuple #[]) ∧ PenHd w' p last true ∧ Only w w' p := by
  have c1 := h.bad1
  have f1 := h.fz 1
  have H := Lib.hid h
  clear h
  go_enter Try.func42, Try.ntmps42
  go_wp2
  go_end0
  exact ⟨rfl, H.out.setBad true, (Only.refl w p).setCell (.inl rfl) _⟩
theorem pen_spoil_nil (w : World) : Calls Try.prog 42 #[.pointer none] w fun e w' => e = .returned (.tuple #[]) ∧ w = w' := by
  go_enter Try.func42, Try.ntmps42
  go_wp2
  go_end0
  exact ⟨rfl, rfl⟩

namespace Pn
/-- Whether a number can be; the one whose bytes are written; its bytes. -/
def numOk (n : Int) : Bool := decide (0 ≤ n) && decide (n ≤ 4294967295)
def numV (n : Int) : Nat := if numOk n then n.toNat else 0
def numF (n : Int) (j : Nat) : UInt8 := UInt8.ofNat (numV n / 256 ^ j)
def numL (n : Int) : List UInt8 := (List.range 4).map (numF n)
theorem num_ok {n : Int} (h0 : 0 ≤ n) (h1 : n ≤ 4294967295) : numOk n = true := by unfold numOk; rw [decide_eq_true h0, decide_eq_true h1]; rfl
theorem num_neg {n : Int} (h0 : ¬ 0 ≤ n) : numOk n = false := by unfold numOk; rw [decide_eq_false h0]; rfl
theorem num_great {n : Int} (h1 : ¬ n ≤ 4294967295) : numOk n = false := by unfold numOk; rw [decide_eq_false h1, Bool.and_false]
theorem numV_ok {n : Int} (h : numOk n = true) : (numV n : Int) = n := by
  have : 0 ≤ n := by unfold numOk at h; simp at h; exact h.1
  unfold numV; rw [if_pos h]; omega
theorem numV_no {n : Int} (h : numOk n = false) : numV n = 0 := by unfold numV; rw [h]; rfl
theorem numL_length (n : Int) : (numL n).length = 4 := by simp [numL]
theorem numF_val (n : Int) (j : Nat) : ((numF n j).toNat : Int) = (numV n : Int) / ((256 ^ j : Nat) : Int) % 256 := by
  unfold numF
  rw [UInt8.toNat_ofNat', ← Int.natCast_ediv]
  omega
end Pn
/-- Four new bytes. -/
def Four (w : World) (f : Nat → UInt8) (e : Ending) (w' : World) : Prop :=
  ∃ g, e = .returned (.slice (some ⟨g, 0, none⟩) 4 4) ∧ w.heap.size ≤ g ∧ w'.heap[g]? = some (.cells #[.int .u8 ((f 0).toNat : Int), .int .u8 ((f 1).toNat : Int), .int .u8 ((f 2).toNat : Int), .int .u8 ((f 3).toNat : Int)] 5 (0, 0))
set_option maxRecDepth 100000 in
set_option maxHeartbeats 800000 in
theorem pen_number (w : World) (p : Nat) (last : Option Addr) (bad : Bool) (h : PenHd w p last bad) (n : Int) :
    Calls Try.prog 29 #[.pointer (some ⟨p, 0, none⟩), .int .i64 n] w fun e w' => Four w (numF n) e w' ∧ PenHd w' p last (bad || !numOk n) ∧ Only w w' p := by
  have hp := h.lt
  have H := Lib.hid h
  clear h
  have v0 := numF_val n 0
  have v1 := numF_val n 1
  have v2 := numF_val n 2
  have v3 := numF_val n 3
  simp only [Nat.pow_zero, Nat.pow_one, Int.ediv_one, Nat.reducePow, Int.cast_ofNat_Int] at v0 v1 v2 v3
  by_cases h0 : 0 ≤ n
  · by_cases h1 : n ≤ 4294967295
    · have HK := Lib.hid (num_ok h0 h1)
      have hv := numV_ok HK.out
      rw [hv] at v0 v1 v2 v3
      have n0 : ¬ n < 0 := by omega
      have n1 : ¬ 4294967295 < n := by omega
      have V0 := Lib.hid v0
      have V1 := Lib.hid v1
      have V2 := Lib.hid v2
      have V3 := Lib.hid (show ((numF n 3).toNat : Int) = n / 16777216 by omega)
      clear v0 v1 v2 v3 hv
      go_enter Try.func29, Try.ntmps29
      go_wp2
      go_ret
      refine ⟨⟨_, rfl, Nat.le_refl _, ?_⟩, ?_, (Only.refl w p).alloc _⟩
      · rw [heap_alloc_new, V0.out, V1.out, V2.out, V3.out]
      · have := H.out.of_block (heap_alloc_old w (.cells #[.int .u8 (n % 256), .int .u8 (n / 256 % 256), .int .u8 (n / 65536 % 256), .int .u8 (n / 16777216)] 5) hp)
        rw [HK.out]
        simpa using this
    · have HK := Lib.hid (num_great h1)
      have hv := numV_no HK.out
      rw [hv] at v0 v1 v2 v3
      have n0 : ¬ n < 0 := by omega
      have n1 : 4294967295 < n := by omega
      have V0 := Lib.hid (show ((numF n 0).toNat : Int) = 0 by omega)
      have V1 := Lib.hid (show ((numF n 1).toNat : Int) = 0 by omega)
      have V2 := Lib.hid (show ((numF n 2).toNat : Int) = 0 by omega)
      have V3 := Lib.hid (show ((numF n 3).toNat : Int) = 0 by omega)
      clear v0 v1 v2 v3 hv
      go_enter Try.func29, Try.ntmps29
      go_wp2_with (fail)
      refine (pen_spoil w p last bad H.out).mono ?_
      rintro e w' ⟨rfl, h2, h3⟩
      have H2 := Lib.hid h2
      clear h2
      go_wp2
      go_ret
      refine ⟨⟨_, rfl, h3.size, ?_⟩, ?_, h3.alloc _⟩
      · rw [heap_alloc_new, V0.out, V1.out, V2.out, V3.out]
      · rw [HK.out, Bool.not_false, Bool.or_true]
        exact H2.out.of_block (heap_alloc_old w' _ H2.out.lt)
  · have HK := Lib.hid (num_neg h0)
    have hv := numV_no HK.out
    rw [hv] at v0 v1 v2 v3
    have n0 : n < 0 := by omega
    have V0 := Lib.hid (show ((numF n 0).toNat : Int) = 0 by omega)
    have V1 := Lib.hid (show ((numF n 1).toNat : Int) = 0 by omega)
    have V2 := Lib.hid (show ((numF n 2).toNat : Int) = 0 by omega)
    have V3 := Lib.hid (show ((numF n 3).toNat : Int) = 0 by omega)
    clear v0 v1 v2 v3 hv
    go_enter Try.func29, Try.ntmps29
    go_wp2_with (fail)
    refine (pen_spoil w p last bad H.out).mono ?_
    rintro e w' ⟨rfl, h2, h3⟩
    have H2 := Lib.hid h2
    clear h2
    go_wp2
    go_ret
    refine ⟨⟨_, rfl, h3.size, ?_⟩, ?_, h3.alloc _⟩
    · rw [heap_alloc_new, V0.out, V1.out, V2.out, V3.out]
    · rw [HK.out, Bool.not_false, Bool.or_true]
      exact H2.out.of_block (heap_alloc_old w' _ H2.out.lt)
set_option maxRecDepth 100000 in
set_option maxHeartbeats 800000 in
theorem pen_number_nil (w : World) (n : Int) :
    Calls Try.prog 29 #[.pointer none, .int .i64 n] w fun e w' => Four w (numF n) e w' ∧ Below w.heap.size w w' := by
  have v0 := numF_val n 0
  have v1 := numF_val n 1
  have v2 := numF_val n 2
  have v3 := numF_val n 3
  simp only [Nat.pow_zero, Nat.pow_one, Int.ediv_one, Nat.reducePow, Int.cast_ofNat_Int] at v0 v1 v2 v3
  cases hk : numOk n with
  | true =>
    have hv := numV_ok hk
    rw [hv] at v0 v1 v2 v3
    have hk2 : 0 ≤ n ∧ n ≤ 4294967295 := by unfold numOk at hk; simpa using hk
    have n0 : ¬ n < 0 := by omega
    have n1 : ¬ 4294967295 < n := by omega
    obtain ⟨h0, h1⟩ := hk2
    have V0 := Lib.hid v0
    have V1 := Lib.hid v1
    have V2 := Lib.hid v2
    have V3 := Lib.hid (show ((numF n 3).toNat : Int) = n / 16777216 by omega)
    clear v0 v1 v2 v3 hv hk
    go_enter Try.func29, Try.ntmps29
    go_wp2
    go_ret
    refine ⟨⟨_, rfl, Nat.le_refl _, ?_⟩, (Below.refl _ _).alloc (Nat.le_refl _) _⟩
    rw [heap_alloc_new, V0.out, V1.out, V2.out, V3.out]
  | false =>
    have hv := numV_no hk
    rw [hv] at v0 v1 v2 v3
    have hk2 : n < 0 ∨ 4294967295 < n := by
      unfold numOk at hk
      simp only [Bool.and_eq_false_iff, decide_eq_false_iff_not] at hk
      omega
    have V0 := Lib.hid (show ((numF n 0).toNat : Int) = 0 by omega)
    have V1 := Lib.hid (show ((numF n 1).toNat : Int) = 0 by omega)
    have V2 := Lib.hid (show ((numF n 2).toNat : Int) = 0 by omega)
    have V3 := Lib.hid (show ((numF n 3).toNat : Int) = 0 by omega)
    clear v0 v1 v2 v3 hv hk
    rcases hk2 with n0 | n1
    · go_enter Try.func29, Try.ntmps29
      go_wp2_with (fail)
      refine (pen_spoil_nil w).mono ?_
      rintro e w' ⟨rfl, rfl⟩
      go_wp2
      go_ret
      refine ⟨⟨_, rfl, Nat.le_refl _, ?_⟩, (Below.refl _ _).alloc (Nat.le_refl _) _⟩
      rw [heap_alloc_new, V0.out, V1.out, V2.out, V3.out]
    · have n0 : ¬ n < 0 := by omega
      go_enter Try.func29, Try.ntmps29
      go_wp2_with (fail)
      refine (pen_spoil_nil w).mono ?_
      rintro e w' ⟨rfl, rfl⟩
      go_wp2
      go_ret
      refine ⟨⟨_, rfl, Nat.le_refl _, ?_⟩, (Below.refl _ _).alloc (Nat.le_refl _) _⟩
      rw [heap_alloc_new, V0.out, V1.out, V2.out, V3.out]
end Go.Proofs.Ytiehpaffbaafcaa
