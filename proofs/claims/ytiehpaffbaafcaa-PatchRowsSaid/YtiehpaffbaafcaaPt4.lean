/-
  Package patch: write, Bytes, Cost. Conditions: a pen stands in a block of its own; the deeds stand where it looks.
-/
import Derived.Test.YtiehpaffbaafcaaPt3
import Derived.Test.YtiehpaffbaafcaaPenBytes
namespace Go.Proofs.Ytiehpaffbaafcaa
open Go.ChangeShapes Go.WideShapes Go.ChangeAt Go.RowKit Pn Pt
namespace Pt
/-- What a pen in block p wrote; no number of it was too great. -/
def PenL (w : World) (p : Nat) (m : List UInt8) : Prop := ∃ l, PenAt w p l false ∧ penL l = m
theorem PenL.lt {w : World} {p : Nat} {m : List UInt8} (h : PenL w p m) : p < w.heap.size := by obtain ⟨l, h, _⟩ := h; exact h.lt
theorem PenL.below {w w' : World} {p : Nat} {m : List UInt8} (h : PenL w p m) (hb : Below w.heap.size w w') : PenL w' p m := by
  obtain ⟨l, h1, h2⟩ := h
  exact ⟨l, h1.below hb, h2⟩
theorem PenL.alloc {w : World} {p : Nat} {m : List UInt8} (h : PenL w p m) (o : Obj) : PenL (w.alloc o) p m := h.below ((Below.refl _ _).alloc (Nat.le_refl _) o)
def LSays (w : World) (p : Nat) (m : List UInt8) (e : Ending) (w' : World) : Prop := e = .returned (.tuple #[]) ∧ PenL w' p m ∧ Only w w' p
theorem total_of {l : List ByteArray} {m : List UInt8} (h : penL l = m) : total l = m.length := by rw [← h, penL_length]
theorem numsL_one (x : Int) : numsL (fun k => [x].getD k 0) 1 = numL x := by simp [numsL, List.range, List.range.loop]
theorem numsL_two (x y : Int) : numsL (fun k => [x, y].getD k 0) 2 = numL x ++ numL y := by simp [numsL, List.range, List.range.loop]
theorem textsL_one (s : ByteArray) : textsL (fun _ => s) 1 = textL s := by simp [textsL, List.range, List.range.loop]
theorem num_ok {x : Int} (h0 : 0 ≤ x) (h1 : x ≤ 2147483647) : numOk x = true := by unfold numOk; rw [decide_eq_true h0, decide_eq_true (by omega)]; rfl
end Pt
section
variable (w : World) (p : Nat) (m : List UInt8) (h : PenL w p m) (hm : m.length ≤ 100000000) (g cap : Nat) (hne : g ≠ p)
include h hm hne
theorem penl_num1 (x : Int) (h0 : 0 ≤ x) (h1 : x ≤ 2147483647) (hc : w.cell? ⟨g, 0, none⟩ = some (.int .i64 x)) :
    Calls Try.prog 14 #[.pointer (some ⟨p, 0, none⟩), .slice (some ⟨g, 0, none⟩) 1 cap] w (LSays w p (m ++ numL x)) := by
  obtain ⟨l, hl, he⟩ := h
  refine (pen_num w p l false hl (some ⟨g, 0, none⟩) 1 cap (fun k => [x].getD k 0) (by omega) (fun _ => ⟨g, 0, rfl, hne, fun k hk => ?_⟩) (by rw [total_of he]; omega)).mono ?_
  · obtain rfl : k = 0 := by omega
    exact hc
  · rintro e w' ⟨rfl, h1', h2⟩
    have hb : (false || !numsOk (fun k => [x].getD k 0) 1) = false := by
      have := num_ok h0 h1
      simp [numsOk, List.range, List.range.loop, this]
    rw [hb] at h1'
    exact ⟨rfl, ⟨_, h1', by rw [penL, he, numsL_one]⟩, h2⟩
theorem penl_num2 (x y : Int) (h0 : 0 ≤ x) (h1 : x ≤ 2147483647) (h2 : 0 ≤ y) (h3 : y ≤ 2147483647) (hc : w.cell? ⟨g, 0, none⟩ = some (.int .i64 x)) (hd : w.cell? ⟨g, 1, none⟩ = some (.int .i64 y)) :
    Calls Try.prog 14 #[.pointer (some ⟨p, 0, none⟩), .slice (some ⟨g, 0, none⟩) 2 cap] w (LSays w p (m ++ (numL x ++ numL y))) := by
  obtain ⟨l, hl, he⟩ := h
  refine (pen_num w p l false hl (some ⟨g, 0, none⟩) 2 cap (fun k => [x, y].getD k 0) (by omega) (fun _ => ⟨g, 0, rfl, hne, fun k hk => ?_⟩) (by rw [total_of he]; omega)).mono ?_
  · match k, hk with
    | 0, _ => exact hc
    | 1, _ => exact hd
  · rintro e w' ⟨rfl, h1', h2'⟩
    have hb : (false || !numsOk (fun k => [x, y].getD k 0) 2) = false := by
      have a := num_ok h0 h1
      have b := num_ok h2 h3
      simp [numsOk, List.range, List.range.loop, a, b]
    rw [hb] at h1'
    exact ⟨rfl, ⟨_, h1', by rw [penL, he, numsL_two]⟩, h2'⟩
theorem penl_text (s : ByteArray) (hs : s.size ≤ 8192) (hc : w.cell? ⟨g, 0, none⟩ = some (.string s)) :
    Calls Try.prog 34 #[.pointer (some ⟨p, 0, none⟩), .slice (some ⟨g, 0, none⟩) 1 cap] w (LSays w p (m ++ textL s)) := by
  obtain ⟨l, hl, he⟩ := h
  refine (pen_text w p l false hl (some ⟨g, 0, none⟩) 1 cap (fun _ => s) (by omega) (fun _ _ => by omega) (fun _ => ⟨g, 0, rfl, hne, fun k hk => ?_⟩) (by rw [total_of he]; omega)).mono ?_
  · obtain rfl : k = 0 := by omega
    exact hc
  · rintro e w' ⟨rfl, h1', h2⟩
    exact ⟨rfl, ⟨_, h1', by rw [penL, he, textsL_one]⟩, h2⟩
omit hne in
theorem penl_byte (x : UInt8) (hc : w.cell? ⟨g, 0, none⟩ = some (.int .u8 (x.toNat : Int))) :
    Calls Try.prog 33 #[.pointer (some ⟨p, 0, none⟩), .slice (some ⟨g, 0, none⟩) 1 cap] w (LSays w p (m ++ [x])) := by
  obtain ⟨l, hl, he⟩ := h
  refine (pen_byte w p l false hl (some ⟨g, 0, none⟩) 1 cap ⟨#[x]⟩ rfl (by show 1 + total l < _; rw [total_of he]; omega) (fun W hW => run_text W _ 1 cap [x] rfl fun j u hj => ?_)).mono ?_
  · have hj0 : j = 0 := by have := (List.getElem?_eq_some_iff.1 hj).1; rw [bcells_length] at this; simp at this; exact this
    subst hj0
    have hu : u = .int .u8 (x.toNat : Int) := (Option.some.inj hj).symm
    rw [hu, Addr.add_lit, World.cell?_of_block (w := w) (by rw [hW])]
    exact hc
  · rintro e w' ⟨rfl, h1', h2⟩
    exact ⟨rfl, ⟨_, h1', by rw [penL, he]⟩, h2⟩
end
theorem only_drop {w w2 : World} {o : Obj} {p : Nat} (h : Only (w.alloc o) w2 p) : Only w w2 p := (Only.of_below ((Below.refl _ _).alloc (Nat.le_refl _) o) p).trans h
theorem only_box {w w2 : World} {p g : Nat} {o : Obj} (h : w.heap[g]? = some o) (ho : Only w w2 p) (hne : g ≠ p) : w2.heap[g]? = some o := (ho.block g (Array.getElem?_eq_some_iff.1 h).1 hne).trans h
theorem bytL_copy (f s : Int) (d : ByteArray) : bytL ⟨1, f, s, d⟩ = [1] ++ (numL f ++ numL s) := by
  unfold bytL
  rw [if_pos rfl]
  rfl
theorem bytL_lay (f s : Int) (d : ByteArray) : bytL ⟨2, f, s, d⟩ = [2] ++ textL d := by
  unfold bytL
  rw [if_neg (show ¬ (2 : Int) = 1 by decide), if_pos rfl]
  rfl
theorem bytL_add (f s : Int) (d : ByteArray) : bytL ⟨3, f, s, d⟩ = [3] ++ (numL f ++ textL d) := by
  unfold bytL
  rw [if_neg (show ¬ (3 : Int) = 1 by decide), if_neg (show ¬ (3 : Int) = 2 by decide)]
  rfl
theorem one_cell (w : World) (v : Value) (t : TypeId) : (w.alloc (.cells #[v] t)).cell? ⟨w.heap.size, 0, none⟩ = some v := cell_of_row _ _ 0 _ _ _ (heap_alloc_new w _)
theorem two_cell (w : World) (u v : Value) (t : TypeId) : (w.alloc (.cells #[u, v] t)).cell? ⟨w.heap.size, 0, none⟩ = some u ∧ (w.alloc (.cells #[u, v] t)).cell? ⟨w.heap.size, 1, none⟩ = some v := ⟨cell_of_row _ _ 0 _ _ _ (heap_alloc_new w _), cell_of_row _ _ 1 _ _ _ (heap_alloc_new w _)⟩
/-- Behind the kind's byte. -/
theorem wr_byte {w W w2 : World} {o : Deed} {p : Nat} (hp : p < w.heap.size) (hW : W = (w.alloc (boxD 42 o)).alloc (.cells #[.int .u8 (o.k % 256)] 5)) (ho : Only W w2 p) : Only w w2 p ∧ w2.heap[w.heap.size]? = some (boxD 42 o) := by
  subst hW
  exact ⟨only_drop (only_drop ho), only_box ((heap_alloc_old _ _ (by simp)).trans (heap_alloc_new w _)) ho (by omega)⟩
set_option maxRecDepth 100000 in
set_option maxHeartbeats 6400000 in
theorem pt_write (w : World) (p : Nat) (m : List UInt8) (h : PenL w p m) (hm : m.length ≤ 50000000) (o : Deed) (hg : okD mxB o = true) :
    Calls Try.prog 16 #[.pointer (some ⟨p, 0, none⟩), dv o] w (LSays w p (m ++ bytL o)) := by
  have hp := h.lt
  have HP := Lib.hid hp
  have HM := Lib.hid hm
  have HY := Lib.hid h
  have H1 := Lib.hid (fun (x : UInt8) (W : World) (v : Value) (hv : v = .int .u8 (x.toNat : Int)) (hW : W = (w.alloc (boxD 42 o)).alloc (.cells #[v] 5)) => show Calls Try.prog 33 #[.pointer (some ⟨p, 0, none⟩), .slice (some ⟨w.heap.size + 1, 0, none⟩) 1 1] W (LSays W p (m ++ [x])) from by
    subst hW hv
    have := one_cell (w.alloc (boxD 42 o)) (.int .u8 (x.toNat : Int)) 5
    rw [World.size_alloc] at this
    exact penl_byte _ p m ((h.alloc _).alloc _) (by omega) (w.heap.size + 1) 1 x this)
  have HWY := Lib.hid (way hg)
  clear h hm hg hp
  obtain ⟨k, f, s, d⟩ := o
  unfold dv
  unfold boxD at H1
  simp only at H1 ⊢
  rcases HWY.out with ⟨hk, hd, hi⟩ | ⟨hk, hf, hs, ht⟩ | ⟨hk, hs, ht, hi⟩
  · simp only at hk hd hi
    subst hk
    have hins := ins_iff.1 hi
    rw [bytL_copy]
    have HQ := Lib.hid hins
    have HA := Lib.hid (H1.out 1)
    have HX := Lib.hid (fun (W w2 : World) (hW : W = _) (ho : Only W w2 p) => wr_byte (o := ⟨1, f, s, d⟩) HP.out hW ho)
    clear hins hd hi H1 HWY
    go_enter Try.func16, Try.ntmps16
    go_wp2_with (fail)
    refine (HA.out _ _ rfl rfl).mono ?_
    rintro e w2 ⟨rfl, p2, o2⟩
    have HO := Lib.hid (HX.out _ _ rfl o2)
    have HP2 := Lib.hid p2
    obtain ⟨d0, d1, d2, d3⟩ := box_at HO.out.2
    have HB := Lib.hid (show Calls Try.prog 14 #[.pointer (some ⟨p, 0, none⟩), .slice (some ⟨w2.heap.size, 0, none⟩) 2 2] (w2.alloc (.cells #[.int .i64 f, .int .i64 s] 3)) (LSays (w2.alloc (.cells #[.int .i64 f, .int .i64 s] 3)) p (m ++ [1] ++ (numL f ++ numL s))) from
      penl_num2 _ p (m ++ [1]) (HP2.out.alloc _) (by have := HM.out; simp; omega) w2.heap.size 2 (by have := HP2.out.lt; omega) f s (by have := HQ.out; omega) (by have := HQ.out; unfold mxB at this; omega) (by have := HQ.out; omega) (by have := HQ.out; unfold mxB at this; omega) (two_cell w2 _ _ _).1 (two_cell w2 _ _ _).2)
    clear p2 o2
    go_wp2_with (fail)
    refine HB.out.mono ?_
    rintro e w3 ⟨rfl, p3, o3⟩
    have HP3 := Lib.hid p3
    clear p3
    go_wp2
    go_end0
    exact ⟨rfl, by have := HP3.out; rw [List.append_assoc] at this; exact this, HO.out.1.trans (only_drop o3)⟩
  · simp only at hk hf hs ht
    subst hk
    have htl := tel_iff.1 ht
    rw [bytL_lay]
    have HQ := Lib.hid htl
    have HA := Lib.hid (H1.out 2)
    have HX := Lib.hid (fun (W w2 : World) (hW : W = _) (ho : Only W w2 p) => wr_byte (o := ⟨2, f, s, d⟩) HP.out hW ho)
    clear htl ht hf hs H1 HWY
    go_enter Try.func16, Try.ntmps16
    go_wp2_with (fail)
    refine (HA.out _ _ rfl rfl).mono ?_
    rintro e w2 ⟨rfl, p2, o2⟩
    have HO := Lib.hid (HX.out _ _ rfl o2)
    have HP2 := Lib.hid p2
    obtain ⟨d0, d1, d2, d3⟩ := box_at HO.out.2
    have HB := Lib.hid (show Calls Try.prog 34 #[.pointer (some ⟨p, 0, none⟩), .slice (some ⟨w2.heap.size, 0, none⟩) 1 1] (w2.alloc (.cells #[.string d] 9)) (LSays (w2.alloc (.cells #[.string d] 9)) p (m ++ [2] ++ textL d)) from
      penl_text _ p (m ++ [2]) (HP2.out.alloc _) (by have := HM.out; simp; omega) w2.heap.size 1 (by have := HP2.out.lt; omega) d HQ.out.2 (one_cell w2 _ _))
    clear p2 o2
    go_wp2_with (fail)
    refine HB.out.mono ?_
    rintro e w3 ⟨rfl, p3, o3⟩
    have HP3 := Lib.hid p3
    clear p3
    go_wp2
    go_end0
    exact ⟨rfl, by have := HP3.out; rw [List.append_assoc] at this; exact this, HO.out.1.trans (only_drop o3)⟩
  · simp only at hk hs ht hi
    subst hk
    have htl := tel_iff.1 ht
    have hins := ins_iff.1 hi
    rw [bytL_add]
    have HQ := Lib.hid htl
    have HQ2 := Lib.hid hins
    have HA := Lib.hid (H1.out 3)
    have HX := Lib.hid (fun (W w2 : World) (hW : W = _) (ho : Only W w2 p) => wr_byte (o := ⟨3, f, s, d⟩) HP.out hW ho)
    clear htl hins ht hi hs H1 HWY
    go_enter Try.func16, Try.ntmps16
    go_wp2_with (fail)
    refine (HA.out _ _ rfl rfl).mono ?_
    rintro e w2 ⟨rfl, p2, o2⟩
    have HO := Lib.hid (HX.out _ _ rfl o2)
    have HP2 := Lib.hid p2
    obtain ⟨d0, d1, d2, d3⟩ := box_at HO.out.2
    have HB := Lib.hid (show Calls Try.prog 14 #[.pointer (some ⟨p, 0, none⟩), .slice (some ⟨w2.heap.size, 0, none⟩) 1 1] (w2.alloc (.cells #[.int .i64 f] 3)) (LSays (w2.alloc (.cells #[.int .i64 f] 3)) p (m ++ [3] ++ numL f)) from
      penl_num1 _ p (m ++ [3]) (HP2.out.alloc _) (by have := HM.out; simp; omega) w2.heap.size 1 (by have := HP2.out.lt; omega) f (by have := HQ2.out; omega) (by have := HQ2.out; unfold mxB at this; omega) (one_cell w2 _ _))
    have HZ2 := Lib.hid (HP2.out.lt)
    clear p2 o2 d2
    go_wp2_with (fail)
    refine HB.out.mono ?_
    rintro e w3 ⟨rfl, p3, o3⟩
    have HP3 := Lib.hid p3
    have hb3 := only_box ((heap_alloc_old _ _ (by have := (Array.getElem?_eq_some_iff.1 HO.out.2).1; omega)).trans HO.out.2) o3 (by have := HP.out; omega)
    have HB3 := Lib.hid hb3
    obtain ⟨e0, e1, e2, e3⟩ := box_at HB3.out
    have HO3 := Lib.hid (HO.out.1.trans (only_drop o3))
    have HC := Lib.hid (show Calls Try.prog 34 #[.pointer (some ⟨p, 0, none⟩), .slice (some ⟨w3.heap.size, 0, none⟩) 1 1] (w3.alloc (.cells #[.string d] 9)) (LSays (w3.alloc (.cells #[.string d] 9)) p (m ++ [3] ++ numL f ++ textL d)) from
      penl_text _ p (m ++ [3] ++ numL f) (HP3.out.alloc _) (by have := HM.out; have := numL_length f; simp; omega) w3.heap.size 1 (by have := HP3.out.lt; omega) d HQ.out.2 (one_cell w3 _ _))
    clear p3 o3 d1 d3 hb3
    go_wp2_with (fail)
    refine HC.out.mono ?_
    rintro e w4 ⟨rfl, p4, o4⟩
    have HP4 := Lib.hid p4
    clear p4
    go_wp2
    go_end0
    exact ⟨rfl, by have := HP4.out; rw [List.append_assoc, List.append_assoc] at this; exact this, HO3.out.trans (only_drop o4)⟩
set_option maxRecDepth 100000 in
set_option maxHeartbeats 6400000 in
theorem pt_bytes (w : World) (A : Option Addr) (n c : Nat) (L : List Deed) (hL : L.length = n) (hA : DIn w A L) :
    Calls Try.prog 7 #[.slice A n c] w fun e w' => e = .returned (if canD L = true then .tuple #[.string ⟨(allL L).toArray⟩, .int .i64 0] else .tuple #[.string ⟨#[]⟩, .int .i64 1]) ∧ Below w.heap.size w w' := by
  have HL := Lib.hid hL
  have HA := Lib.hid hA
  generalize hV : (if canD L = true then Value.tuple #[.string ⟨(allL L).toArray⟩, .int .i64 0] else .tuple #[.string ⟨#[]⟩, .int .i64 1]) = V
  have HVY := Lib.hid (show canD L = true → V = Value.tuple #[.string ⟨(allL L).toArray⟩, .int .i64 0] from fun h => by rw [← hV, if_pos h])
  have HVN := Lib.hid (show canD L = false → V = Value.tuple #[.string ⟨#[]⟩, .int .i64 1] from fun h => by rw [← hV, if_neg (by rw [h]; exact Bool.false_ne_true)])
  clear hL hA hV
  by_cases hn : 256 < n
  · have x0 : 256 < (n : Int) := by omega
    have x1 : decide (256 < (n : Int)) = true := decide_eq_true x0
    have HC := Lib.hid (show canD L = false by unfold canD; rw [decide_eq_false (by have := HL.out; omega), Bool.false_and])
    go_enter Try.func7, Try.ntmps7
    go_wp2_with (fail)
    refine bodyPost_ret (results_tmp2 rfl _ _ _) rfl ?_
    rw [HVN.out HC.out]
    exact ⟨rfl, Below.refl _ _⟩
  have x0 : ¬ 256 < (n : Int) := by omega
  have x1 : decide (256 < (n : Int)) = false := decide_eq_false x0
  have HN := Lib.hid (show n ≤ 256 by omega)
  have HCN := Lib.hid (show canD L = L.all (okD mxB) by unfold canD; rw [decide_eq_true (by have := HL.out; omega), Bool.true_and])
  have HG := Lib.hid (fun o W => pt_good mxB (by decide) (by decide) o W)
  have HW := Lib.hid (fun W p m h hm o hg => pt_write W p m h hm o hg)
  have HP := Lib.hid (show PenL (w.alloc (.cells #[.pointer none, .bool false] 45)) w.heap.size [] from ⟨[], pen_new _ _ (heap_alloc_new w _), rfl⟩)
  have HB0 := Lib.hid (show Calls Try.prog 14 #[.pointer (some ⟨w.heap.size, 0, none⟩), .slice (some ⟨w.heap.size + 1, 0, none⟩) 1 1] ((w.alloc (.cells #[.pointer none, .bool false] 45)).alloc (.cells #[.int .i64 (n : Int)] 3)) (LSays ((w.alloc (.cells #[.pointer none, .bool false] 45)).alloc (.cells #[.int .i64 (n : Int)] 3)) w.heap.size ([] ++ numL (n : Int))) from by
    have := one_cell (w.alloc (.cells #[.pointer none, .bool false] 45)) (.int .i64 (n : Int)) 3
    rw [World.size_alloc] at this
    exact penl_num1 _ w.heap.size [] (HP.out.alloc _) (by simp) (w.heap.size + 1) 1 (by omega) (n : Int) (by omega) (by omega) this)
  clear hn
  go_enter Try.func7, Try.ntmps7
  go_wp2_with (fail)
  refine HB0.out.mono ?_
  rintro e w1 ⟨rfl, p1, o1⟩
  have HP1 := Lib.hid p1
  have HB1 := Lib.hid (show Below w.heap.size w w1 from (((Below.refl w.heap.size w).alloc (Nat.le_refl _) _).alloc (by simp) _).trans (o1.below (Nat.le_refl _) (by simp; omega)))
  clear p1 o1 HB0 HP
  go_wp2_with (fail)
  go_loopw [16] (fun i wr => ∃ j : Nat, i = .int .i64 (j : Int) ∧ j ≤ n ∧ (L.take j).all (okD mxB) = true ∧ PenL wr w.heap.size (numL (n : Int) ++ bodL (L.take j)) ∧ Below w.heap.size w wr) (fun i _ => match i with | .int _ k => n - k.toNat | _ => 0)
  case atStart => exact ⟨0, rfl, Nat.zero_le _, rfl, by have := HP1.out; exact (List.append_nil (numL (n : Int))).symm ▸ this, HB1.out⟩
  case round =>
    clear HP1 HB1
    obtain ⟨j, rfl, hj, hall, hpl, hb⟩ := hrel
    have HALL := Lib.hid hall
    have HPL := Lib.hid hpl
    have HB := Lib.hid hb
    clear hall hpl hb
    have x2 : 0 ≤ (j : Int) := by omega
    by_cases hlt : j < n
    · have y0 : (j : Int) < (n : Int) := by omega
      have y1 : decide ((j : Int) < (n : Int)) = true := decide_eq_true y0
      have hjl : j < L.length := by rw [HL.out]; exact hlt
      obtain ⟨pb, po, rfl, hc⟩ := (HA.out.below HB.out (Nat.le_refl _)) (by omega)
      obtain ⟨c0, c1, c2, c3⟩ := hc j _ (deed_at hjl)
      have htk : L.take (j + 1) = L.take j ++ [L.getD j dz] := by
        rw [List.take_add_one, deed_at hjl]
        rfl
      have HMM := Lib.hid (show L.getD j dz ∈ L from by rw [List.getD_eq_getElem?_getD, List.getElem?_eq_getElem hjl]; exact List.getElem_mem hjl)
      have HJ := Lib.hid (show j + 1 ≤ n by omega)
      generalize L.getD j dz = o at c0 c1 c2 c3 htk HMM
      have HTK := Lib.hid htk
      have HGO := Lib.hid (HG.out o)
      have hw1 := IntWalk.wrap64_in ((j : Int) + 1) (by have := HN.out; omega)
      have HW1 := Lib.hid hw1
      have HLE := Lib.hid (show (numL (n : Int) ++ bodL (L.take j)).length ≤ 50000000 from by
        have h1 := bodL_le _ HALL.out
        rw [List.length_append, numL_length]
        rw [List.length_take, HL.out, Nat.min_eq_left (by omega)] at h1
        have := HN.out
        omega)
      unfold dv mxB at HGO
      clear hc hjl hlt htk hw1
      cases hgd : okD mxB o with
      | false =>
        unfold mxB at hgd
        rw [hgd] at HGO
        have HE := Lib.hid (HVN.out (HCN.out.trans (by
          rw [Bool.eq_false_iff]
          intro h
          have := List.all_eq_true.1 h o HMM.out
          unfold mxB at this
          rw [hgd] at this
          cases this)))
        clear hgd
        go_wp2_with (go_at_call 15; refine (HGO.out _).mono ?_; rintro e w2 ⟨rfl, b2⟩; have HB2 := Lib.hid b2; clear b2)
        refine bodyPost_ret (results_tmp2 rfl _ _ _) rfl ?_
        rw [HE.out]
        exact ⟨rfl, (HB.out.alloc HB.out.size _).trans (HB2.out.mono (by have := HB.out.size; simp; omega))⟩
      | true =>
        have HGD := Lib.hid hgd
        have HWO := Lib.hid (fun W (h : PenL W w.heap.size (numL (n : Int) ++ bodL (L.take j))) => show Calls Try.prog 16 #[.pointer (some ⟨w.heap.size, 0, none⟩), dv o] W (LSays W w.heap.size (numL (n : Int) ++ bodL (L.take (j + 1)))) from by
          have := HW.out W _ _ h HLE.out o HGD.out
          rw [HTK.out, bodL_next, ← List.append_assoc]
          exact this)
        have HAL2 := Lib.hid (show (L.take (j + 1)).all (okD mxB) = true from by
          rw [HTK.out, List.all_append, HALL.out]
          simp [HGD.out])
        unfold mxB at hgd
        rw [hgd] at HGO
        unfold dv at HWO
        clear hgd HW HG
        go_wp2_with (first | (go_at_call 15; refine (HGO.out _).mono ?_; rintro e w2 ⟨rfl, b2⟩; have HB2 := Lib.hid (show Below w.heap.size w w2 from (HB.out.alloc HB.out.size _).trans (b2.mono (by have := HB.out.size; simp; omega))); obtain ⟨d0, d1, d2, d3⟩ := box_at (t := 42) (o := o) ((b2.block wr.heap.size (by simp)).trans (by unfold boxD; exact heap_alloc_new wr _)); have HP2 := Lib.hid (PenL.below (HPL.out.alloc _) b2); clear b2) | (go_at_call 16; refine (HWO.out _ HP2.out).mono ?_; rintro e w3 ⟨rfl, p3, o3⟩; have HP3 := Lib.hid p3; have HB3 := Lib.hid (HB2.out.trans (o3.below (Nat.le_refl _) (by have := HB2.out.size; omega))); clear p3 o3))
        try rw [HW1.out]
        exact ⟨⟨j + 1, rfl, HJ.out, HAL2.out, HP3.out, HB3.out⟩, pt_less j n HJ.out⟩
    · have hje : j = n := by omega
      subst hje
      have y0 : ¬ (j : Int) < (j : Int) := by omega
      have y1 : decide ((j : Int) < (j : Int)) = false := decide_eq_false y0
      have htl : L.take j = L := List.take_of_length_le (by rw [HL.out]; exact Nat.le_refl _)
      have hpl := HPL.out
      have hall := HALL.out
      rw [htl] at hpl hall
      have HE := Lib.hid (HVY.out (HCN.out.trans hall))
      have HBY := Lib.hid (show Calls Try.prog 17 #[.pointer (some ⟨w.heap.size, 0, none⟩)] wr fun e w' => e = .returned (.string ⟨(allL L).toArray⟩) ∧ Below wr.heap.size wr w' from by
        obtain ⟨l, h1, h2⟩ := hpl
        have := pen_bytes wr w.heap.size l false h1 (by
          rw [total_of h2]
          have h3 := bodL_le _ hall
          rw [List.length_append, numL_length]
          rw [HL.out] at h3
          have := HN.out
          omega)
        rw [h2, ← HL.out] at this
        exact this)
      clear htl hpl hall
      go_wp2_with (fail)
      refine HBY.out.mono ?_
      rintro e w2 ⟨rfl, b2⟩
      go_wp2_with (fail)
      refine bodyPost_ret (results_tmp2 rfl _ _ _) rfl ?_
      rw [HE.out]
      exact ⟨rfl, HB.out.trans (b2.mono HB.out.size)⟩
/-- How many bytes deeds have. -/
def Pt.costD (L : List Deed) : Nat := if canD L = true then (allL L).length else 0
set_option maxRecDepth 100000 in
theorem pt_cost (w : World) (A : Option Addr) (n c : Nat) (L : List Deed) (hL : L.length = n) (hA : DIn w A L) :
    Calls Try.prog 10 #[.slice A n c] w fun e w' => e = .returned (.int .i64 (Pt.costD L : Int)) ∧ Below w.heap.size w w' := by
  have HB := Lib.hid (pt_bytes w A n c L hL hA)
  have hC : Pt.costD L = if canD L = true then (allL L).length else 0 := rfl
  generalize Pt.costD L = C at hC ⊢
  cases hcd : canD L with
  | true =>
    rw [hcd, if_pos rfl] at HB hC
    have hs : (⟨(allL L).toArray⟩ : ByteArray).size = C := by rw [hC]; exact List.size_toArray
    generalize (⟨(allL L).toArray⟩ : ByteArray) = q at HB hs
    subst hs
    clear hC hcd
    go_enter Try.func10, Try.ntmps10
    go_wp2_with (fail)
    refine HB.out.mono ?_
    rintro e w2 ⟨rfl, b2⟩
    go_wp2_with (fail)
    exact bodyPost_ret (results_tmp rfl _ _ _) rfl ⟨rfl, b2⟩
  | false =>
    rw [hcd, if_neg Bool.false_ne_true] at HB hC
    subst hC
    clear hcd
    go_enter Try.func10, Try.ntmps10
    go_wp2_with (fail)
    refine HB.out.mono ?_
    rintro e w2 ⟨rfl, b2⟩
    go_wp2_with (fail)
    exact bodyPost_ret (results_tmp rfl _ _ _) rfl ⟨rfl, b2⟩
end Go.Proofs.Ytiehpaffbaafcaa
