/-
  Package seal: Size, sectorsOf, numberOf, sealed. Conditions: both tables of sums lie as the program's text lays them; a text of at most 1024 bytes; a sector of 32.
-/
import Derived.Test.YtegehfdjchmgcaaDoorMg8
import Derived.Test.YtegehfdjchmgcaaDoorMg9
import Derived.Test.YtegehfdjchmgcaaDoorMg5
import Derived.Test.YtegehfdjchmgcaaDoorMg7
set_option maxRecDepth 100000
namespace Go.Proofs.YtegehfdjchmgcaaDoor
open Go.ChangeShapes Go.WideShapes Go.ChangeAt Go.RowKit Pn Dk Sl

theorem gen_calls {P : Program} {f : FuncId} {args : Array Value} {w : World} {Q : Ending → World → Prop} (R : World → Prop) (h0 : R w) (h : ∀ wr, R wr → Calls P f args wr Q) : Calls P f args w Q := h w h0
theorem retI {a b : Int} (h : a = b) : Ending.returned (.int .i64 a) = .returned (.int .i64 b) := by rw [h]
theorem seal_sectorsOf (w : World) (k : Nat) (hk : k ≤ 1099511627776) :
    Calls Tryd.prog 29 #[.int .i64 (k : Int)] w fun e w' => e = .returned (.int .i64 (szN k : Int)) ∧ w = w' := by
  have l0 : 0 ≤ (k : Int) := by omega
  have l1 : (k : Int) ≤ 1099511627776 := by omega
  go_enter Tryd.func29, Tryd.ntmps29
  go_wp2
  go_ret
  exact ⟨retI (by unfold szN; omega), rfl⟩
theorem seal_size (w : World) (s : ByteArray) (hs : s.size ≤ 1099511627776) :
    Calls Tryd.prog 9 #[.string s] w fun e w' => e = .returned (.int .i64 (szN s.size : Int)) ∧ w = w' := by
  have H := Lib.hid (seal_sectorsOf w s.size hs)
  clear hs
  go_enter Tryd.func9, Tryd.ntmps9
  go_wp2_with (fail)
  refine H.out.mono ?_
  rintro e w' ⟨rfl, rfl⟩
  go_wp2
  go_ret
  exact ⟨rfl, rfl⟩

namespace Sl
theorem sec_tail (g : Nat → UInt8) : (secS g).extract 28 32 = ⟨#[g 28, g 29, g 30, g 31]⟩ := by
  apply ByteArray.ext
  apply Array.toList_inj.1
  rw [ByteArray.data_extract, Array.toList_extract, List.extract_eq_take_drop]
  show List.take 4 (List.drop 28 ((List.range 32).map g)) = _
  simp [List.range, List.range.loop]
theorem nm_four (a b c d : UInt8) (most : Nat) : nmOut ⟨#[a, b, c, d]⟩ (most : Int) = if vN a b c d ≤ most then vN a b c d else 0 := by
  have e : le4 ⟨#[a, b, c, d]⟩ = vN a b c d := rfl
  unfold nmOut nmOk
  rw [e, decide_eq_true (show 4 ≤ (⟨#[a, b, c, d]⟩ : ByteArray).size from Nat.le_refl 4), Bool.true_and]
  by_cases h : vN a b c d ≤ most
  · rw [if_pos h, if_pos (decide_eq_true (by omega))]
  · rw [if_neg h, if_neg (by rw [decide_eq_true_iff]; omega)]
theorem nm_sec (g : Nat → UInt8) : nmOut ((secS g).extract 28 32) 2147483647 = numG g := by
  rw [sec_tail]
  exact nm_four _ _ _ _ 2147483647
end Sl
set_option maxRecDepth 100000 in
set_option maxHeartbeats 800000 in
theorem seal_numberOf (w : World) (g : Nat → UInt8) :
    Calls Tryd.prog 33 #[.string (secS g)] w fun e w' => e = .returned (.int .i64 (numG g : Int)) ∧ Below w.heap.size w w' := by
  have HN := Lib.hid (nm_sec g)
  have hz : (secS g).size = 32 := secS_size g
  generalize secS g = q at hz HN ⊢
  have hz1 : (28 : Int) ≤ (q.size : Int) := by omega
  have HX := Lib.hid (show q.extract 28 q.size = q.extract 28 32 by rw [hz])
  clear hz
  go_enter Tryd.func33, Tryd.ntmps33
  go_wp2_with (fail)
  rw [HX.out]
  refine (eye_of _ w).mono ?_
  rintro e w1 ⟨rfl, h1, b1⟩
  have H1 := Lib.hid h1
  have B1 := Lib.hid b1
  clear h1 b1
  go_wp2_with (fail)
  refine (eye_num w1 w.heap.size _ false H1.out 2147483647).mono ?_
  rintro e w2 ⟨rfl, _, o2⟩
  rw [HN.out]
  have O2 := Lib.hid o2
  clear o2
  go_wp2_with (fail)
  refine bodyPost_ret (results_tmp rfl _ _ _) rfl ?_
  exact ⟨rfl, B1.out.trans (O2.out.below (Nat.le_refl _) B1.out.size)⟩

theorem Chain.keepT {w w' : World} {p b : Nat} {last : Option Addr} {bad : Bool} (hb : PenHd w b last bad) (ho : Only w w' b) : ∀ {l : List ByteArray} {a : Option Addr}, Chain w p a l → Chain w' p a l
  | [], _, h => h
  | _ :: _, _, ⟨g, ah, e, hg, hx, hr⟩ => ⟨g, ah, e, hg, (ho.block g (Array.getElem?_eq_some_iff.1 hx).1 (ne_type hx hb (by decide))).trans hx, hr.keepT hb ho⟩
/-- Another pen's call leaves a pen as it is. -/
theorem PenAt.beside {w w' : World} {p b : Nat} {l : List ByteArray} {bad : Bool} {last : Option Addr} {bad' : Bool} (h : PenAt w p l bad) (hb : PenHd w b last bad') (hne : p ≠ b) (ho : Only w w' b) : PenAt w' p l bad := by
  obtain ⟨a, h1, h2⟩ := h
  exact ⟨a, h1.of_block (ho.block p h1.lt hne), h2.keepT hb ho⟩
theorem dgOneS (f : Nat → UInt8) : Tryd.prog.builtSlice 75 1 [(0, .agg (dgV f))] = some (dgV f) := by kernel_rfl
namespace Sl
theorem one_text (s : ByteArray) : textsL (fun _ => s) 1 = textL s := by simp [textsL, List.range, List.range.loop]
theorem one_digS (f : Nat → UInt8) : digsL (fun _ => f) 1 = digL f := by simp [digsL, List.range, List.range.loop]
theorem pen_body (s : ByteArray) (N : Nat) (hN : N = 28 * szN s.size - 36 - s.size) : penL [⟨(List.replicate N 0).toArray⟩, ⟨(textL s).toArray⟩] = bodyL s := by
  subst hN
  simp only [penL, List.nil_append]
  rfl
theorem pen_sum (L : List UInt8) : penL [⟨L.toArray⟩] = L := by simp [penL]
theorem seal_cat (s : ByteArray) : (⟨(digL (sumF (bodyL s))).toArray⟩ : ByteArray) ++ ⟨(bodyL s).toArray⟩ = ⟨(sealL s).toArray⟩ := by
  apply ByteArray.ext
  simp [ByteArray.data_append, sealL]
theorem szList (L : List UInt8) : (⟨L.toArray⟩ : ByteArray).size = L.length := by simp [ByteArray.size]
end Sl
set_option maxRecDepth 100000 in
set_option maxHeartbeats 3200000 in
theorem seal_sealed (w : World) (s : ByteArray) (hs : s.size ≤ 1024) (hT : Tabs w) :
    Calls Tryd.prog 24 #[.string s] w fun e w' => e = .returned (.string ⟨(sealL s).toArray⟩) ∧ Below w.heap.size w w' := by
  obtain ⟨N, hN⟩ : ∃ N, N = 28 * szN s.size - 36 - s.size := ⟨_, rfl⟩
  have hle := szN_le s.size
  have hmx := szN_max s.size hs
  have hNi : 28 * (szN s.size : Int) - 36 - (s.size : Int) = (N : Int) := by omega
  have HM := Lib.hid (show ∀ W, (Instr.makeSlice 59 (.int .i64 (28 * (szN s.size : Int) - 36 - (s.size : Int))) (.int .i64 (28 * (szN s.size : Int) - 36 - (s.size : Int)))).run Tryd.prog W = .ok (.slice (some ⟨W.heap.size, 0, none⟩) N N) (W.alloc (.cells (vals N fun _ => .int .u8 0) 5)) from fun W => by rw [hNi]; exact run_make_bytes N (by omega) W)
  have HT := Lib.hid hT
  have HPB := Lib.hid (pen_body s N hN)
  have HZ := Lib.hid (seal_size · s (by omega))
  have HCAT := Lib.hid (seal_cat s)
  have hbl := bodyL_length s
  have HBL := Lib.hid (show (bodyL s).length ≤ 1064 by omega)
  have hNb : N ≤ 64 := by have := szN_lt s.size; omega
  have z0 : 0 ≤ (szN s.size : Int) := by omega
  have z1 : (szN s.size : Int) ≤ 38 := by omega
  have y1 : (s.size : Int) ≤ 1024 := by omega
  have y2 : 36 + (s.size : Int) ≤ 28 * (szN s.size : Int) := by omega
  have hs1 : s.size ≤ 1000000 := by omega
  have htt : (textsL (fun _ => s) 1).length ≤ 1028 := by rw [one_text, textL_length]; omega
  have HTT := Lib.hid htt
  clear hs hT hN hle hmx hNi hbl htt
  generalize (szN s.size : Int) = Z at HM HZ z0 z1 y2
  go_enter Tryd.func24, Tryd.ntmps24
  go_wp2_with (fail)
  refine gen_calls (fun W => W.heap.size = w.heap.size + 3 ∧ PenHd W w.heap.size none false ∧ PenHd W (w.heap.size + 1) none false ∧ W.heap[w.heap.size + 1 + 1]? = some (.cells #[.string s] 9 (0, 0)) ∧ Below w.heap.size w W) ?_ ?_
  · refine ⟨by simp, ?_, ?_, ?_, (((Below.refl _ _).alloc (Nat.le_refl _) _).alloc (by simp) _).alloc (by simp; omega) _⟩
    · exact (heap_alloc_old _ _ (by simp; omega)).trans ((heap_alloc_old _ _ (by simp)).trans (heap_alloc_new w _))
    · exact (heap_alloc_old _ _ (by simp)).trans (heap_alloc2_new w _ _)
    · have := heap_alloc_new ((w.alloc (.cells #[.pointer none, .bool false] 54)).alloc (.cells #[.pointer none, .bool false] 54)) (.cells #[.string s] 9)
      simpa using this
  rintro w1 ⟨s1, p1, q1, c1, b1⟩
  have hne : w.heap.size + 1 ≠ w.heap.size := by omega
  refine (pen_text w1 w.heap.size [] false ⟨none, p1, rfl⟩ (some ⟨w.heap.size + 1 + 1, 0, none⟩) 1 1 (fun _ => s) (by omega) (fun _ _ => hs1) (fun _ => ⟨_, 0, rfl, by omega, fun k hk => ?_⟩) (by simp only [total]; omega)).mono ?_
  · obtain rfl : k = 0 := by omega
    exact cell_of_row _ _ 0 _ _ _ c1
  rintro e w2 ⟨rfl, h2, o2⟩
  rw [one_text] at h2
  have H2 := Lib.hid h2
  have Q2 := Lib.hid (q1.of_block (o2.block _ (by omega) hne))
  have B2 := Lib.hid (b1.trans (o2.below (Nat.le_refl _) (by omega)))
  clear h2 o2 s1 p1 q1 c1 b1
  go_wp2_with (fail)
  refine (HZ.out w2).mono ?_
  rintro e w3 ⟨rfl, rfl⟩
  have hmk := HM.out w2
  go_wp2_with (fail)
  have hzl : (List.replicate N (0 : UInt8)).length = N := List.length_replicate ..
  have H3 := Lib.hid (H2.out.below ((Below.refl w2.heap.size w2).alloc (Nat.le_refl _) (.cells (vals N fun _ => .int .u8 0) 5)))
  have Q3 := Lib.hid (Q2.out.below ((Below.refl w2.heap.size w2).alloc (Nat.le_refl _) (.cells (vals N fun _ => .int .u8 0) 5)))
  have B3 := Lib.hid (B2.out.alloc B2.out.size (.cells (vals N fun _ => .int .u8 0) 5))
  have hCV : ∀ W : World, W.heap = (w2.alloc (.cells (vals N fun _ => .int .u8 0) 5)).heap → (convert 59 9 (.slice (some ⟨w2.heap.size, 0, none⟩) N N)).run Tryd.prog W = .ok (.string ⟨(List.replicate N 0).toArray⟩) W := fun W hW => by
    refine run_text W _ N N (List.replicate N 0) hzl.symm fun j u hj => ?_
    have hjN : j < N := by have := (List.getElem?_eq_some_iff.1 hj).1; rwa [bcells_length, hzl] at this
    rw [Addr.add_lit, Nat.zero_add, World.cell?_of_block (w := w2.alloc (.cells (vals N fun _ => .int .u8 0) 5)) (by rw [hW]), cell_of_row _ _ _ _ _ _ (heap_alloc_new w2 _), vals_get N _ j hjN, ← hj, bcells_get _ _ (by rw [hzl]; exact hjN)]
    simp [hjN]
  refine (pen_byte _ w.heap.size _ false H3.out (some ⟨w2.heap.size, 0, none⟩) N N ⟨(List.replicate N 0).toArray⟩ (by rw [szList, hzl]) (by simp only [total, szList, hzl, textL_length]; omega) hCV).mono ?_
  clear hCV hmk
  rintro e w4 ⟨rfl, h4, o4⟩
  have H4 := Lib.hid h4
  have Q4 := Lib.hid (Q3.out.of_block (o4.block _ Q3.out.lt hne))
  have B4 := Lib.hid (B3.out.trans (o4.below (Nat.le_refl _) B3.out.size))
  clear h4 o4 H2 Q2 B2 H3 Q3 B3
  have HTL := Lib.hid (show total [⟨(List.replicate N 0).toArray⟩, ⟨(textL s).toArray⟩] < 1099511627776 by simp only [total, szList, hzl, textL_length]; omega)
  go_wp2_with (fail)
  refine (pen_bytes w4 w.heap.size _ false H4.out HTL.out).mono ?_
  rintro e w5 ⟨rfl, b5⟩
  rw [HPB.out]
  have H5 := Lib.hid (H4.out.below b5)
  have Q5 := Lib.hid (Q4.out.below b5)
  have B5 := Lib.hid (B4.out.trans (b5.mono B4.out.size))
  clear b5 H4 Q4 B4
  go_wp2_with (fail)
  have b6 : Below w5.heap.size w5 (w5.alloc (.cells #[.string ⟨(bodyL s).toArray⟩] 9)) := (Below.refl _ _).alloc (Nat.le_refl _) _
  have H6 := Lib.hid (H5.out.below b6)
  have Q6 := Lib.hid (Q5.out.below b6)
  have B6 := Lib.hid (B5.out.trans (b6.mono B5.out.size))
  have T6 := Lib.hid (HT.out.below (B6.out.mono (Nat.le_refl _)))
  clear b6
  refine (of_here [⟨(bodyL s).toArray⟩] (bodyL s) (by simp [flat]) _ (some ⟨w5.heap.size, 0, none⟩) 1 1 rfl (by omega) (fun _ => ⟨_, 0, rfl, fun k hk => ?_⟩) T6.out.f T6.out.k (by have := HBL.out; omega)).mono ?_
  · obtain rfl : k = 0 := by omega
    exact cell_of_row _ _ 0 _ _ _ (heap_alloc_new w5 _)
  rintro e w7 ⟨rfl, b7⟩
  have H7 := Lib.hid (H6.out.below b7)
  have Q7 := Lib.hid (Q6.out.below b7)
  have B7 := Lib.hid (B6.out.trans (b7.mono B6.out.size))
  clear b7 H5 Q5 B5 H6 Q6 B6 T6
  generalize hF : sumF (bodyL s) = F at HCAT
  have HFF := Lib.hid hF
  clear hF
  rw [show digF F = dgV F from rfl]
  go_wp2_with (refine wpList_one rfl 105 75 (.tmp 19) rfl (some 20) rfl Tryd.underlying105 (dgV F) rfl (dgOneS F) ?_)
  have b8 : Below w7.heap.size w7 (w7.alloc (.cells (dgV F) 75)) := (Below.refl _ _).alloc (Nat.le_refl _) _
  have H8 := Lib.hid (H7.out.below b8)
  have Q8 := Lib.hid (Q7.out.below b8)
  have B8 := Lib.hid (B7.out.trans (b8.mono B7.out.size))
  have q8 : w.heap.size + 1 < w7.heap.size := Q7.out.lt
  clear b8
  refine (pen_digest _ (w.heap.size + 1) [] false ⟨none, Q8.out, rfl⟩ (some ⟨w7.heap.size, 0, none⟩) 1 1 (fun _ => F) (by omega) (fun _ => ⟨_, 0, rfl, by omega, fun k hk j v hj => ?_⟩) (by simp only [total]; omega)).mono ?_
  · obtain rfl : k = 0 := by omega
    rw [cell_of_row _ _ _ _ _ _ (heap_alloc_new w7 _), ← Array.getElem?_toList, ← hj]
    congr 1
    omega
  rintro e w9 ⟨rfl, h9, o9⟩
  rw [one_digS] at h9
  have S9 := Lib.hid h9
  have H9 := Lib.hid (H8.out.beside Q8.out (by omega) o9)
  have B9 := Lib.hid (B8.out.trans (o9.below (by omega) B8.out.size))
  clear h9 o9 H7 Q7 B7 H8 Q8 B8
  go_wp2_with (fail)
  refine (pen_bytes w9 (w.heap.size + 1) _ false S9.out (by simp only [total, szList, digL_length]; omega)).mono ?_
  rintro e wa ⟨rfl, ba⟩
  rw [pen_sum]
  have Ha := Lib.hid (H9.out.below ba)
  have Ba := Lib.hid (B9.out.trans (ba.mono B9.out.size))
  clear ba S9 H9 B9
  go_wp2_with (fail)
  refine (pen_bytes wa w.heap.size _ false Ha.out HTL.out).mono ?_
  rintro e wb ⟨rfl, bb⟩
  rw [HPB.out]
  have Bb := Lib.hid (Ba.out.trans (bb.mono Ba.out.size))
  clear bb Ha Ba
  have n1 : ¬ 9223372036854775807 < (⟨(digL F).toArray⟩ : ByteArray).size + (⟨(bodyL s).toArray⟩ : ByteArray).size := by rw [szList, szList, digL_length]; have := HBL.out; omega
  generalize (⟨(bodyL s).toArray⟩ : ByteArray) = bb at n1 HCAT ⊢
  generalize (⟨(digL F).toArray⟩ : ByteArray) = dd at n1 HCAT ⊢
  go_wp2_with (fail)
  refine bodyPost_ret (results_tmp rfl _ _ _) rfl ?_
  rw [HCAT.out]
  exact ⟨rfl, Bb.out⟩
end Go.Proofs.YtegehfdjchmgcaaDoor
