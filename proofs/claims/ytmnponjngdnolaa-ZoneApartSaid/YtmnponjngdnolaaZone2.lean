/-
  Package zone: what change, Fill, All and Part answer. Conditions: the zone stands in its block, its disk in blocks of its own.
-/
import Derived.Test.YtmnponjngdnolaaZone
import Derived.Test.YtmnponjngdnolaaShelfRep
import Derived.Great.BuildSlice
import Derived.Lib.AppendStr
namespace Go.Proofs.Ytmnponjngdnolaa
open Go.ChangeShapes Go.WideShapes Go.ChangeAt Go.RowKit Dk

theorem strCells_secS (g : Nat → UInt8) : Lib.strCells (secS g) = secL g := by
  apply List.ext_getElem?
  intro j
  by_cases hj : j < 32
  · rw [secL_get _ _ hj]
    unfold Lib.strCells secS
    simp [hj]
  · rw [List.getElem?_eq_none (by rw [Lib.strCells_length, secS_size]; omega), List.getElem?_eq_none (by rw [secL_length]; omega)]
theorem byteOne (b : Int) : Try.prog.builtSlice 5 1 [(0, .int .u8 b)] = some #[.int .u8 b] := by kernel_rfl
theorem run_one (w : World) (b : UInt8) (W : World) (h : W.heap[w.heap.size]? = some (.cells #[.int .u8 (b.toNat : Int)] 5 (0, 0))) (cap : Nat) :
    (convert 22 9 (.slice (some ⟨w.heap.size, 0, none⟩) 1 cap)).run Try.prog W = .ok (.string ⟨#[b]⟩) W := by
  refine run_textK W _ 1 cap [b] rfl fun j u hj => ?_
  rw [Addr.add_lit, Nat.zero_add, cell_of_row _ _ _ _ _ _ h, ← hj, List.getElem?_toArray]
  rfl
theorem repeat_byte (b : UInt8) (W : World) : Calls Try.prog 27 #[.string ⟨#[b]⟩, .int .i64 32] W fun e w' => e = .returned (.string (secS fun _ => b)) ∧ Below W.heap.size W w' :=
  Try.strings_Repeat ⟨#[b]⟩ 32 W (by decide) (show 1 * 32 ≤ _ by decide)
theorem texts_ne {s q : ByteArray} (h : s ≠ q) : (s.toList == q.toList) = false := by
  rw [beq_eq_false_iff_ne, ByteArray.toList_eq, ByteArray.toList_eq]
  exact fun e => h (ByteArray.ext (Array.ext' e))
section
variable (w : World) (Z D f n : Nat) (hz : w.heap[Z]? = some (zobj D f n))
include hz
set_option maxRecDepth 100000 in
set_option maxHeartbeats 1600000 in
/-- A sector is written, unless it is so already. -/
theorem zone_change_by (p : Nat) (hp : p < n) (hfn : f + n ≤ 4096) (s q : ByteArray) (hq : q.size = 32) (R : Int → World → Prop)
    (hr : ∀ k, Calls Try.prog 12 #[.pointer (some ⟨D, 0, none⟩), .int .i64 ((f + p : Nat) : Int)] (w.drewN k) fun e w' => e = .returned (.tuple #[.string s, .int .i64 0]) ∧ w.drewN k = w')
    (hs : s = q → ∀ k, R 0 (w.drewN k))
    (hw : s ≠ q → ∀ k, Calls Try.prog 26 #[.pointer (some ⟨D, 0, none⟩), .int .i64 ((f + p : Nat) : Int), .string q] (w.drewN k).drew fun e w' => ∃ m, e = .returned (.int .i64 m) ∧ w'.heap[Z]? = some (zobj D f n) ∧ R m w') :
    Calls Try.prog 28 #[.pointer (some ⟨Z, 0, none⟩), .int .i64 (p : Int), .string q] w fun e w' => ∃ m, e = .returned (.int .i64 m) ∧ R m w' := by
  have HR := Lib.hid (zone_read_by w Z D f n hz p hp hfn s 0 hr)
  have HW := Lib.hid (fun (h : s ≠ q) k => zone_write_by (w.drewN k) Z D f n hz p hp hfn q hq R (hw h k))
  have HS := Lib.hid hs
  clear hz hr hw hs hq
  by_cases he : s = q
  · have he' : (s.toList == q.toList) = true := by rw [he]; exact beq_self_eq_true _
    go_enter Try.func28, Try.ntmps28
    go_wp2_with (fail)
    refine HR.out.mono ?_
    rintro e w1 ⟨rfl, k, rfl⟩
    go_wp2_with (fail)
    refine bodyPost_ret (results_tmp rfl _ _ _) rfl ?_
    exact ⟨0, rfl, HS.out he k⟩
  · have he' : (s.toList == q.toList) = false := texts_ne he
    go_enter Try.func28, Try.ntmps28
    go_wp2_with (fail)
    refine HR.out.mono ?_
    rintro e w1 ⟨rfl, k, rfl⟩
    go_wp2_with (fail)
    refine (HW.out he k).mono ?_
    rintro e w1 ⟨m, rfl, hm⟩
    go_wp2_with (fail)
    refine bodyPost_ret (results_tmp rfl _ _ _) rfl ?_
    exact ⟨m, rfl, hm⟩
set_option maxRecDepth 100000 in
set_option maxHeartbeats 1600000 in
/-- All sectors, one by one, rising; the first error ends it. -/
theorem zone_fill_by (b : UInt8) (I : Nat → World → Prop) (E : Int → World → Prop)
    (h0 : ∀ W, Below w.heap.size w W → I 0 W)
    (hI : ∀ k W, I k W → W.heap[Z]? = some (zobj D f n))
    (hs : ∀ k W, k < n → I k W → Calls Try.prog 28 #[.pointer (some ⟨Z, 0, none⟩), .int .i64 (k : Int), .string (secS fun _ => b)] W fun e w' => ∃ m, e = .returned (.int .i64 m) ∧ (m = 0 ∧ I (k + 1) w' ∨ m ≠ 0 ∧ E m w'))
    (hn : n ≤ 4096) :
    Calls Try.prog 11 #[.pointer (some ⟨Z, 0, none⟩), .int .u8 (b.toNat : Int)] w fun e w' => ∃ m, e = .returned (.int .i64 m) ∧ (m = 0 ∧ I n w' ∨ m ≠ 0 ∧ E m w') := by
  have HRP := Lib.hid (repeat_byte b)
  have HCV := Lib.hid (run_one w b (w.alloc (.cells #[.int .u8 (b.toNat : Int)] 5)) (heap_alloc_new w _) 1)
  have c2 := zone_c2 hz
  have H0 := Lib.hid h0
  have HI := Lib.hid hI
  have HS := Lib.hid hs
  clear hz h0 hI hs
  generalize (b.toNat : Int) = bi at HCV ⊢
  generalize secS (fun _ => b) = q at HRP HS
  have hcv := HCV.out
  go_enter Try.func11, Try.ntmps11
  go_wp2_with (refine Great.wpList_buildSliceTo rfl 22 5 1 #[(0, .tmp 10)] rfl _ rfl (some 11) rfl Try.underlying22 #[.int .u8 bi] (byteOne bi) ?_)
  refine (HRP.out _).mono ?_
  rintro e w1 ⟨rfl, b1⟩
  have hb1 : Below w.heap.size w w1 := ((Below.refl _ _).alloc (Nat.le_refl _) _).trans (b1.mono (by simp))
  have HI0 := Lib.hid (H0.out w1 hb1)
  have c3 := zone_c2 (HI.out 0 w1 HI0.out)
  clear b1 hb1 c2 hcv HCV HRP H0
  go_wp2_with (fail)
  go_loopw [18] (fun i wr => ∃ k : Nat, i = .int .i64 (k : Int) ∧ k ≤ n ∧ I k wr) (fun i _ => match i with | .int _ k => n - k.toNat | _ => 0)
  case atStart => exact ⟨0, rfl, Nat.zero_le _, HI0.out⟩
  case round =>
    clear HI0 c3
    obtain ⟨k, rfl, hkn, hi⟩ := hrel
    have HK := Lib.hid hi
    clear hi
    by_cases hlt : k < n
    · have x0 : (k : Int) < (n : Int) := by omega
      have x1 : decide ((k : Int) < (n : Int)) = true := decide_eq_true x0
      have x2 : 0 ≤ (k : Int) := by omega
      go_wp2_with (fail)
      refine (HS.out k wr hlt HK.out).mono ?_
      rintro e w2 ⟨m, rfl, ⟨rfl, h2⟩ | ⟨hm, h2⟩⟩
      · have H2 := Lib.hid h2
        clear h2 HS HI
        go_wp2_with (fail)
        exact ⟨⟨k + 1, rfl, by omega, H2.out⟩, by show n - ((k : Int) + 1).toNat < n - (k : Int).toNat; omega⟩
      · have H2 := Lib.hid h2
        have hm1 : (m == 0) = false := beq_eq_false_iff_ne.2 hm
        have HM := Lib.hid hm
        clear h2 HS HI hm
        go_wp2_with (fail)
        refine bodyPost_ret (results_tmp rfl _ _ _) rfl ?_
        exact ⟨m, rfl, .inr ⟨HM.out, H2.out⟩⟩
    · have hke : k = n := by omega
      subst hke
      have x0 : ¬ (k : Int) < (k : Int) := by omega
      have x1 : decide ((k : Int) < (k : Int)) = false := decide_eq_false x0
      clear hlt x0
      go_wp2_with (fail)
      refine bodyPost_ret (results_tmp rfl _ _ _) rfl ?_
      exact ⟨0, rfl, .inl ⟨rfl, HK.out⟩⟩
end
section
variable (w : World) (Z D f n : Nat)
set_option maxRecDepth 100000 in
set_option maxHeartbeats 1600000 in
/-- All bytes, rising, of a zone whose disk's power is there. -/
theorem zone_all (hz : w.heap[Z]? = some (zobj D f n)) (K : Nat → Prop) (x : St) (h : DiskAt K w D x) (ha : x.away = false) (hfn : f + n ≤ x.n) :
    Calls Try.prog 10 #[.pointer (some ⟨Z, 0, none⟩)] w fun e w' => e = .returned (.tuple #[.string (imgS n fun j => x.now (f * 32 + j)), .int .i64 0]) ∧ Below w.heap.size w w' := by
  have hnb : x.n ≤ 4096 := by obtain ⟨_, _, _, _, _, _, h⟩ := h; exact h.nb
  have HRD := Lib.hid (show ∀ W, Below w.heap.size w W → ∀ k : Nat, k < n → Calls Try.prog 19 #[.pointer (some ⟨Z, 0, none⟩), .int .i64 (k : Int)] W fun e w' => e = .returned (.tuple #[.string (secS (sect (fun j => x.now (f * 32 + j)) k)), .int .i64 0]) ∧ Below W.heap.size W w' from fun W hW k hk => by
    have hz' : W.heap[Z]? = some (zobj D f n) := (hW.block Z (Array.getElem?_eq_some_iff.1 hz).1).trans hz
    have hs : secS (sect (fun j => x.now (f * 32 + j)) k) = secS (sect x.now (f + k)) := secS_congr fun j _ => by
      show x.now (f * 32 + (k * 32 + j)) = x.now ((f + k) * 32 + j)
      rw [show f * 32 + (k * 32 + j) = (f + k) * 32 + j by omega]
    rw [hs]
    refine (zone_read_by W Z D f n hz' k hk (by omega) (secS (sect x.now (f + k))) 0 (fun i => disk_read K (W.drewN i) D x ((h.below hW).drewN i) ha (f + k) (by omega))).mono ?_
    rintro e w' ⟨rfl, i, rfl⟩
    exact ⟨rfl, below_drewN (Below.refl _ _) i⟩)
  have c2 := zone_c2 hz
  have HC2 := Lib.hid (show ∀ W, Below w.heap.size w W → W.cell? ⟨Z, 2, none⟩ = some (.int .i64 (n : Int)) from fun W hW => zone_c2 (D := D) (f := f) ((hW.block Z (Array.getElem?_eq_some_iff.1 hz).1).trans hz))
  have hn : n ≤ 4096 := by omega
  have HSL := Lib.hid (fun k => secS_size (sect (fun j => x.now (f * 32 + j)) k))
  clear hz h ha hfn hnb
  generalize (fun j => x.now (f * 32 + j)) = F at HRD HSL ⊢
  have e1 : IntKind.i64.wrap ((n : Int) * 32) = ((n * 32 : Nat) : Int) := (IntWalk.i64_in _ (by omega)).trans (by omega)
  obtain ⟨i0, hi, hz0, hz1, hz2⟩ := info_parts infoU
  have HI := Lib.hid hi
  have HZ0 := Lib.hid hz0
  have HZ1 := Lib.hid hz1
  have HZ2 := Lib.hid hz2
  have HZS := Lib.hid (show (Value.int .u8 0).cells.size = 1 from rfl)
  clear hi hz0 hz1 hz2
  go_enter Try.func10, Try.ntmps10
  go_wp2_with (at_make; refine wpList_make_own _ rfl _ _ 22 rfl w.heap.size 5 i0 _ 1 Try.underlying22 HI.out HZ0.out HZ1.out .i64 .i64 _ (n * 32) rfl rfl (by first | exact e1 | rfl | omega) (by rw [HZ2.out]; omega) (by unfold maxLen; omega) (Nat.le_refl _) ?_; intro w1 hown hg1; have hb1 : Below w.heap.size w w1 := (Below.refl _ _).grown hg1 (Nat.le_refl _) (fun k hk => by cases hk); have d0 := HC2.out w1 hb1; have HB1 := Lib.hid hb1; have HW1 := Lib.hid hown; clear hg1 hb1 hown)
  go_loopw [4, 20] (fun row i wr => ∃ k g c : Nat, i = .int .i64 (k : Int) ∧ k ≤ n ∧ row = .slice (some ⟨g, 0, none⟩) (k * 32) c ∧ wr.ownsRow w.heap.size 5 1 row (k * 32) (bcellsK F (k * 32)) ∧ Below w.heap.size w wr) (fun _ i _ => match i with | .int _ k => n - k.toNat | _ => 0)
  case atStart => exact ⟨0, w.heap.size, n * 32, rfl, Nat.zero_le _, rfl, HW1.out, HB1.out⟩
  case round =>
    clear HW1 HB1 d0 c2
    obtain ⟨k, g, c, rfl, hkn, rfl, hown, hb⟩ := hrel
    have HOW := Lib.hid hown
    have HB := Lib.hid hb
    clear hown hb
    by_cases hlt : k < n
    · have x0 : (k : Int) < (n : Int) := by omega
      have x1 : decide ((k : Int) < (n : Int)) = true := decide_eq_true x0
      have x2 : 0 ≤ (k : Int) := by omega
      go_wp2_with (fail)
      refine (HRD.out wr HB.out k hlt).mono ?_
      rintro e w2 ⟨rfl, b2⟩
      have HOW2 := Lib.hid (own_keep HOW.out (fun i hi => b2.block i (HOW.out.lt i hi).2))
      have HB2 := Lib.hid (HB.out.trans (b2.mono HB.out.size))
      have HSC := Lib.hid (strCells_secS (sect F k))
      have HNX := Lib.hid (bcellsK_next F k)
      have HSZ := Lib.hid (HSL.out k)
      clear b2 HOW HB
      go_wp2_with (at_builtin; refine Lib.wpList_append_own_string w2 rfl (.tmp 32) (.tmp 33) 22 9 rfl w.heap.size 5 i0 Try.underlying22 Try.underlying9 HI.out HZ0.out HZ1.out HZ2.out (.slice (some ⟨g, 0, none⟩) (k * 32) c) (k * 32) (bcellsK F (k * 32)) rfl HOW2.out (secS (sect F k)) rfl (by rw [HSZ.out]; unfold maxLen; omega) (by rw [HSZ.out]; omega) HB2.out.size ?_
                   intro v9 w9 hown9 hg9 hnil
                   rw [HSC.out, HNX.out, HSZ.out, show k * 32 + 32 = (k + 1) * 32 by omega] at hown9
                   obtain ⟨g9, c9, rfl, hg9b⟩ := own_formK hown9 (fun h' => by have := (hnil.1 h').2; rw [HSZ.out] at this; omega)
                   have HO9 := Lib.hid hown9
                   have HB9 := Lib.hid (HB2.out.grown hg9 HB2.out.size (fun i hi => (HOW2.out.lt i hi).1))
                   clear hown9 hg9 hnil)
      exact ⟨⟨k + 1, g9, c9, rfl, by omega, rfl, HO9.out, HB9.out⟩, by show n - ((k : Int) + 1).toNat < n - (k : Int).toNat; omega⟩
    · have hke : k = n := by omega
      subst hke
      have x0 : ¬ (k : Int) < (k : Int) := by omega
      have x1 : decide ((k : Int) < (k : Int)) = false := decide_eq_false x0
      have hcv := run_img wr w.heap.size g k c F HOW.out
      clear hlt x0
      go_wp2_with (fail)
      refine bodyPost_ret (results_tmp2 rfl _ _ _) rfl ?_
      exact ⟨rfl, HB.out⟩
end
end Go.Proofs.Ytmnponjngdnolaa
