/-
  Package brain: what Parse and Same answer. Conditions: of Same, both models stand in their blocks.
-/
import Derived.Test.YtgenpfhcbopokaaDoorMg21
import Derived.Test.YtgenpfhcbopokaaDoorMg16
set_option maxRecDepth 100000
namespace Go.Proofs.YtgenpfhcbopokaaDoor
open Go.ChangeShapes Go.WideShapes Go.ChangeAt Go.RowKit Cf Br

namespace Br
/-- What a text tells: a shape, and weights. -/
def headT (t : ByteArray) : ByteArray := t.extract 0 24
def restT (t : ByteArray) : ByteArray := t.extract 24 t.size
def shapeT (t : ByteArray) : Cfg := cfgT lim (headT t)
def okB (t : ByteArray) : Bool := decide (24 ≤ t.size) && (okT lim (headT t) && decide (((restT t).size : Int) = totZ (shapeT t)))
theorem okB_iff {t : ByteArray} : okB t = true ↔ 24 ≤ t.size ∧ okT lim (headT t) = true ∧ ((restT t).size : Int) = totZ (shapeT t) := by
  unfold okB
  simp only [Bool.and_eq_true, decide_eq_true_iff]
theorem okB_Ok {t : ByteArray} (h : okB t = true) : Ok (shapeT t) (restT t) := ⟨(okT_iff.1 (okB_iff.1 h).2.1).1, (okB_iff.1 h).2.2⟩
theorem rest_size (t : ByteArray) : (restT t).size = t.size - 24 := by unfold restT; rw [ByteArray.size_extract]; omega
theorem head_bytes (x : Cfg) (s : ByteArray) : headT (bytesB x s) = cfgB x := by
  unfold headT bytesB
  rw [← cfgB_size x]
  exact ByteArray.extract_append_eq_left rfl
theorem rest_bytes (x : Cfg) (s : ByteArray) : restT (bytesB x s) = s := by
  unfold restT
  rw [bytesB_size]
  unfold bytesB
  rw [← cfgB_size x]
  exact ByteArray.extract_append_eq_right rfl rfl
theorem shape_bytes {x : Cfg} (h : Cf.Good x) (s : ByteArray) : shapeT (bytesB x s) = x := by
  unfold shapeT
  rw [head_bytes]
  exact (back_cfg x h).2
theorem ok_bytes {x : Cfg} {s : ByteArray} (h : Ok x s) : okB (bytesB x s) = true :=
  okB_iff.2 ⟨by rw [bytesB_size]; omega, by rw [head_bytes]; exact (back_cfg x h.good).1, by rw [rest_bytes, shape_bytes h.good]; exact h.size⟩
/-- Of a shape that can be, with weights not as many, there is none. -/
theorem not_bytes {x : Cfg} (h : Cf.Good x) {s : ByteArray} (hs : (s.size : Int) ≠ totZ x) : okB (bytesB x s) = false := by
  cases hb : okB (bytesB x s) with
  | false => rfl
  | true =>
    have := (okB_iff.1 hb).2.2
    rw [rest_bytes, shape_bytes h] at this
    exact absurd this hs
end Br
section
variable (w : World) (t : ByteArray)
set_option maxRecDepth 100000 in
set_option maxHeartbeats 1600000 in
theorem brain_parse_short (h : t.size < 24) : Calls Tryd.prog 7 #[.string t] w fun e w' => e = .returned (.tuple #[.pointer none, .int .i64 5]) ∧ Below w.heap.size w w' := by
  have t0 : (t.size : Int) < 24 := by omega
  have t1 : decide ((t.size : Int) < 24) = true := decide_eq_true t0
  go_enter Tryd.func7, Tryd.ntmps7
  go_wp2_with (fail)
  exact bodyPost_ret (results_tmp2 rfl _ _ _) rfl ⟨rfl, Below.refl _ _⟩
set_option maxRecDepth 100000 in
set_option maxHeartbeats 1600000 in
theorem brain_parse_bad (h : 24 ≤ t.size) (hn : okT lim (headT t) = false) : Calls Tryd.prog 7 #[.string t] w fun e w' => e = .returned (.tuple #[.pointer none, .int .i64 5]) ∧ Below w.heap.size w w' := by
  have HP := Lib.hid (fun W => conf_parse W (headT t))
  unfold parseV at HP
  rw [if_neg (by rw [hn]; exact Bool.false_ne_true)] at HP
  have hc := str_to t 24 24 rfl h
  rw [show t.extract 0 24 = headT t from rfl] at hc
  have t0 : ¬ (t.size : Int) < 24 := by omega
  have t1 : decide ((t.size : Int) < 24) = false := decide_eq_false t0
  clear h hn
  generalize headT t = H at *
  unfold cfV cfA at HP
  unfold zeroC at HP
  go_enter Tryd.func7, Tryd.ntmps7
  go_wp2_with (fail)
  refine (HP.out _).mono ?_
  rintro e w1 ⟨rfl, b1⟩
  have HB1 := Lib.hid (b1.alloc b1.size (cfO 36 zeroC))
  clear b1 HP
  go_wp2_with (fail)
  exact bodyPost_ret (results_tmp2 rfl _ _ _) rfl ⟨rfl, HB1.out⟩
set_option maxRecDepth 100000 in
set_option maxHeartbeats 1600000 in
/-- Parse, by what Of says. -/
theorem brain_parse_by (h : 24 ≤ t.size) (hn : okT lim (headT t) = true) (R : Value → Int → World → Prop)
    (hO : ∀ W, Below w.heap.size w W → Calls Tryd.prog 5 #[cfV (shapeT t), .string (restT t)] W fun e w' => ∃ v m, e = .returned (.tuple #[v, .int .i64 m]) ∧ R v m w' ∧ Below W.heap.size W w') :
    Calls Tryd.prog 7 #[.string t] w fun e w' => ∃ v m, e = .returned (.tuple #[v, .int .i64 m]) ∧ R v m w' ∧ Below w.heap.size w w' := by
  have HP := Lib.hid (fun W => conf_parse W (headT t))
  unfold parseV at HP
  rw [if_pos hn, show cfgT lim (headT t) = shapeT t from rfl] at HP
  have hc := str_to t 24 24 rfl h
  rw [show t.extract 0 24 = headT t from rfl] at hc
  have hc2 := str_from t 24 24 rfl h
  rw [show t.extract 24 t.size = restT t from rfl] at hc2
  have t0 : ¬ (t.size : Int) < 24 := by omega
  have t1 : decide ((t.size : Int) < 24) = false := decide_eq_false t0
  have HO := Lib.hid hO
  clear h hn hO
  generalize headT t = H at *
  generalize shapeT t = x at *
  generalize restT t = s at *
  unfold cfV cfA at HP HO
  go_enter Tryd.func7, Tryd.ntmps7
  go_wp2_with (fail)
  refine (HP.out _).mono ?_
  rintro e w1 ⟨rfl, b1⟩
  have b2 := b1.alloc b1.size (cfO 36 x)
  have HB2 := Lib.hid b2
  have HH2 := Lib.hid (heap_alloc_new w1 (cfO 36 x))
  unfold cfO cfA at HB2
  have hk := six HH2.out
  unfold cfO cfA at hk
  clear b1 b2 HP
  generalize hg : w1.heap.size = g at *
  go_wp2_with (fail)
  have B3 := Lib.hid (show Below w.heap.size w (w1.alloc (.cells #[.int .i64 x.v, .int .i64 x.d, .int .i64 x.h, .int .i64 x.b, .int .i64 x.n, .int .i64 x.c] 36)).drew from below_drewN HB2.out 1)
  have k0 := hk
  have HK := Lib.hid (show ∀ W, Below (w1.alloc (.cells #[.int .i64 x.v, .int .i64 x.d, .int .i64 x.h, .int .i64 x.b, .int .i64 x.n, .int .i64 x.c] 36)).drew.heap.size (w1.alloc (.cells #[.int .i64 x.v, .int .i64 x.d, .int .i64 x.h, .int .i64 x.b, .int .i64 x.n, .int .i64 x.c] 36)).drew W → W.cell? ⟨g, 0, none⟩ = some (.int .i64 x.v) ∧ W.cell? ⟨g, 1, none⟩ = some (.int .i64 x.d) ∧ W.cell? ⟨g, 2, none⟩ = some (.int .i64 x.h) ∧ W.cell? ⟨g, 3, none⟩ = some (.int .i64 x.b) ∧ W.cell? ⟨g, 4, none⟩ = some (.int .i64 x.n) ∧ W.cell? ⟨g, 5, none⟩ = some (.int .i64 x.c) from fun W hW => six (Cf.stays (w1 := (w1.alloc (.cells #[.int .i64 x.v, .int .i64 x.d, .int .i64 x.h, .int .i64 x.b, .int .i64 x.n, .int .i64 x.c] 36)).drew) (x := x) (t := 36) HH2.out hW))
  go_region_held3 (fun W : World => W.cell? ⟨g, 0, none⟩ = some (.int .i64 x.v) ∧ W.cell? ⟨g, 1, none⟩ = some (.int .i64 x.d) ∧ W.cell? ⟨g, 2, none⟩ = some (.int .i64 x.h) ∧ W.cell? ⟨g, 3, none⟩ = some (.int .i64 x.b) ∧ W.cell? ⟨g, 4, none⟩ = some (.int .i64 x.n) ∧ W.cell? ⟨g, 5, none⟩ = some (.int .i64 x.c)) (first | exact k0 | assumption) (first | (go_at_call 5; (with_reducible refine (HO.out _ B3.out).mono ?_); rintro e w4 ⟨v, m, rfl, hR, b4⟩; have HR4 := Lib.hid hR; have HB4 := Lib.hid (B3.out.trans (b4.mono B3.out.size)); have k4 := HK.out _ b4; clear hR b4))
  go_wp2_with (fail)
  exact bodyPost_ret (results_tmp2 rfl _ _ _) rfl ⟨v, m, rfl, HR4.out, HB4.out⟩
theorem brain_parse_not (h : okB t = false) : Calls Tryd.prog 7 #[.string t] w fun e w' => e = .returned (.tuple #[.pointer none, .int .i64 5]) ∧ Below w.heap.size w w' := by
  by_cases h1 : 24 ≤ t.size
  · cases h2 : okT lim (headT t) with
    | false => exact brain_parse_bad w t h1 h2
    | true =>
      have h3 : ((restT t).size : Int) ≠ totZ (shapeT t) := fun h3 => by
        rw [okB_iff.2 ⟨h1, h2, h3⟩] at h
        cases h
      refine (brain_parse_by w t h1 h2 (fun v m _ => v = .pointer none ∧ m = 5) fun W _ => (brain_of_form W (shapeT t) (restT t) (good_iff.2 (okT_iff.1 h2).1) h3).mono ?_).mono ?_
      · rintro e w' ⟨rfl, hb⟩
        exact ⟨_, _, rfl, ⟨rfl, rfl⟩, hb⟩
      · rintro e w' ⟨v, m, rfl, ⟨rfl, rfl⟩, hb⟩
        exact ⟨rfl, hb⟩
  · exact brain_parse_short w t (by omega)
theorem brain_parse (h : okB t = true) : Calls Tryd.prog 7 #[.string t] w fun e w' => ∃ b, e = .returned (.tuple #[.pointer (some ⟨b, 0, none⟩), .int .i64 0]) ∧ w.heap.size ≤ b ∧ w'.heap[b]? = some (brO (shapeT t) (restT t)) ∧ Below w.heap.size w w' := by
  obtain ⟨h1, h2, h3⟩ := okB_iff.1 h
  refine (brain_parse_by w t h1 h2 (fun v m w' => ∃ b, v = .pointer (some ⟨b, 0, none⟩) ∧ m = 0 ∧ w.heap.size ≤ b ∧ w'.heap[b]? = some (brO (shapeT t) (restT t))) fun W hW => (brain_of W (shapeT t) (restT t) (okB_Ok h)).mono ?_).mono ?_
  · rintro e w' ⟨b, rfl, hb, ho, hw⟩
    exact ⟨_, _, rfl, ⟨b, rfl, rfl, Nat.le_trans hW.size hb, ho⟩, hw⟩
  · rintro e w' ⟨v, m, rfl, ⟨b, rfl, rfl, hb, ho⟩, hw⟩
    exact ⟨b, rfl, hb, ho, hw⟩
end
section
variable (w : World) (a b : Nat) (x y : Cfg) (s t : ByteArray) (ha : w.heap[a]? = some (brO x s)) (hb : w.heap[b]? = some (brO y t))
include ha hb
set_option maxRecDepth 100000 in
set_option maxHeartbeats 1600000 in
theorem brain_same (hs : s.size ≤ 1000000) (ht : t.size ≤ 1000000) : Calls Tryd.prog 8 #[.pointer (some ⟨a, 0, none⟩), .pointer (some ⟨b, 0, none⟩)] w fun e w' => e = .returned (.bool (decide (bytesB x s = bytesB y t))) ∧ Below w.heap.size w w' := by
  have HA := Lib.hid (brain_bytes w a x s ha hs)
  have HB := Lib.hid (fun (W : World) (hW : Below w.heap.size w W) => brain_bytes W b y t (Br.stays hb hW) ht)
  clear ha hb hs ht
  generalize bytesB x s = p at *
  generalize bytesB y t = q at *
  have te : (p.toList == q.toList) = decide (p = q) := by
    rw [Bool.eq_iff_iff, beq_iff_eq, decide_eq_true_iff, ByteArray.toList_eq, ByteArray.toList_eq]
    exact ⟨fun h => ByteArray.ext (Array.toList_inj.1 h), fun h => by rw [h]⟩
  generalize decide (p = q) = d at *
  go_enter Tryd.func8, Tryd.ntmps8
  go_wp2_with (fail)
  refine HA.out.mono ?_
  rintro e w1 ⟨rfl, b1⟩
  have HB1 := Lib.hid b1
  clear b1
  go_wp2_with (fail)
  refine (HB.out _ HB1.out).mono ?_
  rintro e w2 ⟨rfl, b2⟩
  have HB2 := Lib.hid (HB1.out.trans (b2.mono HB1.out.size))
  clear b2
  go_wp2_with (fail)
  exact bodyPost_ret (results_tmp rfl _ _ _) rfl ⟨rfl, HB2.out⟩
end
end Go.Proofs.YtgenpfhcbopokaaDoor
