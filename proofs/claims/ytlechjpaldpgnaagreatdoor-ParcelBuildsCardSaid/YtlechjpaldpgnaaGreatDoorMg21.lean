/-
  Package brain: what Of, Bytes and Same answer. Conditions: a model stands in its block; where Of answers one, its shape can be and the weights are as many.
  Package brain: what Parse and Same answer. Conditions: of Same, both models stand in their blocks.
  Package brain: what Digest and Weights answer. Conditions: a model stands in its block; of Digest, both of sha's tables lie as the program's text lays them.
-/
import Derived.Test.YtlechjpaldpgnaaGreatDoorMg18
import Derived.Test.YtlechjpaldpgnaaGreatDoorMg11
import Derived.Test.YtlechjpaldpgnaaGreatDoorMg20
import Derived.Test.YtlechjpaldpgnaaGreatDoorMg6
import Derived.Deep.MidRow
set_option maxRecDepth 100000
namespace Go.Proofs.YtlechjpaldpgnaaGreatDoor
open Go.ChangeShapes Go.WideShapes Go.ChangeAt Go.RowKit Cf Br

section
variable (w : World) (x : Cfg) (s : ByteArray)
set_option maxRecDepth 100000 in
set_option maxHeartbeats 1600000 in
theorem brain_of_arg (h : goodZ x = false) : Calls Tryz.prog 21 #[cfV x, .string s] w fun e w' => e = .returned (.tuple #[.pointer none, .int .i64 1]) ∧ Below w.heap.size w w' := by
  have HG := Lib.hid (fun W => conf_good W x)
  rw [h] at HG
  have HB0 := Lib.hid ((Below.refl w.heap.size w).alloc (Nat.le_refl _) (cfO 60 x))
  have k0 := six (heap_alloc_new w (cfO 60 x))
  obtain ⟨e0, e1, e2, e3, e4, e5⟩ := k0
  clear h
  unfold cfV cfA at *
  go_enter Tryz.func21, Tryz.ntmps21
  go_wp2_with (fail)
  refine (HG.out _).mono ?_
  rintro e w1 ⟨rfl, b1⟩
  have HB1 := Lib.hid (HB0.out.trans (b1.mono HB0.out.size))
  clear b1
  go_wp2_with (fail)
  exact bodyPost_ret (results_tmp2 rfl _ _ _) rfl ⟨rfl, HB1.out⟩
set_option maxRecDepth 100000 in
set_option maxHeartbeats 1600000 in
theorem brain_of_form (h : goodZ x = true) (hs : (s.size : Int) ≠ totZ x) : Calls Tryz.prog 21 #[cfV x, .string s] w fun e w' => e = .returned (.tuple #[.pointer none, .int .i64 5]) ∧ Below w.heap.size w w' := by
  have HG := Lib.hid (fun W => conf_good W x)
  have HS := Lib.hid (fun W => conf_size W x)
  rw [h] at HG
  rw [if_pos h] at HS
  have HB0 := Lib.hid ((Below.refl w.heap.size w).alloc (Nat.le_refl _) (cfO 60 x))
  have HH0 := Lib.hid (heap_alloc_new w (cfO 60 x))
  generalize totZ x = T at hs HS
  have t1 : ((s.size : Int) != T) = true := bne_iff_ne.2 hs
  have t2 : ((s.size : Int) == T) = false := beq_eq_false_iff_ne.2 hs
  clear h hs
  unfold cfV cfA at *
  obtain ⟨e0, e1, e2, e3, e4, e5⟩ := six HH0.out
  go_enter Tryz.func21, Tryz.ntmps21
  go_wp2_with (fail)
  refine (HG.out _).mono ?_
  rintro e w1 ⟨rfl, b1⟩
  have b2 := (Below.refl w1.heap.size w1).alloc (Nat.le_refl _) (cfO 101 x)
  have HH1 := Lib.hid (Cf.stays HH0.out b1)
  have HB2 := Lib.hid (HB0.out.trans ((b1.trans (b2.mono b1.size)).mono HB0.out.size))
  have HS2 := Lib.hid (heap_alloc_new w1 (cfO 101 x))
  clear e0 e1 e2 e3 e4 e5 b1 b2 HG HB0 HH0
  obtain ⟨e0, e1, e2, e3, e4, e5⟩ := six HH1.out
  go_wp2_with (fail)
  refine (HS.out _).mono ?_
  rintro e w3 ⟨rfl, b3⟩
  have HB3 := Lib.hid (HB2.out.trans (b3.mono HB2.out.size))
  clear b3
  go_wp2_with (fail)
  exact bodyPost_ret (results_tmp2 rfl _ _ _) rfl ⟨rfl, HB3.out⟩
set_option maxRecDepth 100000 in
set_option maxHeartbeats 1600000 in
theorem brain_of (h : Ok x s) : Calls Tryz.prog 21 #[cfV x, .string s] w fun e w' => ∃ b, e = .returned (.tuple #[.pointer (some ⟨b, 0, none⟩), .int .i64 0]) ∧ w.heap.size ≤ b ∧ w'.heap[b]? = some (brO x s) ∧ Below w.heap.size w w' := by
  have HG := Lib.hid (fun W => conf_good W x)
  have HS := Lib.hid (fun W => conf_size W x)
  rw [good_iff.2 h.good] at HG
  rw [if_pos (good_iff.2 h.good), ← h.size] at HS
  have HB0 := Lib.hid ((Below.refl w.heap.size w).alloc (Nat.le_refl _) (cfO 60 x))
  have HH0 := Lib.hid (heap_alloc_new w (cfO 60 x))
  have t1 : ((s.size : Int) != (s.size : Int)) = false := bne_self_eq_false _
  have t2 : ((s.size : Int) == (s.size : Int)) = true := beq_self_eq_true _
  clear h
  unfold cfV cfA at *
  obtain ⟨e0, e1, e2, e3, e4, e5⟩ := six HH0.out
  go_enter Tryz.func21, Tryz.ntmps21
  go_wp2_with (fail)
  refine (HG.out _).mono ?_
  rintro e w1 ⟨rfl, b1⟩
  have b2 := (Below.refl w1.heap.size w1).alloc (Nat.le_refl _) (cfO 101 x)
  have HH1 := Lib.hid (Cf.stays HH0.out b1)
  have HB2 := Lib.hid (HB0.out.trans ((b1.trans (b2.mono b1.size)).mono HB0.out.size))
  have HS2 := Lib.hid (heap_alloc_new w1 (cfO 101 x))
  clear e0 e1 e2 e3 e4 e5 b1 b2 HG HB0 HH0
  obtain ⟨e0, e1, e2, e3, e4, e5⟩ := six HH1.out
  go_wp2_with (fail)
  refine (HS.out _).mono ?_
  rintro e w3 ⟨rfl, b3⟩
  have HB3 := Lib.hid (HB2.out.trans (b3.mono HB2.out.size))
  have HS3 := Lib.hid (Cf.stays HS2.out b3)
  clear e0 e1 e2 e3 e4 e5 b3 HB2 HS2 HH1
  obtain ⟨e0, e1, e2, e3, e4, e5⟩ := six HS3.out
  go_wp2_with (fail)
  refine bodyPost_ret (results_tmp2 rfl _ _ _) rfl ?_
  exact ⟨_, rfl, HB3.out.size, heap_alloc_new _ (brO x s), HB3.out.alloc HB3.out.size _⟩
end
section
variable (w : World) (b : Nat) (x : Cfg) (s : ByteArray) (h : w.heap[b]? = some (brO x s))
include h
set_option maxRecDepth 100000 in
set_option maxHeartbeats 1600000 in
theorem brain_bytes (hs : s.size ≤ 1000000) : Calls Tryz.prog 25 #[.pointer (some ⟨b, 0, none⟩)] w fun e w' => e = .returned (.string (bytesB x s)) ∧ Below w.heap.size w w' := by
  have HB := Lib.hid (fun W => conf_bytes W x)
  have HS := Lib.hid (cfgB_size x)
  have HH := Lib.hid h
  have HE := Lib.hid (show bytesB x s = cfgB x ++ s from rfl)
  generalize cfgB x = C at HB HS HE
  obtain ⟨e0, e1, e2, e3, e4, e5, e6⟩ := seven h
  have z1 : ¬ 9223372036854775807 < C.size + s.size := by have := HS.out; omega
  clear h hs
  unfold cfV cfA at *
  go_enter Tryz.func25, Tryz.ntmps25
  go_wp2_with (fail)
  have HK := Lib.hid (fun (W : World) (hW : Below w.heap.size w W) => seven (Br.stays HH.out hW))
  have B0 := Lib.hid (show Below w.heap.size w w.drew from below_drewN (Below.refl _ _) 1)
  have k0 := HK.out _ B0.out
  go_region_held3 (fun W : World => W.cell? ⟨b, 0, none⟩ = some (.int .i64 x.v) ∧ W.cell? ⟨b, 1, none⟩ = some (.int .i64 x.d) ∧ W.cell? ⟨b, 2, none⟩ = some (.int .i64 x.h) ∧ W.cell? ⟨b, 3, none⟩ = some (.int .i64 x.b) ∧ W.cell? ⟨b, 4, none⟩ = some (.int .i64 x.n) ∧ W.cell? ⟨b, 5, none⟩ = some (.int .i64 x.c) ∧ W.cell? ⟨b, 6, none⟩ = some (.string s)) (first | exact k0 | assumption) (first | (go_at_call 55; (with_reducible refine (HB.out _).mono ?_); rintro e w1 ⟨rfl, b1⟩; have HB1 := Lib.hid (B0.out.trans (b1.mono B0.out.size)); have k1 := HK.out _ HB1.out; clear b1))
  go_wp2_with (fail)
  refine bodyPost_ret (results_tmp rfl _ _ _) rfl ?_
  rw [HE.out]
  exact ⟨rfl, HB1.out⟩
end
theorem brain_bytes_nil (w : World) : Calls Tryz.prog 25 #[.pointer none] w fun e w' => e = .returned (.string ByteArray.empty) ∧ w = w' := by
  go_enter Tryz.func25, Tryz.ntmps25
  go_wp2
  refine bodyPost_ret (results_tmp rfl _ _ _) rfl ?_
  exact ⟨rfl, rfl⟩
end Go.Proofs.YtlechjpaldpgnaaGreatDoor
namespace Go.Proofs.YtlechjpaldpgnaaGreatDoor
open Go.ChangeShapes Go.WideShapes Go.ChangeAt Go.RowKit Cf Br

namespace Br
/-- What a text tells: a shape, and weights. -/
def headT (t : ByteArray) : ByteArray := t.extract 0 24
def restT (t : ByteArray) : ByteArray := t.extract 24 t.size
def shapeT (t : ByteArray) : Cfg := cfgT lim (headT t)
def okB (t : ByteArray) : Bool := decide (24 ≤ t.size) && (okT lim (headT t) && decide (((restT t).size : Int) = totZ (shapeT t)))
theorem okB_iff {t : ByteArray} : okB t = true ↔ 24 ≤ t.size ∧ okT lim (headT t) = true ∧ ((restT t).size : Int) = totZ (shapeT t) := by
  unfold okB
  simp only [Bool.and_eq_true, decide_eq_true_iff]
theorem okB_Ok {t : ByteArray} (h : okB t = true) : Ok (shapeT t) (restT t) := ⟨(okT_iff.1 (okB_iff.1 h).2.1).1, (okB_iff.1 h).2.2⟩
theorem rest_size (t : ByteArray) : (restT t).size = t.size - 24 := by unfold restT; rw [ByteArray.size_extract]; omega
theorem head_bytes (x : Cfg) (s : ByteArray) : headT (bytesB x s) = cfgB x := by
  unfold headT bytesB
  rw [← cfgB_size x]
  exact ByteArray.extract_append_eq_left rfl
theorem rest_bytes (x : Cfg) (s : ByteArray) : restT (bytesB x s) = s := by
  unfold restT
  rw [bytesB_size]
  unfold bytesB
  rw [← cfgB_size x]
  exact ByteArray.extract_append_eq_right rfl rfl
theorem shape_bytes {x : Cfg} (h : Cf.Good x) (s : ByteArray) : shapeT (bytesB x s) = x := by
  unfold shapeT
  rw [head_bytes]
  exact (back_cfg x h).2
theorem ok_bytes {x : Cfg} {s : ByteArray} (h : Ok x s) : okB (bytesB x s) = true :=
  okB_iff.2 ⟨by rw [bytesB_size]; omega, by rw [head_bytes]; exact (back_cfg x h.good).1, by rw [rest_bytes, shape_bytes h.good]; exact h.size⟩
/-- Of a shape that can be, with weights not as many, there is none. -/
theorem not_bytes {x : Cfg} (h : Cf.Good x) {s : ByteArray} (hs : (s.size : Int) ≠ totZ x) : okB (bytesB x s) = false := by
  cases hb : okB (bytesB x s) with
  | false => rfl
  | true =>
    have := (okB_iff.1 hb).2.2
    rw [rest_bytes, shape_bytes h] at this
    exact absurd this hs
end Br
section
variable (w : World) (t : ByteArray)
set_option maxRecDepth 100000 in
set_option maxHeartbeats 1600000 in
theorem brain_parse_short (h : t.size < 24) : Calls Tryz.prog 49 #[.string t] w fun e w' => e = .returned (.tuple #[.pointer none, .int .i64 5]) ∧ Below w.heap.size w w' := by
  have t0 : (t.size : Int) < 24 := by omega
  have t1 : decide ((t.size : Int) < 24) = true := decide_eq_true t0
  go_enter Tryz.func49, Tryz.ntmps49
  go_wp2_with (fail)
  exact bodyPost_ret (results_tmp2 rfl _ _ _) rfl ⟨rfl, Below.refl _ _⟩
set_option maxRecDepth 100000 in
set_option maxHeartbeats 1600000 in
theorem brain_parse_bad (h : 24 ≤ t.size) (hn : okT lim (headT t) = false) : Calls Tryz.prog 49 #[.string t] w fun e w' => e = .returned (.tuple #[.pointer none, .int .i64 5]) ∧ Below w.heap.size w w' := by
  have HP := Lib.hid (fun W => conf_parse W (headT t))
  unfold parseV at HP
  rw [if_neg (by rw [hn]; exact Bool.false_ne_true)] at HP
  have hc := str_to t 24 24 rfl h
  rw [show t.extract 0 24 = headT t from rfl] at hc
  have t0 : ¬ (t.size : Int) < 24 := by omega
  have t1 : decide ((t.size : Int) < 24) = false := decide_eq_false t0
  clear h hn
  generalize headT t = H at *
  unfold cfV cfA at HP
  unfold zeroC at HP
  go_enter Tryz.func49, Tryz.ntmps49
  go_wp2_with (fail)
  refine (HP.out _).mono ?_
  rintro e w1 ⟨rfl, b1⟩
  have HB1 := Lib.hid (b1.alloc b1.size (cfO 101 zeroC))
  clear b1 HP
  go_wp2_with (fail)
  exact bodyPost_ret (results_tmp2 rfl _ _ _) rfl ⟨rfl, HB1.out⟩
set_option maxRecDepth 100000 in
set_option maxHeartbeats 1600000 in
/-- Parse, by what Of says. -/
theorem brain_parse_by (h : 24 ≤ t.size) (hn : okT lim (headT t) = true) (R : Value → Int → World → Prop)
    (hO : ∀ W, Below w.heap.size w W → Calls Tryz.prog 21 #[cfV (shapeT t), .string (restT t)] W fun e w' => ∃ v m, e = .returned (.tuple #[v, .int .i64 m]) ∧ R v m w' ∧ Below W.heap.size W w') :
    Calls Tryz.prog 49 #[.string t] w fun e w' => ∃ v m, e = .returned (.tuple #[v, .int .i64 m]) ∧ R v m w' ∧ Below w.heap.size w w' := by
  have HP := Lib.hid (fun W => conf_parse W (headT t))
  unfold parseV at HP
  rw [if_pos hn, show cfgT lim (headT t) = shapeT t from rfl] at HP
  have hc := str_to t 24 24 rfl h
  rw [show t.extract 0 24 = headT t from rfl] at hc
  have hc2 := str_from t 24 24 rfl h
  rw [show t.extract 24 t.size = restT t from rfl] at hc2
  have t0 : ¬ (t.size : Int) < 24 := by omega
  have t1 : decide ((t.size : Int) < 24) = false := decide_eq_false t0
  have HO := Lib.hid hO
  clear h hn hO
  generalize headT t = H at *
  generalize shapeT t = x at *
  generalize restT t = s at *
  unfold cfV cfA at HP HO
  go_enter Tryz.func49, Tryz.ntmps49
  go_wp2_with (fail)
  refine (HP.out _).mono ?_
  rintro e w1 ⟨rfl, b1⟩
  have b2 := b1.alloc b1.size (cfO 101 x)
  have HB2 := Lib.hid b2
  have HH2 := Lib.hid (heap_alloc_new w1 (cfO 101 x))
  unfold cfO cfA at HB2
  have hk := six HH2.out
  unfold cfO cfA at hk
  clear b1 b2 HP
  generalize hg : w1.heap.size = g at *
  go_wp2_with (fail)
  have B3 := Lib.hid (show Below w.heap.size w (w1.alloc (.cells #[.int .i64 x.v, .int .i64 x.d, .int .i64 x.h, .int .i64 x.b, .int .i64 x.n, .int .i64 x.c] 101)).drew from below_drewN HB2.out 1)
  have k0 := hk
  have HK := Lib.hid (show ∀ W, Below (w1.alloc (.cells #[.int .i64 x.v, .int .i64 x.d, .int .i64 x.h, .int .i64 x.b, .int .i64 x.n, .int .i64 x.c] 101)).drew.heap.size (w1.alloc (.cells #[.int .i64 x.v, .int .i64 x.d, .int .i64 x.h, .int .i64 x.b, .int .i64 x.n, .int .i64 x.c] 101)).drew W → W.cell? ⟨g, 0, none⟩ = some (.int .i64 x.v) ∧ W.cell? ⟨g, 1, none⟩ = some (.int .i64 x.d) ∧ W.cell? ⟨g, 2, none⟩ = some (.int .i64 x.h) ∧ W.cell? ⟨g, 3, none⟩ = some (.int .i64 x.b) ∧ W.cell? ⟨g, 4, none⟩ = some (.int .i64 x.n) ∧ W.cell? ⟨g, 5, none⟩ = some (.int .i64 x.c) from fun W hW => six (Cf.stays (w1 := (w1.alloc (.cells #[.int .i64 x.v, .int .i64 x.d, .int .i64 x.h, .int .i64 x.b, .int .i64 x.n, .int .i64 x.c] 101)).drew) (x := x) (t := 101) HH2.out hW))
  go_region_held3 (fun W : World => W.cell? ⟨g, 0, none⟩ = some (.int .i64 x.v) ∧ W.cell? ⟨g, 1, none⟩ = some (.int .i64 x.d) ∧ W.cell? ⟨g, 2, none⟩ = some (.int .i64 x.h) ∧ W.cell? ⟨g, 3, none⟩ = some (.int .i64 x.b) ∧ W.cell? ⟨g, 4, none⟩ = some (.int .i64 x.n) ∧ W.cell? ⟨g, 5, none⟩ = some (.int .i64 x.c)) (first | exact k0 | assumption) (first | (go_at_call 21; (with_reducible refine (HO.out _ B3.out).mono ?_); rintro e w4 ⟨v, m, rfl, hR, b4⟩; have HR4 := Lib.hid hR; have HB4 := Lib.hid (B3.out.trans (b4.mono B3.out.size)); have k4 := HK.out _ b4; clear hR b4))
  go_wp2_with (fail)
  exact bodyPost_ret (results_tmp2 rfl _ _ _) rfl ⟨v, m, rfl, HR4.out, HB4.out⟩
theorem brain_parse_not (h : okB t = false) : Calls Tryz.prog 49 #[.string t] w fun e w' => e = .returned (.tuple #[.pointer none, .int .i64 5]) ∧ Below w.heap.size w w' := by
  by_cases h1 : 24 ≤ t.size
  · cases h2 : okT lim (headT t) with
    | false => exact brain_parse_bad w t h1 h2
    | true =>
      have h3 : ((restT t).size : Int) ≠ totZ (shapeT t) := fun h3 => by
        rw [okB_iff.2 ⟨h1, h2, h3⟩] at h
        cases h
      refine (brain_parse_by w t h1 h2 (fun v m _ => v = .pointer none ∧ m = 5) fun W _ => (brain_of_form W (shapeT t) (restT t) (good_iff.2 (okT_iff.1 h2).1) h3).mono ?_).mono ?_
      · rintro e w' ⟨rfl, hb⟩
        exact ⟨_, _, rfl, ⟨rfl, rfl⟩, hb⟩
      · rintro e w' ⟨v, m, rfl, ⟨rfl, rfl⟩, hb⟩
        exact ⟨rfl, hb⟩
  · exact brain_parse_short w t (by omega)
theorem brain_parse (h : okB t = true) : Calls Tryz.prog 49 #[.string t] w fun e w' => ∃ b, e = .returned (.tuple #[.pointer (some ⟨b, 0, none⟩), .int .i64 0]) ∧ w.heap.size ≤ b ∧ w'.heap[b]? = some (brO (shapeT t) (restT t)) ∧ Below w.heap.size w w' := by
  obtain ⟨h1, h2, h3⟩ := okB_iff.1 h
  refine (brain_parse_by w t h1 h2 (fun v m w' => ∃ b, v = .pointer (some ⟨b, 0, none⟩) ∧ m = 0 ∧ w.heap.size ≤ b ∧ w'.heap[b]? = some (brO (shapeT t) (restT t))) fun W hW => (brain_of W (shapeT t) (restT t) (okB_Ok h)).mono ?_).mono ?_
  · rintro e w' ⟨b, rfl, hb, ho, hw⟩
    exact ⟨_, _, rfl, ⟨b, rfl, rfl, Nat.le_trans hW.size hb, ho⟩, hw⟩
  · rintro e w' ⟨v, m, rfl, ⟨b, rfl, rfl, hb, ho⟩, hw⟩
    exact ⟨b, rfl, hb, ho, hw⟩
end
section
variable (w : World) (a b : Nat) (x y : Cfg) (s t : ByteArray) (ha : w.heap[a]? = some (brO x s)) (hb : w.heap[b]? = some (brO y t))
include ha hb
set_option maxRecDepth 100000 in
set_option maxHeartbeats 1600000 in
theorem brain_same (hs : s.size ≤ 1000000) (ht : t.size ≤ 1000000) : Calls Tryz.prog 30 #[.pointer (some ⟨a, 0, none⟩), .pointer (some ⟨b, 0, none⟩)] w fun e w' => e = .returned (.bool (decide (bytesB x s = bytesB y t))) ∧ Below w.heap.size w w' := by
  have HA := Lib.hid (brain_bytes w a x s ha hs)
  have HB := Lib.hid (fun (W : World) (hW : Below w.heap.size w W) => brain_bytes W b y t (Br.stays hb hW) ht)
  clear ha hb hs ht
  generalize bytesB x s = p at *
  generalize bytesB y t = q at *
  have te : (p.toList == q.toList) = decide (p = q) := by
    rw [Bool.eq_iff_iff, beq_iff_eq, decide_eq_true_iff, ByteArray.toList_eq, ByteArray.toList_eq]
    exact ⟨fun h => ByteArray.ext (Array.toList_inj.1 h), fun h => by rw [h]⟩
  generalize decide (p = q) = d at *
  go_enter Tryz.func30, Tryz.ntmps30
  go_wp2_with (fail)
  refine HA.out.mono ?_
  rintro e w1 ⟨rfl, b1⟩
  have HB1 := Lib.hid b1
  clear b1
  go_wp2_with (fail)
  refine (HB.out _ HB1.out).mono ?_
  rintro e w2 ⟨rfl, b2⟩
  have HB2 := Lib.hid (HB1.out.trans (b2.mono HB1.out.size))
  clear b2
  go_wp2_with (fail)
  exact bodyPost_ret (results_tmp rfl _ _ _) rfl ⟨rfl, HB2.out⟩
end
end Go.Proofs.YtlechjpaldpgnaaGreatDoor
namespace Go.Proofs.YtlechjpaldpgnaaGreatDoor
open Go.ChangeShapes Go.WideShapes Go.ChangeAt Go.RowKit Cf Br Sh

section
variable (w : World) (b : Nat) (x : Cfg) (s : ByteArray) (h : w.heap[b]? = some (brO x s))
include h
set_option maxRecDepth 100000 in
set_option maxHeartbeats 1600000 in
theorem brain_digest (hs : s.size ≤ 1000000) (hF : FOn w) (hK : KOn w) : Calls Tryz.prog 28 #[.pointer (some ⟨b, 0, none⟩)] w fun e w' => e = .returned (.agg (digF (sumF (bytesB x s).data.toList))) ∧ Below w.heap.size w w' := by
  have HBY := Lib.hid (fun (W : World) (hW : Below w.heap.size w W) => brain_bytes W b x s (Br.stays h hW) hs)
  have HQ := Lib.hid (show (bytesB x s).data.toList.length < 72057594037927936 by have h1 := bytesB_size x s; show (bytesB x s).size < _; omega)
  have HF := Lib.hid hF
  have HK := Lib.hid hK
  generalize bytesB x s = q at *
  clear h hs hF hK
  go_enter Tryz.func28, Tryz.ntmps28
  go_wp2_with (fail)
  refine (HBY.out _ ((Below.refl _ _).alloc (Nat.le_refl _) _)).mono ?_
  rintro e w1 ⟨rfl, b1⟩
  have HR1 := Lib.hid (show w1.rowIs w.heap.size 24 32 (fun _ => .int .u8 0) from (row_alloc _ rfl (by kernel_rfl)).of_block (b1.block _ (by simp)))
  have HB1 := Lib.hid (show Below w.heap.size w w1 from ((Below.refl _ _).alloc (Nat.le_refl _) _).trans (b1.mono (by simp)))
  clear b1
  go_wp2_with (fail)
  have b2 := (Below.refl w1.heap.size w1).alloc (Nat.le_refl _) (.cells #[.string q] 9)
  have b3 := HB1.out.trans (b2.mono HB1.out.size)
  refine (of_here [q] q.data.toList (by simp [flat]) _ (some ⟨w1.heap.size, 0, none⟩) 1 1 rfl (by omega) (fun _ => ⟨_, 0, rfl, fun k hk => ?_⟩) (HF.out.below b3) (HK.out.below HK.out.lt b3) HQ.out).mono ?_
  · match k, hk with
    | 0, _ => rw [cell_of_row _ _ _ _ _ _ (heap_alloc_new w1 _)]; rfl
  rintro e w4 ⟨rfl, b4⟩
  have b5 := b2.trans (b4.mono b2.size)
  have hres : w4.rowIs w.heap.size 24 32 (fun _ => .int .u8 0) := HR1.out.of_block (b5.block _ HR1.out.lt)
  have hB := HB1.out.trans (b5.mono HB1.out.size)
  have hfin := below_setRow' hB (Nat.le_refl _) (digF (sumF q.data.toList))
  have H2 := Lib.hid (row_block hres)
  have H3 := Lib.hid (row_block (row_setRow (g := fun j => Value.int .u8 ((sumF q.data.toList j).toNat : Int)) hres))
  clear hres b2 b3 b4 b5 hB
  go_wp2_with (with_reducible refine wpList_store_row rfl 24 _ _ rfl _ _ rfl rfl 24 _ H2.out (hiDigF _) (hzDig _) (hoDig _) ?_)
  refine bodyPost_ret (results_cell_row rfl _ _ _ 24 _ _ _ rfl H3.out Tryz.underlying24 rfl (hiDig _)) rfl ?_
  exact ⟨rfl, hfin⟩
end
end Go.Proofs.YtlechjpaldpgnaaGreatDoor
