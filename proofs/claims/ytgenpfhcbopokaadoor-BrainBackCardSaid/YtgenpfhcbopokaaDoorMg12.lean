/-
  Package conf: span, total. Condition: each number alone can be.
-/
import Derived.Test.YtgenpfhcbopokaaDoorMg11
import Derived.IntWalk
import Derived.Deep.RegionHeld3
set_option maxRecDepth 100000
namespace Go.Proofs.YtgenpfhcbopokaaDoor
open Go.ChangeShapes Go.WideShapes Go.ChangeAt Go.RowKit Cf

namespace Cf
theorem six {w : World} {b : Nat} {t : TypeId} {x : Cfg} (h : w.heap[b]? = some (cfO t x)) : w.cell? ⟨b, 0, none⟩ = some (.int .i64 x.v) ∧ w.cell? ⟨b, 1, none⟩ = some (.int .i64 x.d) ∧ w.cell? ⟨b, 2, none⟩ = some (.int .i64 x.h) ∧ w.cell? ⟨b, 3, none⟩ = some (.int .i64 x.b) ∧ w.cell? ⟨b, 4, none⟩ = some (.int .i64 x.n) ∧ w.cell? ⟨b, 5, none⟩ = some (.int .i64 x.c) :=
  ⟨cell0 h, cell1 h, cell2 h, cell3 h, cell4 h, cell5 h⟩
theorem less (a b : Nat) (h : a < b) : b - ((a : Int) + 1).toNat < b - (a : Int).toNat := by omega
/-- What stays as it was: a block that was there, behind a call. -/
theorem stays {w1 w2 : World} {B : Nat} {t : TypeId} {x : Cfg} (h : w1.heap[B]? = some (cfO t x)) (hb : Below w1.heap.size w1 w2) : w2.heap[B]? = some (cfO t x) := (hb.block B (Array.getElem?_eq_some_iff.1 h).1).trans h
end Cf
set_option maxRecDepth 100000 in
set_option maxHeartbeats 1600000 in
theorem conf_span (w : World) (x : Cfg) (h : In x) (f k t : Nat) (he : t = f + k) (h12 : t ≤ 12) : Calls Tryd.prog 36 #[cfV x, .int .i64 (f : Int), .int .i64 (t : Int)] w fun e w' => e = .returned (.int .i64 (spanZ x f k)) ∧ Below w.heap.size w w' := by
  have HS := Lib.hid (fun W p => conf_side W x p)
  have HA := Lib.hid (fun (p : Nat) (hp : p ≤ 11) => area_in h (p := (p : Int)) (by omega) (by omega))
  have HSP := Lib.hid (span_in h f)
  have HE := Lib.hid he
  have HZ := Lib.hid (show spanZ x f 0 = 0 from rfl)
  have HN := Lib.hid (fun j => show spanZ x f (j + 1) = spanZ x f j + rowsZ x ((f + j : Nat) : Int) * colsZ x ((f + j : Nat) : Int) from rfl)
  have HB0 := Lib.hid ((Below.refl w.heap.size w).alloc (Nat.le_refl _) (cfO 36 x))
  have HH0 := Lib.hid (heap_alloc_new w (cfO 36 x))
  unfold areaZ at HA
  clear he h
  generalize spanZ x f = sp at HSP HZ HN ⊢
  unfold cfO at HB0 HH0
  unfold cfV cfA at *
  go_enter Tryd.func36, Tryd.ntmps36
  go_wp2_with (fail)
  go_loopw [7, 8] (fun s i wr => ∃ p j : Nat, i = .int .i64 (p : Int) ∧ p = f + j ∧ j ≤ k ∧ s = .int .i64 (sp j) ∧ wr.heap[w.heap.size]? = some (cfO 36 x) ∧ Below w.heap.size w wr) (fun _ i _ => match i with | .int _ q => t - q.toNat | _ => 0)
  case atStart => exact ⟨f, 0, rfl, rfl, Nat.zero_le _, by rw [HZ.out], HH0.out, HB0.out⟩
  case round =>
    clear HH0 HB0
    obtain ⟨p, j, rfl, hp, hj, rfl, hh, hb⟩ := hrel
    have HH := Lib.hid hh
    have HB := Lib.hid hb
    have HP := Lib.hid hp
    have hpe := HE.out
    by_cases hlt : p < t
    · have x0 : (p : Int) < (t : Int) := by omega
      have x1 : decide ((p : Int) < (t : Int)) = true := decide_eq_true x0
      have HJ := Lib.hid (show j + 1 ≤ k by omega)
      have HR := Lib.hid (HA.out p (by omega))
      have HS1 := Lib.hid (show 0 ≤ sp j ∧ sp j ≤ 12288 by have := HSP.out j (by omega); omega)
      have HN1 := Lib.hid (HN.out j)
      rw [← hp] at HN1
      have X3 := Lib.hid (IntWalk.wrap64_in ((p : Int) + 1) (by omega))
      obtain ⟨e0, e1, e2, e3, e4, e5⟩ := six hh
      have HM := Lib.hid (less p t hlt)
      clear hh hb hp hpe hlt hj
      go_wp2_with (fail)
      refine (HS.out _ _).mono ?_
      rintro e w1 ⟨rfl, b1⟩
      have HH1 := Lib.hid (stays HH.out b1)
      have HB1 := Lib.hid (HB.out.trans (b1.mono HB.out.size))
      clear b1 e0 e1 e2 e3 e4 e5 HB HH
      generalize rowsZ x (p : Int) = R at HR HN1 ⊢
      generalize colsZ x (p : Int) = C at HR HN1 ⊢
      have m1 : wrap64 (R * C) = R * C := IntWalk.wrap64_in _ (by have := HR.out; omega)
      have m2 : wrap64 (sp j + R * C) = sp j + R * C := IntWalk.wrap64_in _ (by have := HR.out; have := HS1.out; omega)
      have m3 := X3.out
      go_wp2_with (fail)
      exact ⟨⟨p + 1, j + 1, rfl, by have := HP.out; omega, HJ.out, by rw [HN1.out, m2], HH1.out, HB1.out⟩, HM.out⟩
    · have x0 : ¬ (p : Int) < (t : Int) := by omega
      have x1 : decide ((p : Int) < (t : Int)) = false := decide_eq_false x0
      have hjk : j = k := by omega
      clear hh hb hp hpe hlt hj HP
      subst hjk
      go_wp2_with (fail)
      exact bodyPost_ret (results_tmp rfl _ _ _) rfl ⟨rfl, HB.out⟩
theorem ints_total (x : Cfg) (h : In x) : IntKind.i64.wrap (x.b * spanZ x 2 9) = x.b * spanZ x 2 9 ∧ IntKind.i64.wrap (spanZ x 0 2 + x.b * spanZ x 2 9) = spanZ x 0 2 + x.b * spanZ x 2 9 ∧ IntKind.i64.wrap (spanZ x 0 2 + x.b * spanZ x 2 9 + spanZ x 11 1) = totZ x := by
  have h1 := span_in h 0 2 (by omega)
  have h2 := span_in h 11 1 (by omega)
  have h3 := mid_in h
  unfold totZ
  exact ⟨IntWalk.i64_in _ (by omega), IntWalk.i64_in _ (by omega), IntWalk.i64_in _ (by omega)⟩
set_option maxRecDepth 100000 in
set_option maxHeartbeats 1600000 in
theorem conf_total (w : World) (x : Cfg) (h : In x) : Calls Tryd.prog 24 #[cfV x] w fun e w' => e = .returned (.int .i64 (totZ x)) ∧ Below w.heap.size w w' := by
  have H1 := Lib.hid (fun W => show Calls Tryd.prog 36 #[cfV x, .int .i64 0, .int .i64 2] W fun e w' => e = .returned (.int .i64 (spanZ x 0 2)) ∧ Below W.heap.size W w' from conf_span W x h 0 2 2 rfl (by omega))
  have H2 := Lib.hid (fun W => show Calls Tryd.prog 36 #[cfV x, .int .i64 2, .int .i64 11] W fun e w' => e = .returned (.int .i64 (spanZ x 2 9)) ∧ Below W.heap.size W w' from conf_span W x h 2 9 11 rfl (by omega))
  have H3 := Lib.hid (fun W => show Calls Tryd.prog 36 #[cfV x, .int .i64 11, .int .i64 12] W fun e w' => e = .returned (.int .i64 (spanZ x 11 1)) ∧ Below W.heap.size W w' from conf_span W x h 11 1 12 rfl (by omega))
  obtain ⟨i1, i2, i3⟩ := ints_total x h
  have HH := Lib.hid (show (w.alloc (cfO 36 x)).drew.heap[w.heap.size]? = some (cfO 36 x) from heap_alloc_new w _)
  have HB := Lib.hid (show Below w.heap.size w (w.alloc (cfO 36 x)).drew from below_drewN ((Below.refl _ _).alloc (Nat.le_refl _) _) 1)
  have k0 := six HH.out
  unfold cfV at *
  clear h
  generalize totZ x = T at i3 ⊢
  generalize spanZ x 0 2 = a at i2 i3 H1
  generalize spanZ x 11 1 = c at i3 H3
  generalize spanZ x 2 9 = b at i1 i2 i3 H2
  generalize hm : x.b * b = m at i1 i2 i3
  unfold cfO cfA at *
  go_enter Tryd.func24, Tryd.ntmps24
  go_wp2_with (fail)
  go_region_held3 (fun W : World => W.cell? ⟨w.heap.size, 0, none⟩ = some (.int .i64 x.v) ∧ W.cell? ⟨w.heap.size, 1, none⟩ = some (.int .i64 x.d) ∧ W.cell? ⟨w.heap.size, 2, none⟩ = some (.int .i64 x.h) ∧ W.cell? ⟨w.heap.size, 3, none⟩ = some (.int .i64 x.b) ∧ W.cell? ⟨w.heap.size, 4, none⟩ = some (.int .i64 x.n) ∧ W.cell? ⟨w.heap.size, 5, none⟩ = some (.int .i64 x.c)) (first | exact k0 | assumption) (first
    | (go_at_call 36; (with_reducible refine (H1.out _).mono ?_); rintro e w2 ⟨rfl, b2⟩; have HH2 := Lib.hid (stays HH.out b2); have HB2 := Lib.hid (HB.out.trans (b2.mono HB.out.size)); have k2 := six HH2.out; clear b2)
    | (go_at_call 36; (with_reducible refine (H2.out _).mono ?_); rintro e w3 ⟨rfl, b3⟩; have HH3 := Lib.hid (stays HH2.out b3); have HB3 := Lib.hid (HB2.out.trans (b3.mono HB2.out.size)); have k3 := six HH3.out; clear b3)
    | (go_at_call 36; (with_reducible refine (H3.out _).mono ?_); rintro e w4 ⟨rfl, b4⟩; have HH4 := Lib.hid (stays HH3.out b4); have HB4 := Lib.hid (HB3.out.trans (b4.mono HB3.out.size)); have k4 := six HH4.out; clear b4))
  go_wp2_with (fail)
  exact bodyPost_ret (results_tmp rfl _ _ _) rfl ⟨rfl, HB4.out⟩
end Go.Proofs.YtgenpfhcbopokaaDoor
