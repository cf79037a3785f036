/-
  Package twin: place, renew, Save. Conditions: the power is there ahead of it; few writes; both tables of sums lie as the program's text lays them.
  Package twin: Save. Conditions: the power is there ahead of it, or an earlier save met its loss; few writes; both tables of sums lie as the program's text lays them.
  Package twin: Format, Open; of nil. Conditions: the power is there ahead of it; few writes; both tables of sums lie as the program's text lays them.
  A text in two copies, in plain words: what is opened; behind a format, behind a save. No program here. No conditions.
-/
import Derived.Test.YtblgabdlpobbjaaGreatDoorMg12
import Derived.Test.YtblgabdlpobbjaaGreatDoorMg13
import Derived.Test.YtblgabdlpobbjaaGreatDoorMg9
set_option maxRecDepth 100000
namespace Go.Proofs.YtblgabdlpobbjaaGreatDoor
open Go.ChangeShapes Go.WideShapes Go.ChangeAt Go.RowKit Pn Dk Sl Tw

namespace Dk
/-- A text laid from f on, and synced; a fill with nothing, synced. -/
def St.placed (x : St) (f gen : Nat) (s : ByteArray) : St := (x.laid f (secF gen (sealL s)) (szN s.size)).burnt.synced
def St.cleared (x : St) (f n : Nat) : St := (x.filled f (fun _ => 0) n).burnt.synced
/-- The power went when a text was placed; when it was filled ahead of that. -/
def St.PlaceFell (x : St) (f gen : Nat) (s : ByteArray) (y : St) : Prop := x.fuse ≠ none ∧ ∃ k kl, k ≤ szN s.size ∧ y = (x.laid f (secF gen (sealL s)) k).fall kl
def St.FillFell (x : St) (f n : Nat) (y : St) : Prop := x.fuse ≠ none ∧ ∃ k kl, k ≤ n ∧ y = (x.filled f (fun _ => 0) k).fall kl
def St.RenewFell (x : St) (f n gen : Nat) (s : ByteArray) (y : St) : Prop := x.FillFell f n y ∨ (x.cleared f n).PlaceFell f gen s y
theorem cleared_fuse {x : St} (h : x.fuse = none) (f n : Nat) : (x.cleared f n).fuse = none := by
  show (x.filled f (fun _ => 0) n).fuse.map _ = none
  rw [filled_fuse x f _ h n]
  rfl
theorem St.RenewFell.fuse {x : St} {f n gen : Nat} {s : ByteArray} {y : St} (h : x.RenewFell f n gen s y) : x.fuse ≠ none := by
  rcases h with h | h
  · exact h.1
  · exact fun e => h.1 (cleared_fuse e f n)
theorem St.Fz.synced {x : St} (h : x.Fz) : x.synced.Fz := h
end Dk
namespace Zn
variable {w0 w w' : World} {D : Nat} {x : Dk.St} {fs : List (Nat × Obj)}
set_option maxRecDepth 100000 in
set_option maxHeartbeats 1600000 in
theorem place (h : Zn w0 w D x fs) {Z f nz : Nat} (hz : (Z, zobj D f nz) ∈ fs) (hT : Tabs w0) (ha : x.away = false) (hf : x.Fz) (hl : x.loose.length ≤ 1073740000) (hd : x.done < 4611686018427370000) (hfn : f + nz ≤ x.n)
    (n : Nat) (s : ByteArray) (h1 : 1 ≤ n) (h2 : n ≤ 2147483647) (hs : s.size ≤ 1024) (hp : szN s.size ≤ nz) :
    Calls Tryz.prog 28 #[.pointer (some ⟨Z, 0, none⟩), .int .i64 (n : Int), .string s] w fun e w' => ∃ m, e = .returned (.int .i64 m) ∧ (m = 0 ∧ Zn w0 w' D (x.placed f n s) fs ∨ m = 4 ∧ ∃ y, x.PlaceFell f n s y ∧ Zn w0 w' D y fs) := by
  have hmx := szN_max s.size hs
  have HP := Lib.hid (h.putAny hz hT ha hf (by omega) (by omega) hfn n s h1 h2 hs 0 (by omega))
  rw [Nat.add_zero] at HP
  have HS := Lib.hid (fun W (hW : Zn w0 W D (x.laid f (secF n (sealL s)) (szN s.size)) fs) => hW.syncAny ((laid_away _ _ _ _).trans ha) (hf.laid _ _ _) (by rw [laid_len]; omega) (by rw [laid_done]; omega))
  have HC := Lib.hid (fun (W : World) y (hW : Zn w0 W D y fs) => zone_c0 (hW.fix _ hz))
  clear h hz hT ha hf hl hd hfn h1 h2 hs hp hmx
  go_enter Tryz.func28, Tryz.ntmps28
  go_wp2_with (fail)
  refine HP.out.mono ?_
  rintro e w1 ⟨m, rfl, ⟨rfl, g1⟩ | ⟨rfl, hn, k, kl, g0, g1⟩⟩
  · have G1 := Lib.hid g1
    have c0 := HC.out w1 _ g1
    clear g1 HP
    go_wp2_with (fail)
    refine (HS.out w1 G1.out).mono ?_
    rintro e w2 ⟨m, rfl, g2⟩
    have G2 := Lib.hid g2
    clear g2 HS
    go_wp2_with (fail)
    refine bodyPost_ret (results_tmp rfl _ _ _) rfl ?_
    refine ⟨m, rfl, ?_⟩
    rcases G2.out with h3 | ⟨h3, hn, kl, h4⟩
    · exact .inl h3
    · exact .inr ⟨h3, _, ⟨fun e => hn (laid_fuse x _ _ e _), _, kl, Nat.le_refl _, rfl⟩, h4⟩
  · have G1 := Lib.hid g1
    clear g1 HP
    go_wp2_with (fail)
    refine bodyPost_ret (results_tmp rfl _ _ _) rfl ?_
    exact ⟨4, rfl, .inr ⟨rfl, _, ⟨hn, k, kl, g0, rfl⟩, G1.out⟩⟩
set_option maxRecDepth 100000 in
set_option maxHeartbeats 1600000 in
theorem renew (h : Zn w0 w D x fs) {Z f nz : Nat} (hz : (Z, zobj D f nz) ∈ fs) (hT : Tabs w0) (ha : x.away = false) (hf : x.Fz) (hl : x.loose.length ≤ 1073700000) (hd : x.done < 4611686018427300000) (hfn : f + nz ≤ x.n)
    (n : Nat) (s : ByteArray) (h1 : 1 ≤ n) (h2 : n ≤ 2147483647) (hs : s.size ≤ 1024) (hp : szN s.size ≤ nz) :
    Calls Tryz.prog 34 #[.pointer (some ⟨Z, 0, none⟩), .int .i64 (n : Int), .string s] w fun e w' => ∃ m, e = .returned (.int .i64 m) ∧ (m = 0 ∧ Zn w0 w' D ((x.cleared f nz).placed f n s) fs ∨ m = 4 ∧ ∃ y, x.RenewFell f nz n s y ∧ Zn w0 w' D y fs) := by
  have hnb : x.n ≤ 4096 := by obtain ⟨_, _, _, _, _, _, h⟩ := h.disk; exact h.nb
  have l1 := filled_loose x f (fun _ => 0) nz
  have l2 := filled_done x f (fun _ => 0) nz
  have HF := Lib.hid (h.fillAny hz ha hf (by omega) (by omega) hfn 0)
  have HS := Lib.hid (fun W (hW : Zn w0 W D (x.filled f (fun _ => 0) nz) fs) => hW.syncAny ((filled_away _ _ _ _).trans ha) (hf.filled _ _ _) (by omega) (by omega))
  have HP := Lib.hid (fun W (hW : Zn w0 W D (x.cleared f nz) fs) => hW.place hz hT ((filled_away x f _ nz).trans ha) (hf.filled _ _ _).burnt (Nat.zero_le _) (show (x.filled f (fun _ => 0) nz).done + 1 < _ by omega) (by rw [show (x.cleared f nz).n = x.n from filled_n x f _ nz]; exact hfn) n s h1 h2 hs hp)
  have HC := Lib.hid (fun (W : World) y (hW : Zn w0 W D y fs) => zone_c0 (hW.fix _ hz))
  clear h hz hT ha hf hl hd hfn h1 h2 hs hp l1 l2
  go_enter Tryz.func34, Tryz.ntmps34
  go_wp2_with (fail)
  refine HF.out.mono ?_
  rintro e w1 ⟨m, rfl, ⟨rfl, g1⟩ | ⟨rfl, hn, k, kl, g0, g1⟩⟩
  · have G1 := Lib.hid g1
    have c0 := HC.out w1 _ g1
    clear g1 HF
    go_wp2_with (fail)
    refine (HS.out w1 G1.out).mono ?_
    rintro e w2 ⟨m, rfl, ⟨rfl, g2⟩ | ⟨rfl, hn, kl, g2⟩⟩
    · have G2 := Lib.hid g2
      clear g2 HS G1 c0
      go_wp2_with (fail)
      refine (HP.out w2 G2.out).mono ?_
      rintro e w3 ⟨m, rfl, g3⟩
      have G3 := Lib.hid g3
      clear g3 HP
      go_wp2_with (fail)
      refine bodyPost_ret (results_tmp rfl _ _ _) rfl ?_
      refine ⟨m, rfl, ?_⟩
      rcases G3.out with h3 | ⟨h3, y, h4, h5⟩
      · exact .inl h3
      · exact .inr ⟨h3, y, .inr h4, h5⟩
    · have G2 := Lib.hid g2
      clear g2 HS G1 c0
      go_wp2_with (fail)
      refine bodyPost_ret (results_tmp rfl _ _ _) rfl ?_
      exact ⟨4, rfl, .inr ⟨rfl, _, .inl ⟨fun e => hn (filled_fuse x f _ e _), _, kl, Nat.le_refl _, rfl⟩, G2.out⟩⟩
  · have G1 := Lib.hid g1
    clear g1 HF
    go_wp2_with (fail)
    refine bodyPost_ret (results_tmp rfl _ _ _) rfl ?_
    exact ⟨4, rfl, .inr ⟨rfl, _, .inl ⟨hn, k, kl, g0, rfl⟩, G1.out⟩⟩
end Zn
end Go.Proofs.YtblgabdlpobbjaaGreatDoor
namespace Go.Proofs.YtblgabdlpobbjaaGreatDoor
open Go.ChangeShapes Go.WideShapes Go.ChangeAt Go.RowKit Pn Dk Sl Tw

theorem wrap_nat {m : Nat} (h : m ≤ 2147483647) : IntKind.i64.wrap (m : Int) = (m : Int) ∧ wrap64 (m : Int) = (m : Int) := ⟨IntWalk.i64_in _ (by omega), IntWalk.wrap64_in _ (by omega)⟩
section
variable (w : World) (T Z D f n g k : Nat) (u s : ByteArray) (b : Bool) (ht : w.heap[T]? = some (tobj Z u g k b)) (hz : w.heap[Z]? = some (zobj D f n)) (hn : n ≤ 4096) (hs : s.size ≤ maxLen)
include ht hz hn hs
theorem twin_save_arg (hb : fitB n s = false) : Calls Tryz.prog 16 #[.pointer (some ⟨T, 0, none⟩), .string s] w fun e w' => e = .returned (.int .i64 1) ∧ w = w' := by
  have hF := twin_fits w Z D f n hz hn s hs
  rw [hb] at hF
  have HF := Lib.hid hF
  have c0 := twin_c0 ht
  clear ht hz hn hs hb hF
  go_enter Tryz.func16, Tryz.ntmps16
  go_wp2_with (fail)
  refine HF.out.mono ?_
  rintro e w1 ⟨rfl, rfl⟩
  go_wp2_with (fail)
  refine bodyPost_ret (results_tmp rfl _ _ _) rfl ?_
  exact ⟨rfl, rfl⟩
theorem twin_save_full (hb : fitB n s = true) (hg : 2147483647 ≤ g) : Calls Tryz.prog 16 #[.pointer (some ⟨T, 0, none⟩), .string s] w fun e w' => e = .returned (.int .i64 10) ∧ w = w' := by
  have hF := twin_fits w Z D f n hz hn s hs
  rw [hb] at hF
  have HF := Lib.hid hF
  have c0 := twin_c0 ht
  have c2 := twin_c2 ht
  have x1 : (2147483647 : Int) ≤ (g : Int) := by omega
  have t1 : decide ((2147483647 : Int) ≤ (g : Int)) = true := decide_eq_true x1
  clear ht hz hn hs hb hF hg
  go_enter Tryz.func16, Tryz.ntmps16
  go_wp2_with (fail)
  refine HF.out.mono ?_
  rintro e w1 ⟨rfl, rfl⟩
  go_wp2_with (fail)
  refine bodyPost_ret (results_tmp rfl _ _ _) rfl ?_
  exact ⟨rfl, rfl⟩
end
section
variable (w : World) (T Z D f n g k : Nat) (u s : ByteArray) (hz : w.heap[Z]? = some (zobj D f n)) (hn : n ≤ 4096) (hs : s.size ≤ maxLen)
include hz hn hs
theorem twin_save_down (ht : w.heap[T]? = some (tobj Z u g k true)) (hb : fitB n s = true) (hg : g < 2147483647) : Calls Tryz.prog 16 #[.pointer (some ⟨T, 0, none⟩), .string s] w fun e w' => e = .returned (.int .i64 4) ∧ w = w' := by
  have hF := twin_fits w Z D f n hz hn s hs
  rw [hb] at hF
  have HF := Lib.hid hF
  have c0 := twin_c0 ht
  have c2 := twin_c2 ht
  have c4 := twin_c4 ht
  have x1 : ¬ (2147483647 : Int) ≤ (g : Int) := by omega
  have t1 : decide ((2147483647 : Int) ≤ (g : Int)) = false := decide_eq_false x1
  clear ht hz hn hs hb hF hg
  go_enter Tryz.func16, Tryz.ntmps16
  go_wp2_with (fail)
  refine HF.out.mono ?_
  rintro e w1 ⟨rfl, rfl⟩
  go_wp2_with (fail)
  refine bodyPost_ret (results_tmp rfl _ _ _) rfl ?_
  exact ⟨rfl, rfl⟩
end
namespace Zn
variable {w0 w w' : World} {D : Nat} {x : Dk.St} {fs : List (Nat × Obj)}
/-- Where the copy that isn't the last one begins. -/
def other (f n k : Nat) : Nat := f + (1 - k) * (n / 2)
set_option maxRecDepth 100000 in
set_option maxHeartbeats 3200000 in
theorem save {T Z f n g k : Nat} {u : ByteArray} (h : Zn w0 w D x ((T, tobj Z u g k false) :: fs)) (hz : (Z, zobj D f n) ∈ fs) (hne : ∀ z ∈ fs, z.1 ≠ T) (hTw : w0.heap.size ≤ T) (hT : Tabs w0) (ha : x.away = false) (hf : x.Fz) (hl : x.loose.length ≤ 1073700000) (hd : x.done < 4611686018427300000) (hfn : f + n ≤ x.n)
    (h4 : 2 ≤ n) (hk : k < 2) (s : ByteArray) (hs : s.size ≤ 1024) (hp : szN s.size ≤ n / 2) (hg : g < 2147483647) :
    Calls Tryz.prog 16 #[.pointer (some ⟨T, 0, none⟩), .string s] w fun e w' => ∃ m, e = .returned (.int .i64 m) ∧ (m = 0 ∧ Zn w0 w' D ((x.cleared (other f n k) (n / 2)).placed (other f n k) (g + 1) s) ((T, tobj Z s (g + 1) (1 - k) false) :: fs) ∨ m = 4 ∧ ∃ y, x.RenewFell (other f n k) (n / 2) (g + 1) s y ∧ Zn w0 w' D y ((T, tobj Z u g k true) :: fs)) := by
  have hnb : x.n ≤ 4096 := by obtain ⟨_, _, _, _, _, _, h⟩ := h.disk; exact h.nb
  have ht := h.fix (T, tobj Z u g k false) (List.mem_cons_self ..)
  have hzz := h.fix _ (List.mem_cons_of_mem _ hz)
  have hF := twin_fits w Z D f n hzz (by omega) s (by unfold maxLen; omega)
  rw [fitB_true hs hp] at hF
  have HF := Lib.hid hF
  have c0 := twin_c0 ht
  have c2 := twin_c2 ht
  have c3 := twin_c3 ht
  have c4 := twin_c4 ht
  have x1 : ¬ (2147483647 : Int) ≤ (g : Int) := by omega
  have t1 : decide ((2147483647 : Int) ≤ (g : Int)) = false := decide_eq_false x1
  have e1 : wrap64 ((1 - k : Nat) : Int) = ((1 - k : Nat) : Int) := IntWalk.wrap64_in _ (by omega)
  have e1' : 1 - (k : Int) = ((1 - k : Nat) : Int) := by omega
  have hg2 : g + 1 ≤ 2147483647 := Nat.succ_le_of_lt hg
  have hg1 : 1 ≤ g + 1 := Nat.succ_le_succ (Nat.zero_le g)
  have e2 := (wrap_nat hg2).2
  have e3 := (wrap_nat hg2).1
  have e2' : (g : Int) + 1 = ((g + 1 : Nat) : Int) := (Int.natCast_succ g).symm
  have hk1 : (1 - k) * (n / 2) ≤ 1 * (n / 2) := Nat.mul_le_mul_right _ (by omega)
  have hoth : other f n k + n / 2 ≤ x.n := by unfold other; omega
  have HCP := Lib.hid (show Calls Tryz.prog 25 #[.pointer (some ⟨Z, 0, none⟩), .int .i64 ((1 - k : Nat) : Int)] w.drew fun e w' => ∃ Z', e = .returned (.pointer (some ⟨Z', 0, none⟩)) ∧ Zn w0 w' D x ((Z', zobj D (other f n k) (n / 2)) :: (T, tobj Z u g k false) :: fs) from by
    refine (twin_copyOf w.drew Z D f n ((h.drewN 1).fix _ (List.mem_cons_of_mem _ hz)) (by omega) _ x (h.drewN 1).disk hfn h4 (1 - k) (by omega)).mono ?_
    rintro e w' ⟨Z', rfl, g1, g2, g3⟩
    exact ⟨Z', rfl, (h.drewN 1).add g3 g1 g2⟩)
  have HR := Lib.hid (fun (W : World) (Z' : Nat) (hW : Zn w0 W D x ((Z', zobj D (other f n k) (n / 2)) :: (T, tobj Z u g k false) :: fs)) => hW.renew (Z := Z') (List.mem_cons_self ..) hT ha hf hl hd hoth (g + 1) s hg1 hg2 hs hp)
  have HFX := Lib.hid (fun (W : World) (Z' : Nat) y (hW : Zn w0 W D y ((Z', zobj D (other f n k) (n / 2)) :: (T, tobj Z u g k false) :: fs)) => (show Zn w0 W D y ((T, tobj Z u g k false) :: fs) from hW.less (fun z hz => List.mem_cons_of_mem _ hz)))
  have HTN := Lib.hid (show ∀ (W : World) y, Zn w0 W D y ((T, tobj Z u g k false) :: fs) → Zn w0 (W.setCell ⟨T, 4, none⟩ (.bool true)) D y ((T, tobj Z u g k true) :: fs) ∧ Zn w0 (((W.setCell ⟨T, 1, none⟩ (.string s)).setCell ⟨T, 2, none⟩ (.int .i64 ((g + 1 : Nat) : Int))).setCell ⟨T, 3, none⟩ (.int .i64 ((1 - k : Nat) : Int))) D y ((T, tobj Z s (g + 1) (1 - k) false) :: fs) from fun W y hW => by
    have hb := hW.fix (T, tobj Z u g k false) (List.mem_cons_self ..)
    refine ⟨hW.turn hTw hne (heap_setCell_same W T 4 _ _ _ hb) (fun i hi => heap_setCell_other W ⟨T, 4, none⟩ i _ hi) ⟨rfl, rfl, rfl⟩ (by simp [World.setCell]), hW.turn hTw hne (heap_setCell_same _ T 3 _ _ _ (heap_setCell_same _ T 2 _ _ _ (heap_setCell_same W T 1 _ _ _ hb))) (fun i hi => ?_) ⟨rfl, rfl, rfl⟩ (by simp [World.setCell])⟩
    rw [heap_setCell_other _ ⟨T, 3, none⟩ i _ hi, heap_setCell_other _ ⟨T, 2, none⟩ i _ hi, heap_setCell_other _ ⟨T, 1, none⟩ i _ hi])
  have HC := Lib.hid (show ∀ (W : World) y, Zn w0 W D y ((T, tobj Z u g k false) :: fs) → W.heap[T]? = some (tobj Z u g k false) from fun W y hW => hW.fix (T, tobj Z u g k false) (List.mem_cons_self ..))
  clear h hz hne hTw hT ha hf hl hd hfn h4 hk hs hp hg ht hzz hF hk1 hoth hg1 hg2
  generalize ((1 - k : Nat) : Int) = k1 at e1 e1' HCP HTN
  generalize ((g + 1 : Nat) : Int) = g1 at e2 e2' e3 HR HTN
  go_enter Tryz.func16, Tryz.ntmps16
  go_wp2_with (fail)
  refine HF.out.mono ?_
  rintro e w1 ⟨rfl, rfl⟩
  go_wp2_with (fail)
  clear c3 c4 HF
  have c0d : w.drew.cell? ⟨T, 0, none⟩ = some (.pointer (some ⟨Z, 0, none⟩)) := c0
  have c2d : w.drew.cell? ⟨T, 2, none⟩ = some (.int .i64 (g : Int)) := c2
  go_region_held3 (fun W : World => W.cell? ⟨T, 0, none⟩ = some (.pointer (some ⟨Z, 0, none⟩)) ∧ W.cell? ⟨T, 2, none⟩ = some (.int .i64 (g : Int))) (first | exact ⟨c0d, c2d⟩ | assumption) (first
    | (go_at_call 25; (with_reducible refine HCP.out.mono ?_); rintro e w2 ⟨Z', rfl, h2⟩; have H2 := Lib.hid h2; have hh2 := HC.out w2 _ (HFX.out w2 Z' _ h2); have hs := And.intro (twin_c0 hh2) (twin_c2 hh2); clear h2)
    | (go_at_call 34; (with_reducible refine (HR.out _ Z' H2.out).mono ?_); rintro e w3 ⟨m, rfl, h3⟩; have H3 := Lib.hid h3; have hh3 : w3.heap[T]? = some (tobj Z u g k false) := (by rcases h3 with ⟨_, h3⟩ | ⟨_, y, _, h3⟩ <;> exact HC.out w3 _ (HFX.out w3 Z' _ h3)); have hs := And.intro (twin_c0 hh3) (twin_c2 hh3); clear h3))
  rcases H3.out with ⟨rfl, h3⟩ | ⟨rfl, y, hy, h3⟩
  · have hT3 := HC.out _ _ (HFX.out _ Z' _ h3)
    have F := Lib.hid (HTN.out _ _ (HFX.out _ Z' _ h3)).2
    have d1 := twin_c1 hT3
    have d2 := twin_c2 hT3
    have d3 := twin_c3 hT3
    have f1 := twin_fz hT3
    clear h3 H3 H2 hT3 HTN HFX HC HR HCP c0 c2 c0d c2d
    go_wp2_with (fail)
    refine bodyPost_ret (results_tmp rfl _ _ _) rfl ?_
    exact ⟨0, rfl, .inl ⟨rfl, F.out⟩⟩
  · have hT3 := HC.out _ _ (HFX.out _ Z' _ h3)
    have F := Lib.hid (HTN.out _ _ (HFX.out _ Z' _ h3)).1
    have d4 := twin_c4 hT3
    have f1 := twin_fz hT3
    clear h3 H3 H2 hT3 HTN HFX HC HR HCP c0 c2 c0d c2d
    go_wp2_with (fail)
    refine bodyPost_ret (results_tmp rfl _ _ _) rfl ?_
    exact ⟨4, rfl, .inr ⟨rfl, y, hy, F.out⟩⟩
end Zn
end Go.Proofs.YtblgabdlpobbjaaGreatDoor
namespace Go.Proofs.YtblgabdlpobbjaaGreatDoor
open Go.ChangeShapes Go.WideShapes Go.ChangeAt Go.RowKit Pn Dk Sl Tw

theorem twin_format_nil (w : World) (s : ByteArray) : Calls Tryz.prog 10 #[.pointer none, .string s] w fun e w' => e = .returned (.tuple #[.pointer none, .int .i64 2]) ∧ w = w' := by
  go_enter Tryz.func10, Tryz.ntmps10
  go_wp2
  refine bodyPost_ret (results_tmp2 rfl _ _ _) rfl ?_
  exact ⟨rfl, rfl⟩
theorem twin_open_nil (w : World) : Calls Tryz.prog 9 #[.pointer none] w fun e w' => e = .returned (.tuple #[.pointer none, .int .i64 2]) ∧ w = w' := by
  go_enter Tryz.func9, Tryz.ntmps9
  go_wp2
  refine bodyPost_ret (results_tmp2 rfl _ _ _) rfl ?_
  exact ⟨rfl, rfl⟩
theorem twin_save_nil (w : World) (s : ByteArray) : Calls Tryz.prog 16 #[.pointer none, .string s] w fun e w' => e = .returned (.int .i64 2) ∧ w = w' := by
  go_enter Tryz.func16, Tryz.ntmps16
  go_wp2
  refine bodyPost_ret (results_tmp rfl _ _ _) rfl ?_
  exact ⟨rfl, rfl⟩
theorem twin_text_nil (w : World) : Calls Tryz.prog 13 #[.pointer none] w fun e w' => e = .returned (.string ⟨#[]⟩) ∧ w = w' := by
  go_enter Tryz.func13, Tryz.ntmps13
  go_wp2
  refine bodyPost_ret (results_tmp rfl _ _ _) rfl ?_
  exact ⟨rfl, rfl⟩
theorem twin_gen_nil (w : World) : Calls Tryz.prog 14 #[.pointer none] w fun e w' => e = .returned (.int .i64 0) ∧ w = w' := by
  go_enter Tryz.func14, Tryz.ntmps14
  go_wp2
  refine bodyPost_ret (results_tmp rfl _ _ _) rfl ?_
  exact ⟨rfl, rfl⟩
theorem twin_side_nil (w : World) : Calls Tryz.prog 15 #[.pointer none] w fun e w' => e = .returned (.int .i64 0) ∧ w = w' := by
  go_enter Tryz.func15, Tryz.ntmps15
  go_wp2
  refine bodyPost_ret (results_tmp rfl _ _ _) rfl ?_
  exact ⟨rfl, rfl⟩
section
variable (w : World) (Z D f n : Nat) (hz : w.heap[Z]? = some (zobj D f n)) (hn : n ≤ 4096) (hb : canB n = false)
include hz hn hb
theorem twin_format_cant (s : ByteArray) : Calls Tryz.prog 10 #[.pointer (some ⟨Z, 0, none⟩), .string s] w fun e w' => e = .returned (.tuple #[.pointer none, .int .i64 1]) ∧ w = w' := by
  have hF := twin_canBe w Z D f n hz hn
  rw [hb] at hF
  have HF := Lib.hid hF
  clear hz hn hb hF
  go_enter Tryz.func10, Tryz.ntmps10
  go_wp2_with (fail)
  refine HF.out.mono ?_
  rintro e w1 ⟨rfl, rfl⟩
  go_wp2_with (fail)
  refine bodyPost_ret (results_tmp2 rfl _ _ _) rfl ?_
  exact ⟨rfl, rfl⟩
theorem twin_open_cant : Calls Tryz.prog 9 #[.pointer (some ⟨Z, 0, none⟩)] w fun e w' => e = .returned (.tuple #[.pointer none, .int .i64 1]) ∧ w = w' := by
  have hF := twin_canBe w Z D f n hz hn
  rw [hb] at hF
  have HF := Lib.hid hF
  clear hz hn hb hF
  go_enter Tryz.func9, Tryz.ntmps9
  go_wp2_with (fail)
  refine HF.out.mono ?_
  rintro e w1 ⟨rfl, rfl⟩
  go_wp2_with (fail)
  refine bodyPost_ret (results_tmp2 rfl _ _ _) rfl ?_
  exact ⟨rfl, rfl⟩
end
namespace Tw
/-- What is got of a copy; the last one of the first k. -/
def getS (x : Dk.St) (f n k : Nat) : ByteArray × Nat × Nat := getR (rdZ x (f + k * (n / 2))) (n / 2) 0
def acc (x : Dk.St) (f n : Nat) : Nat → ByteArray × Nat × Nat
  | 0 => (⟨#[]⟩, 0, 0)
  | k + 1 => if (getS x f n k).2.2 = 0 ∧ (acc x f n k).2.1 < (getS x f n k).2.1 then ((getS x f n k).1, (getS x f n k).2.1, k) else acc x f n k
end Tw
namespace Zn
variable {w0 w w' : World} {D : Nat} {x : Dk.St} {fs : List (Nat × Obj)}
set_option maxRecDepth 100000 in
set_option maxHeartbeats 3200000 in
theorem format (h : Zn w0 w D x fs) {Z f n : Nat} (hz : (Z, zobj D f n) ∈ fs) (hT : Tabs w0) (ha : x.away = false) (hf : x.Fz) (hl : x.loose.length ≤ 1073700000) (hd : x.done < 4611686018427300000) (hfn : f + n ≤ x.n) (hc : canB n = true)
    (s : ByteArray) (hs : s.size ≤ 1024) (hp : szN s.size ≤ n / 2) :
    Calls Tryz.prog 10 #[.pointer (some ⟨Z, 0, none⟩), .string s] w fun e w' => (∃ T, e = .returned (.tuple #[.pointer (some ⟨T, 0, none⟩), .int .i64 0]) ∧ w0.heap.size ≤ T ∧ (∀ z ∈ fs, z.1 ≠ T) ∧ Zn w0 w' D ((x.filled f (fun _ => 0) n).placed f 1 s) ((T, tobj Z s 1 0 false) :: fs)) ∨
      (e = .returned (.tuple #[.pointer none, .int .i64 4]) ∧ ∃ y, (x.FillFell f n y ∨ (x.filled f (fun _ => 0) n).PlaceFell f 1 s y) ∧ Zn w0 w' D y fs) := by
  have hnb : x.n ≤ 4096 := by obtain ⟨_, _, _, _, _, _, h⟩ := h.disk; exact h.nb
  obtain ⟨h4, _⟩ := canB_iff.1 hc
  have hk1 : 0 * (n / 2) = 0 := Nat.zero_mul _
  have l1 := filled_loose x f (fun _ => 0) n
  have l2 := filled_done x f (fun _ => 0) n
  have hB := twin_canBe w Z D f n (h.fix _ hz) (by omega)
  rw [hc] at hB
  have hF := twin_fits w Z D f n (h.fix _ hz) (by omega) s (by unfold maxLen; omega)
  rw [fitB_true hs hp] at hF
  have HB := Lib.hid hB
  have HF := Lib.hid hF
  have HFL := Lib.hid (h.fillAny hz ha hf (by omega) (by omega) hfn 0)
  have HCP := Lib.hid (fun (W : World) (hW : Zn w0 W D (x.filled f (fun _ => 0) n) fs) => (show Calls Tryz.prog 25 #[.pointer (some ⟨Z, 0, none⟩), .int .i64 0] W fun e w' => ∃ Z', e = .returned (.pointer (some ⟨Z', 0, none⟩)) ∧ Zn w0 w' D (x.filled f (fun _ => 0) n) ((Z', zobj D f (n / 2)) :: fs) from by
    refine (twin_copyOf W Z D f n (hW.fix _ hz) (by omega) _ _ hW.disk (by rw [filled_n]; exact hfn) (by omega) 0 (by omega)).mono ?_
    rintro e w' ⟨Z', rfl, g1, g2, g3⟩
    rw [hk1, Nat.add_zero] at g2
    exact ⟨Z', rfl, hW.add g3 g1 g2⟩))
  have hh : f + n / 2 ≤ x.n := by omega
  have HPL := Lib.hid (fun (W : World) (Z' : Nat) (hW : Zn w0 W D (x.filled f (fun _ => 0) n) ((Z', zobj D f (n / 2)) :: fs)) => hW.place (Z := Z') (List.mem_cons_self ..) hT ((filled_away _ _ _ _).trans ha) (hf.filled _ _ _) (by omega) (by omega) (by rw [filled_n]; exact hh) 1 s (Nat.le_refl _) (by decide) hs hp)
  have HLT := Lib.hid (fun (W : World) y (hW : Zn w0 W D y fs) => (show w0.heap.size ≤ W.heap.size ∧ ∀ z ∈ fs, z.1 ≠ W.heap.size from ⟨hW.below.size, fun z hz => Nat.ne_of_lt (Array.getElem?_eq_some_iff.1 (hW.fix z hz)).1⟩))
  clear h hz hT ha hf hl hd hfn hc hs hp hnb h4 hk1 l1 l2 hB hF hh
  go_enter Tryz.func10, Tryz.ntmps10
  go_wp2_with (fail)
  refine HB.out.mono ?_
  rintro e w1 ⟨rfl, rfl⟩
  go_wp2_with (fail)
  refine HF.out.mono ?_
  rintro e w1 ⟨rfl, rfl⟩
  clear HB HF
  go_wp2_with (fail)
  refine HFL.out.mono ?_
  rintro e w1 ⟨m, rfl, ⟨rfl, g1⟩ | ⟨rfl, hn, k, kl, g0, g1⟩⟩
  · have G1 := Lib.hid g1
    clear g1 HFL
    go_wp2_with (fail)
    refine (HCP.out w1 G1.out).mono ?_
    rintro e w2 ⟨Z', rfl, g2⟩
    have G2 := Lib.hid g2
    clear g2 HCP G1
    go_wp2_with (fail)
    refine (HPL.out w2 Z' G2.out).mono ?_
    rintro e w3 ⟨m, rfl, ⟨rfl, g3⟩ | ⟨rfl, y, hy, g3⟩⟩
    · have G3 := Lib.hid (g3.less (gs := fs) (fun z hz => List.mem_cons_of_mem _ hz))
      clear g3 HPL G2
      go_wp2_with (fail)
      refine bodyPost_ret (results_tmp2 rfl _ _ _) rfl ?_
      exact .inl ⟨_, rfl, (HLT.out w3 _ G3.out).1, (HLT.out w3 _ G3.out).2, G3.out.add ((Below.refl _ _).alloc (Nat.le_refl _) _) (Nat.le_refl _) (heap_alloc_new w3 _)⟩
    · have G3 := Lib.hid (g3.less (gs := fs) (fun z hz => List.mem_cons_of_mem _ hz))
      clear g3 HPL G2
      go_wp2_with (fail)
      refine bodyPost_ret (results_tmp2 rfl _ _ _) rfl ?_
      exact .inr ⟨rfl, y, .inr hy, G3.out⟩
  · have G1 := Lib.hid g1
    clear g1 HFL
    go_wp2_with (fail)
    refine bodyPost_ret (results_tmp2 rfl _ _ _) rfl ?_
    exact .inr ⟨rfl, _, .inl ⟨hn, k, kl, g0, rfl⟩, G1.out⟩
set_option maxRecDepth 100000 in
set_option maxHeartbeats 3200000 in
theorem open_ (h : Zn w0 w D x fs) {Z f n : Nat} (hz : (Z, zobj D f n) ∈ fs) (hT : Tabs w0) (ha : x.away = false) (hfn : f + n ≤ x.n) (hc : canB n = true) :
    Calls Tryz.prog 9 #[.pointer (some ⟨Z, 0, none⟩)] w fun e w' => ((acc x f n 2).2.1 = 0 ∧ e = .returned (.tuple #[.pointer none, .int .i64 5]) ∧ Zn w0 w' D x fs) ∨
      ∃ T, 1 ≤ (acc x f n 2).2.1 ∧ e = .returned (.tuple #[.pointer (some ⟨T, 0, none⟩), .int .i64 0]) ∧ w0.heap.size ≤ T ∧ (∀ z ∈ fs, z.1 ≠ T) ∧ Zn w0 w' D x ((T, tobj Z (acc x f n 2).1 (acc x f n 2).2.1 (acc x f n 2).2.2 false) :: fs) := by
  have hnb : x.n ≤ 4096 := by obtain ⟨_, _, _, _, _, _, h⟩ := h.disk; exact h.nb
  obtain ⟨h4, _⟩ := canB_iff.1 hc
  have hB := twin_canBe w Z D f n (h.fix _ hz) (by omega)
  rw [hc] at hB
  have hI := disk_isOn _ w D x h.disk
  rw [ha] at hI
  have HB := Lib.hid hB
  have HI := Lib.hid hI
  have c0 := zone_c0 (h.fix _ hz)
  have HST := Lib.hid (show ∀ k : Nat, acc x f n (k + 1) = if (getS x f n k).2.2 = 0 ∧ (acc x f n k).2.1 < (getS x f n k).2.1 then ((getS x f n k).1, (getS x f n k).2.1, k) else acc x f n k from fun k => rfl)
  have hkk : ∀ k, k < 2 → f + k * (n / 2) + n / 2 ≤ x.n := fun k hk => by
    have hk1 : k * (n / 2) ≤ 1 * (n / 2) := Nat.mul_le_mul_right _ (by omega)
    omega
  have HCP := Lib.hid (fun (W : World) (gs : List (Nat × Obj)) (hW : Zn w0 W D x gs) (hz' : (Z, zobj D f n) ∈ gs) (k : Nat) (hk : k < 2) => (show Calls Tryz.prog 25 #[.pointer (some ⟨Z, 0, none⟩), .int .i64 (k : Int)] W fun e w' => ∃ Z', e = .returned (.pointer (some ⟨Z', 0, none⟩)) ∧ Zn w0 w' D x ((Z', zobj D (f + k * (n / 2)) (n / 2)) :: gs) from by
    refine (twin_copyOf W Z D f n (hW.fix _ hz') (by omega) _ _ hW.disk hfn (by omega) k hk).mono ?_
    rintro e w' ⟨Z', rfl, g1, g2, g3⟩
    exact ⟨Z', rfl, hW.add g3 g1 g2⟩))
  have HG := Lib.hid (fun (W : World) (Z' k : Nat) (gs : List (Nat × Obj)) (hk : k < 2) (hW : Zn w0 W D x ((Z', zobj D (f + k * (n / 2)) (n / 2)) :: gs)) (s : ByteArray) (m e0 : Nat) (hg : getS x f n k = (s, m, e0)) => hW.get (Z := Z') (List.mem_cons_self ..) hT ha (hkk k hk) 0 (by omega) hg)
  have HT0 := Lib.hid (show w0.heap.size ≤ w.heap.size ∧ ∀ z ∈ fs, z.1 ≠ w.heap.size from ⟨h.below.size, fun z hz => Nat.ne_of_lt (Array.getElem?_eq_some_iff.1 (h.fix z hz)).1⟩)
  have H0 := Lib.hid (show Zn w0 (w.alloc (tobj Z ⟨#[]⟩ 0 0 false)) D x ((w.heap.size, tobj Z ⟨#[]⟩ 0 0 false) :: fs) from h.add ((Below.refl _ _).alloc (Nat.le_refl _) _) (Nat.le_refl _) (heap_alloc_new w _))
  have HZ := Lib.hid hz
  clear h hz hT ha hfn hc hnb h4 hB hI hkk
  go_enter Tryz.func9, Tryz.ntmps9
  go_wp2_with (fail)
  refine HB.out.mono ?_
  rintro e w1 ⟨rfl, rfl⟩
  go_wp2_with (fail)
  refine HI.out.mono ?_
  rintro e w1 ⟨rfl, rfl⟩
  clear HB HI
  go_wp2_with (fail)
  obtain ⟨T, hTe⟩ : ∃ T, T = w.heap.size := ⟨_, rfl⟩
  rw [← hTe] at H0 HT0
  rw [← hTe]
  have H0' := Lib.hid (show ∃ W, W = w.alloc (tobj Z ⟨#[]⟩ 0 0 false) ∧ Zn w0 W D x ((T, tobj Z ⟨#[]⟩ 0 0 false) :: fs) from ⟨_, rfl, H0.out⟩)
  clear H0 hTe
  go_loopw [23] (fun i wr => ∃ k : Nat, i = .int .i64 (k : Int) ∧ k ≤ 2 ∧ Zn w0 wr D x ((T, tobj Z (acc x f n k).1 (acc x f n k).2.1 (acc x f n k).2.2 false) :: fs)) (fun i _ => match i with | .int _ k => 2 - k.toNat | _ => 0)
  case atStart =>
    obtain ⟨W, rfl, hW⟩ := H0'.out
    exact ⟨0, rfl, Nat.zero_le _, hW⟩
  case round =>
    clear H0' c0
    obtain ⟨k, rfl, hk2, hW⟩ := hrel
    have HW := Lib.hid hW
    have a2 := twin_c2 (hW.fix (T, tobj Z (acc x f n k).1 (acc x f n k).2.1 (acc x f n k).2.2 false) (List.mem_cons_self ..))
    clear hW
    by_cases hlt : k < 2
    · have y0 : (k : Int) < 2 := by omega
      have y1 : decide ((k : Int) < 2) = true := decide_eq_true y0
      have y2 : 0 ≤ (k : Int) := by omega
      have HA := Lib.hid (HST.out k)
      obtain ⟨s, m, e0, hr⟩ : ∃ s m e0, getS x f n k = (s, m, e0) := ⟨_, _, _, rfl⟩
      have HG1 := Lib.hid (fun W Z' gs hW => HG.out W Z' k gs hlt hW s m e0 hr)
      have HCP1 := Lib.hid (HCP.out wr _ HW.out (List.mem_cons_of_mem _ HZ.out) k hlt)
      rw [hr] at HA
      clear HG HCP HST hr
      go_wp2_with (fail)
      refine HCP1.out.mono ?_
      rintro e w2 ⟨Z', rfl, g2⟩
      have G2 := Lib.hid g2
      clear g2 HCP1 a2
      go_wp2_with (fail)
      refine (HG1.out w2 Z' _ G2.out).mono ?_
      rintro e w3 ⟨rfl, g3⟩
      have G3 := Lib.hid (g3.less (fun z hz => List.mem_cons_of_mem _ hz))
      have b2 := twin_c2 (G3.out.fix (T, tobj Z (acc x f n k).1 (acc x f n k).2.1 (acc x f n k).2.2 false) (List.mem_cons_self ..))
      have f1 := twin_fz (G3.out.fix (T, tobj Z (acc x f n k).1 (acc x f n k).2.1 (acc x f n k).2.2 false) (List.mem_cons_self ..))
      have cc := twin_c1 (G3.out.fix (T, tobj Z (acc x f n k).1 (acc x f n k).2.1 (acc x f n k).2.2 false) (List.mem_cons_self ..))
      have cd := twin_c3 (G3.out.fix (T, tobj Z (acc x f n k).1 (acc x f n k).2.1 (acc x f n k).2.2 false) (List.mem_cons_self ..))
      clear g3 HG1 G2
      by_cases he : e0 = 0
      · have t1 : ((e0 : Int) == 0) = true := by rw [he]; rfl
        by_cases hm : (acc x f n k).2.1 < m
        · have t2' : ((acc x f n k).2.1 : Int) < (m : Int) := by omega
          have t2 : decide (((acc x f n k).2.1 : Int) < (m : Int)) = true := decide_eq_true t2'
          have hA := HA.out
          rw [if_pos ⟨he, hm⟩] at hA
          have HN := Lib.hid (show Zn w0 (((w3.setCell ⟨T, 1, none⟩ (.string s)).setCell ⟨T, 2, none⟩ (.int .i64 (m : Int))).setCell ⟨T, 3, none⟩ (.int .i64 (k : Int))) D x ((T, tobj Z (acc x f n (k + 1)).1 (acc x f n (k + 1)).2.1 (acc x f n (k + 1)).2.2 false) :: fs) from by
            rw [hA]
            refine G3.out.turn HT0.out.1 HT0.out.2 (heap_setCell_same _ T 3 _ _ _ (heap_setCell_same _ T 2 _ _ _ (heap_setCell_same w3 T 1 _ _ _ (G3.out.fix (T, tobj Z (acc x f n k).1 (acc x f n k).2.1 (acc x f n k).2.2 false) (List.mem_cons_self ..))))) (fun i hi => ?_) ⟨rfl, rfl, rfl⟩ (by simp [World.setCell])
            rw [heap_setCell_other _ ⟨T, 3, none⟩ i _ hi, heap_setCell_other _ ⟨T, 2, none⟩ i _ hi, heap_setCell_other _ ⟨T, 1, none⟩ i _ hi])
          clear hA HA G3 hm he HW
          generalize (acc x f n k).2.1 = ag at b2 t2 t2'
          go_wp2_with (fail)
          exact ⟨⟨k + 1, rfl, by omega, HN.out⟩, by show 2 - ((k : Int) + 1).toNat < 2 - (k : Int).toNat; omega⟩
        · have t2' : ¬ ((acc x f n k).2.1 : Int) < (m : Int) := by omega
          have t2 : decide (((acc x f n k).2.1 : Int) < (m : Int)) = false := decide_eq_false t2'
          have hA := HA.out
          rw [if_neg (fun h => hm h.2)] at hA
          have HN := Lib.hid G3.out
          rw [← hA] at HN
          clear hA HA G3 hm he HW
          generalize (acc x f n k).2.1 = ag at b2 t2 t2'
          go_wp2_with (fail)
          exact ⟨⟨k + 1, rfl, by omega, HN.out⟩, by show 2 - ((k : Int) + 1).toNat < 2 - (k : Int).toNat; omega⟩
      · have t1 : ((e0 : Int) == 0) = false := beq_eq_false_iff_ne.2 (by omega)
        have hA := HA.out
        rw [if_neg (fun h => he h.1)] at hA
        have HN := Lib.hid G3.out
        rw [← hA] at HN
        clear hA HA G3 he HW
        go_wp2_with (fail)
        exact ⟨⟨k + 1, rfl, by omega, HN.out⟩, by show 2 - ((k : Int) + 1).toNat < 2 - (k : Int).toNat; omega⟩
    · have hke : k = 2 := by omega
      subst hke
      have y1 : decide (((2 : Nat) : Int) < 2) = false := decide_eq_false (by omega)
      have y0 : ¬ ((2 : Nat) : Int) < 2 := by omega
      clear hlt HG HCP HST HZ
      by_cases hg : (acc x f n 2).2.1 = 0
      · have z1 : decide (((acc x f n 2).2.1 : Int) < 1) = true := decide_eq_true (by omega)
        have HG0 := Lib.hid hg
        have HL := Lib.hid (HW.out.less (gs := fs) (fun z hz => List.mem_cons_of_mem _ hz))
        clear hg HW
        generalize ((acc x f n 2).2.1 : Int) = ag at a2 z1
        go_wp2_with (fail)
        refine bodyPost_ret (results_tmp2 rfl _ _ _) rfl ?_
        exact .inl ⟨HG0.out, rfl, HL.out⟩
      · have z1 : decide (((acc x f n 2).2.1 : Int) < 1) = false := decide_eq_false (by omega)
        have HG0 := Lib.hid (show 1 ≤ (acc x f n 2).2.1 by omega)
        clear hg
        generalize ((acc x f n 2).2.1 : Int) = ag at a2 z1
        go_wp2_with (fail)
        refine bodyPost_ret (results_tmp2 rfl _ _ _) rfl ?_
        exact .inr ⟨HG0.out, T, rfl, HT0.out.1, fun a b hab => HT0.out.2 (a, b) hab, HW.out⟩
/-- Without a fuse. -/
theorem formatOn (h : Zn w0 w D x fs) {Z f n : Nat} (hz : (Z, zobj D f n) ∈ fs) (hT : Tabs w0) (ha : x.away = false) (hf : x.fuse = none) (hl : x.loose.length ≤ 1073700000) (hd : x.done < 4611686018427300000) (hfn : f + n ≤ x.n) (hc : canB n = true)
    (s : ByteArray) (hs : s.size ≤ 1024) (hp : szN s.size ≤ n / 2) :
    Calls Tryz.prog 10 #[.pointer (some ⟨Z, 0, none⟩), .string s] w fun e w' => ∃ T, e = .returned (.tuple #[.pointer (some ⟨T, 0, none⟩), .int .i64 0]) ∧ w0.heap.size ≤ T ∧ (∀ z ∈ fs, z.1 ≠ T) ∧ Zn w0 w' D ((x.filled f (fun _ => 0) n).placed f 1 s) ((T, tobj Z s 1 0 false) :: fs) := by
  refine (h.format hz hT ha (St.Fz.of_none hf) hl hd hfn hc s hs hp).mono ?_
  rintro e w' (h1 | ⟨_, y, hy, _⟩)
  · exact h1
  · rcases hy with hy | hy
    · exact absurd hf hy.1
    · exact absurd (filled_fuse _ _ _ hf _) hy.1
theorem saveOn {T Z f n g k : Nat} {u : ByteArray} (h : Zn w0 w D x ((T, tobj Z u g k false) :: fs)) (hz : (Z, zobj D f n) ∈ fs) (hne : ∀ z ∈ fs, z.1 ≠ T) (hTw : w0.heap.size ≤ T) (hT : Tabs w0) (ha : x.away = false) (hf : x.fuse = none) (hl : x.loose.length ≤ 1073700000) (hd : x.done < 4611686018427300000) (hfn : f + n ≤ x.n)
    (h4 : 2 ≤ n) (hk : k < 2) (s : ByteArray) (hs : s.size ≤ 1024) (hp : szN s.size ≤ n / 2) (hg : g < 2147483647) :
    Calls Tryz.prog 16 #[.pointer (some ⟨T, 0, none⟩), .string s] w fun e w' => e = .returned (.int .i64 0) ∧ Zn w0 w' D ((x.cleared (other f n k) (n / 2)).placed (other f n k) (g + 1) s) ((T, tobj Z s (g + 1) (1 - k) false) :: fs) := by
  refine (h.save hz hne hTw hT ha (St.Fz.of_none hf) hl hd hfn h4 hk s hs hp hg).mono ?_
  rintro e w' ⟨m, rfl, ⟨rfl, h1⟩ | ⟨_, y, hy, _⟩⟩
  · exact ⟨rfl, h1⟩
  · exact absurd hf hy.fuse
end Zn
end Go.Proofs.YtblgabdlpobbjaaGreatDoor
namespace Go.Proofs.YtblgabdlpobbjaaGreatDoor
open Go Go.RowKit Pn Dk Sl
namespace Tw
/-- What is opened of two copies. -/
theorem opens {x : Dk.St} {a o lim gen : Nat} {t : ByteArray} (hsz : t.size ≤ 1024) (hfi : szN t.size ≤ lim) (h1 : 1 ≤ gen) (hcu : Whole x.now a t gen) (hol : Old x.now o gen lim) {f n k : Nat} (hk : k < 2) (ha : a = f + k * (n / 2)) (ho : o = f + (1 - k) * (n / 2)) (hl : lim = n / 2) (hg : gen ≤ 2147483647) : acc x f n 2 = (t, gen, k) := by
  have hc : getS x f n k = (t, gen, 0) := hcu.got hsz h1 hg (fun i _ j _ => by show sect x.now (f + k * (n / 2) + (0 + i)) j = _; rw [Nat.zero_add, ← ha]) (by omega)
  have hd : (∃ u g, getS x f n (1 - k) = (u, g, 0) ∧ g < gen ∧ szN u.size ≤ lim) ∨ getS x f n (1 - k) = (⟨#[]⟩, 0, 5) := hol.got (fun i _ j _ => by show sect x.now (f + (1 - k) * (n / 2) + (0 + i)) j = _; rw [Nat.zero_add, ← ho]) (by omega)
  clear hcu hol ha ho hl hg
  match k, hk with
  | 0, _ =>
    have e1 : acc x f n 1 = (t, gen, 0) := by
      show (if (getS x f n 0).2.2 = 0 ∧ 0 < (getS x f n 0).2.1 then ((getS x f n 0).1, (getS x f n 0).2.1, 0) else (⟨#[]⟩, 0, 0)) = _
      rw [hc, if_pos ⟨rfl, h1⟩]
    show (if (getS x f n 1).2.2 = 0 ∧ (acc x f n 1).2.1 < (getS x f n 1).2.1 then _ else acc x f n 1) = _
    rw [e1]
    rcases hd with ⟨u, g, e, hg, _⟩ | e
    · rw [show getS x f n 1 = (u, g, 0) from e, if_neg (fun h => by have := h.2; simp only at this; omega)]
    · rw [show getS x f n 1 = _ from e, if_neg (fun h => by have := h.1; simp only at this; omega)]
  | 1, _ =>
    have e1 : (acc x f n 1).2.1 < gen := by
      show (if (getS x f n 0).2.2 = 0 ∧ 0 < (getS x f n 0).2.1 then ((getS x f n 0).1, (getS x f n 0).2.1, 0) else (⟨#[]⟩, 0, 0)).2.1 < _
      rcases hd with ⟨u, g, e, hg, _⟩ | e
      · rw [show getS x f n 0 = (u, g, 0) from e]
        by_cases h0 : 0 < g
        · rw [if_pos ⟨rfl, h0⟩]
          exact hg
        · rw [if_neg (fun h => h0 h.2)]
          exact h1
      · rw [show getS x f n 0 = _ from e, if_neg (fun h => by have := h.1; simp only at this; omega)]
        exact h1
    show (if (getS x f n 1).2.2 = 0 ∧ (acc x f n 1).2.1 < (getS x f n 1).2.1 then _ else acc x f n 1) = _
    rw [hc, if_pos ⟨rfl, e1⟩]
theorem Pair.opens {x : Dk.St} {a o lim gen : Nat} {t : ByteArray} (h : Pair x a o lim gen t) {f n k : Nat} (hk : k < 2) (ha : a = f + k * (n / 2)) (ho : o = f + (1 - k) * (n / 2)) (hl : lim = n / 2) (hg : gen ≤ 2147483647) : acc x f n 2 = (t, gen, k) := Tw.opens h.size h.fits h.one h.cur h.old hk ha ho hl hg
/-- Behind a format. -/
theorem formatted {x : Dk.St} (hx : x.Full) {f n : Nat} {s : ByteArray} (hs : s.size ≤ 1024) (hp : szN s.size ≤ n / 2) (h4 : 4 ≤ n) (y : Dk.St) (hy : y = (x.filled f (fun _ => 0) n).placed f 1 s) : Pair y f (f + n / 2) (n / 2) 1 s := by
  subst hy
  have hF : ((x.filled f (fun _ => 0) n).laid f (secF 1 (sealL s)) (szN s.size)).burnt.Full := laid_full _ _ _ (filled_full2 x f _ hx n) _
  refine ⟨.inl (Nat.le_refl _), hs, hp, Nat.le_refl _, rfl, (full_synced hF).1, fun i hi j hj => laid_in _ f _ _ i hi j hj, Old.zero (by omega) fun i hi => ?_⟩
  refine (numG_congr (g := fun _ => 0) fun j hj => ?_).trans num_zero
  show sect ((x.filled f (fun _ => 0) n).laid f (secF 1 (sealL s)) (szN s.size)).now (f + n / 2 + i) j = 0
  rw [laid_out _ f _ _ (f + n / 2 + i) (by omega) j hj, Nat.add_assoc]
  exact filled_in x f _ n (n / 2 + i) (by omega) j hj
section
variable {x : Dk.St} {a o lim gen : Nat} {t : ByteArray} (h : Pair x a o lim gen t)
include h
/-- Behind a save: the text that was stands there still. -/
theorem Pair.stands (s : ByteArray) (hfs : szN s.size ≤ lim) : Whole ((x.cleared o lim).placed o (gen + 1) s).now a t gen := by
  obtain ⟨c1, _⟩ := h.cleared
  have hap := h.apart
  have hfi := h.fits
  refine c1.congr fun i hi j hj => ?_
  show sect ((x.filled o (fun _ => 0) lim).burnt.synced.laid o (secF (gen + 1) (sealL s)) (szN s.size)).now (a + i) j = _
  exact laid_out _ o _ _ (a + i) (by omega) j hj
theorem Pair.saves (s : ByteArray) (hs : s.size ≤ 1024) (hfs : szN s.size ≤ lim) (hg : gen ≤ 2147483646) : Pair ((x.cleared o lim).placed o (gen + 1) s) o a lim (gen + 1) s := h.saved s hs hfs hg _ rfl
/-- The power went in a save. -/
theorem Pair.fell (s : ByteArray) (hs : s.size ≤ 1024) (hfs : szN s.size ≤ lim) (hg : gen + 1 ≤ 2147483647) {y : Dk.St} (hy : x.RenewFell o lim (gen + 1) s y) : Pair y.come a o lim gen t ∨ Pair y.come o a lim (gen + 1) s := by
  rcases hy with ⟨_, k, kl, hk, rfl⟩ | ⟨_, k, kl, hk, rfl⟩
  · exact .inl (h.fill_fall k hk kl)
  · exact h.put_fall s hs hfs hg k hk kl _ rfl
/-- The power goes, and comes, between the calls. -/
theorem Pair.rests (kl : List Bool) : Pair (x.fall kl).come a o lim gen t := h.fill_fall 0 (Nat.zero_le _) kl
end
end Tw
namespace Dk
section
variable (x : St) (f n gen : Nat) (s : ByteArray)
theorem placed_n : (x.placed f gen s).n = x.n := laid_n _ _ _ _
theorem placed_away : (x.placed f gen s).away = x.away := laid_away _ _ _ _
theorem placed_fuse (h : x.fuse = none) : (x.placed f gen s).fuse = none := by
  show (x.laid f (secF gen (sealL s)) (szN s.size)).fuse.map _ = none
  rw [laid_fuse x _ _ h]
  rfl
theorem placed_Fz (h : x.Fz) : (x.placed f gen s).Fz := (h.laid f _ _).burnt
theorem placed_done : (x.placed f gen s).done = x.done + szN s.size + 1 := by
  show (x.laid f (secF gen (sealL s)) (szN s.size)).done + 1 = _
  rw [laid_done]
theorem cleared_n : (x.cleared f n).n = x.n := filled_n _ _ _ _
theorem cleared_away : (x.cleared f n).away = x.away := filled_away _ _ _ _
theorem cleared_Fz (h : x.Fz) : (x.cleared f n).Fz := (h.filled f _ _).burnt
theorem cleared_done : (x.cleared f n).done ≤ x.done + n + 1 := by
  have := filled_done x f (fun _ => 0) n
  show (x.filled f (fun _ => 0) n).done + 1 ≤ _
  omega
end
/-- What fell is away, without a fuse, with nothing loose, of as many sectors. -/
theorem RenewFell.state {x : St} {f n gen : Nat} {s : ByteArray} {y : St} (h : x.RenewFell f n gen s y) : y.n = x.n ∧ y.away = true ∧ y.fuse = none ∧ y.loose = [] ∧ y.done ≤ x.done + n + 1 + szN s.size := by
  rcases h with ⟨_, k, kl, hk, rfl⟩ | ⟨_, k, kl, hk, rfl⟩
  · have := filled_done x f (fun _ => 0) k
    refine ⟨filled_n x f _ k, rfl, rfl, rfl, ?_⟩
    show (x.filled f (fun _ => 0) k).done ≤ _
    omega
  · have h1 := cleared_done x f n
    refine ⟨(laid_n _ _ _ k).trans (cleared_n x f n), rfl, rfl, rfl, ?_⟩
    show ((x.cleared f n).laid f (secF gen (sealL s)) k).done ≤ _
    rw [laid_done]
    omega
end Dk
end Go.Proofs.YtblgabdlpobbjaaGreatDoor
