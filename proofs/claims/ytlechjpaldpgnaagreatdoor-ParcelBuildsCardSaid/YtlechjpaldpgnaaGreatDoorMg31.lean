/-
  Package parcel: apply, Build, and a parcel's own Build. Conditions: the base stands in its block, with at most a million weights; both tables of sha lie as the program's text lays them; a patch has fewer than 2^47 bytes.
  What layer 21's statements ask first. Condition: both tables of sha lie as the program's text lays them.
-/
import Derived.Test.YtlechjpaldpgnaaGreatDoorMg28
import Derived.Test.YtlechjpaldpgnaaGreatDoorMg26
import Derived.Test.YtlechjpaldpgnaaGreatDoorMg30
import Derived.Test.YtlechjpaldpgnaaGreatDoorMg21
import Derived.Test.YtlechjpaldpgnaaGreatDoorMg25
import Derived.Test.YtlechjpaldpgnaaGreatDoorMg8
set_option maxRecDepth 100000
namespace Go.Proofs.YtlechjpaldpgnaaGreatDoor
open Go.ChangeShapes Go.WideShapes Go.ChangeAt Go.RowKit Sh Pn Mf Bt Pc Pt Br Cf

theorem pc_apply (w : World) (b p : ByteArray) (hb : b.size ≤ 1073741824) (hp : p.size ≤ 140737488355328) :
    Calls Tryz.prog 48 #[.string b, .string p] w fun e w' => e = .returned (.tuple #[.string (comes b p).1, .int .i64 (comes b p).2]) ∧ Below w.heap.size w w' := by
  have HP := Lib.hid (pt_parse w p hp)
  have HM := Lib.hid (show nmOut p 256 ≤ 256 from nm_most p 256)
  cases hL : parD p with
  | none =>
    have HC := Lib.hid (comes_none (b := b) hL)
    rw [hL] at HP
    clear hL hp
    go_enter Tryz.func48, Tryz.ntmps48
    go_wp2_with (fail)
    refine HP.out.mono ?_
    rintro e w1 ⟨b1, rfl⟩
    go_wp2_with (fail)
    refine bodyPost_ret (results_tmp2 rfl _ _ _) rfl ?_
    rw [HC.out]
    exact ⟨rfl, b1⟩
  | some L =>
    have HC := Lib.hid (comes_some (b := b) hL)
    have HN := Lib.hid (show L.length ≤ 1000000 by have := parD_length hL; have := HM.out; omega)
    rw [hL] at HP
    have HB := Lib.hid hb
    clear hL hp hb
    go_enter Tryz.func48, Tryz.ntmps48
    go_wp2_with (fail)
    refine HP.out.mono ?_
    rintro e w1 ⟨b1, A, c, rfl, hd⟩
    have B1 := Lib.hid b1
    have HD := Lib.hid hd
    clear b1 hd
    go_wp2_with (fail)
    refine (pt_apply w1 b HB.out A L.length c L rfl HN.out HD.out).mono ?_
    rintro e w2 ⟨rfl, b2⟩
    have B2 := Lib.hid (B1.out.trans (b2.mono B1.out.size))
    clear b2
    go_wp2_with (fail)
    refine bodyPost_ret (results_tmp2 rfl _ _ _) rfl ?_
    rw [HC.out]
    exact ⟨rfl, B2.out⟩
theorem pc_build_nil (w : World) (m : Man) (A : Option Addr) (k : Nat) (p : ByteArray) :
    Calls Tryz.prog 22 #[.agg (manA m A k), .pointer none, .string p] w fun e w' => e = .returned (.tuple #[.pointer none, .int .i64 2]) ∧ Below w.heap.size w w' := by
  have HB := Lib.hid ((Below.refl w.heap.size w).alloc (Nat.le_refl _) (.cells (manA m A k) 26))
  go_enter Tryz.func22, Tryz.ntmps22
  go_wp2_with (fail)
  refine bodyPost_ret (results_tmp2 rfl _ _ _) rfl ?_
  exact ⟨rfl, HB.out⟩
namespace Pc
/-- What Build answers. -/
def BuildSays (w : World) (f : Nat → UInt8) (b p : ByteArray) (e : Ending) (w' : World) : Prop := Below w.heap.size w w' ∧
  ((builtE f b p = 0 ∧ okB (comes b p).1 = true ∧ ∃ g, e = .returned (.tuple #[.pointer (some ⟨g, 0, none⟩), .int .i64 0]) ∧ w.heap.size ≤ g ∧ w'.heap[g]? = some (brO (shapeT (comes b p).1) (restT (comes b p).1))) ∨
   (builtE f b p ≠ 0 ∧ e = .returned (.tuple #[.pointer none, .int .i64 (builtE f b p)])))
theorem says_not {w w' : World} {f : Nat → UInt8} {b p : ByteArray} {z : Int} (hb : Below w.heap.size w w') (h : builtE f b p = z) (hz : z ≠ 0) : BuildSays w f b p (.returned (.tuple #[.pointer none, .int .i64 z])) w' := by
  subst h
  exact ⟨hb, .inr ⟨hz, rfl⟩⟩
end Pc
set_option maxRecDepth 100000 in
set_option maxHeartbeats 3200000 in
theorem pc_build (w : World) (m : Man) (A : Option Addr) (k : Nat) (g : Nat) (x : Cfg) (s p : ByteArray) (h : w.heap[g]? = some (brO x s)) (hs : s.size ≤ 1000000) (hp : p.size ≤ 140737488355328) (hT : Tabs w) :
    Calls Tryz.prog 22 #[.agg (manA m A k), .pointer (some ⟨g, 0, none⟩), .string p] w (BuildSays w m.res (bytesB x s) p) := by
  have HB0 := Lib.hid ((Below.refl w.heap.size w).alloc (Nat.le_refl _) (.cells (manA m A k) 26))
  have HA0 := Lib.hid (at_new w 26 m A k)
  have HBY := Lib.hid (fun W (hW : Below w.heap.size w W) => brain_bytes W g x s (Br.stays h hW) hs)
  have hbz := bytesB_size x s
  have HAP := Lib.hid (fun W => pc_apply W (bytesB x s) p (by omega) hp)
  have HCZ := Lib.hid (comes_size (bytesB x s) p)
  have HE1 := Lib.hid (built_err (f := m.res) (b := bytesB x s) (p := p))
  have HE2 := Lib.hid (built_form (f := m.res) (b := bytesB x s) (p := p))
  have HE3 := Lib.hid (built_sum (f := m.res) (b := bytesB x s) (p := p))
  have HT := Lib.hid hT
  have HSN := Lib.hid (fun (W : World) (z : Int) hb h hz => says_not (w := w) (w' := W) (f := m.res) (b := bytesB x s) (p := p) (z := z) hb h hz)
  have HSD := Lib.hid (show BuildSays w m.res (bytesB x s) p = fun e w' => Below w.heap.size w w' ∧
  ((builtE m.res (bytesB x s) p = 0 ∧ okB (comes (bytesB x s) p).1 = true ∧ ∃ g, e = .returned (.tuple #[.pointer (some ⟨g, 0, none⟩), .int .i64 0]) ∧ w.heap.size ≤ g ∧ w'.heap[g]? = some (brO (shapeT (comes (bytesB x s) p).1) (restT (comes (bytesB x s) p).1))) ∨
   (builtE m.res (bytesB x s) p ≠ 0 ∧ e = .returned (.tuple #[.pointer none, .int .i64 (builtE m.res (bytesB x s) p)]))) from rfl)
  generalize BuildSays w m.res (bytesB x s) p = SAYS at *
  generalize builtE m.res (bytesB x s) p = E at *
  clear h hs hp hT hbz
  go_enter Tryz.func22, Tryz.ntmps22
  go_wp2_with (fail)
  refine (HBY.out _ HB0.out).mono ?_
  rintro e w1 ⟨rfl, b1⟩
  have B1 := Lib.hid (HB0.out.trans (b1.mono HB0.out.size))
  have A1 := Lib.hid (HA0.out.keep b1)
  clear b1 HBY HA0 HB0
  go_wp2_with (fail)
  refine (HAP.out _).mono ?_
  rintro e w2 ⟨rfl, b2⟩
  have B2 := Lib.hid (B1.out.trans (b2.mono B1.out.size))
  have A2 := Lib.hid (A1.out.keep b2)
  clear b2 HAP A1 B1
  generalize (comes (bytesB x s) p).2 = c at *
  generalize (comes (bytesB x s) p).1 = X at *
  by_cases hc : c = 0
  case neg =>
    have t1 : (c != 0) = true := bne_iff_ne.2 hc
    have HF := Lib.hid (HSN.out w2 c B2.out (HE1.out hc) hc)
    clear hc
    go_wp2_with (fail)
    exact HF.out
  subst hc
  cases ho : okB X with
  | false =>
    have HF := Lib.hid (fun W hW => HSN.out W 5 hW (HE2.out rfl ho) (by decide))
    go_wp2_with (fail)
    refine (brain_parse_not w2 X ho).mono ?_
    rintro e w3 ⟨rfl, b3⟩
    have B3 := Lib.hid (B2.out.trans (b3.mono B2.out.size))
    clear b3
    go_wp2_with (fail)
    exact HF.out _ B3.out
  | true =>
    have HE := Lib.hid (HE3.out rfl ho)
    have HO := Lib.hid ho
    have HMB := Lib.hid (model_bytes ho)
    go_wp2_with (fail)
    refine (brain_parse w2 X ho).mono ?_
    rintro e w3 ⟨bb, rfl, hlb, h3, b3⟩
    have B3 := Lib.hid (B2.out.trans (b3.mono B2.out.size))
    have A3 := Lib.hid (A2.out.keep b3)
    have H3 := Lib.hid h3
    have HLB := Lib.hid hlb
    have HLE := Lib.hid B2.out.size
    have HDG := Lib.hid (show ∀ W, Below w3.heap.size w3 W → Calls Tryz.prog 28 #[.pointer (some ⟨bb, 0, none⟩)] W fun e w' => e = .returned (.agg (digF (sumF X.data.toList))) ∧ Below W.heap.size W w' from fun W hW => by
      have hT := HT.out.below (B3.out.trans (hW.mono B3.out.size))
      have := brain_digest W bb (shapeT X) (restT X) (Br.stays h3 hW) (by have := rest_size X; have := HCZ.out; omega) hT.f hT.k
      rw [HMB.out] at this
      exact this)
    have HIF := Lib.hid (show (Tryz.prog.info? 24).map (·.size) = some (digF m.res).toList.length by rw [Array.length_toList]; exact hiDigF m.res)
    generalize sumF X.data.toList = D at *
    have EQ : ∀ W, (binOp .neq 24 (.agg (digF D)) (.agg (digF m.res))).run Tryz.prog W = .ok (.bool (!same D m.res)) W := fun W => run_neq_dig D m.res W
    have HNB := Lib.hid (show E = if (!same D m.res) = true then 6 else 0 by
      rw [HE.out]
      cases same D m.res <;> rfl)
    generalize (!same D m.res) = nb at *
    have HK := Lib.hid (show ∀ W, Below w3.heap.size w3 W → W.rangeAt w.heap.size 5 (digF m.res).toList from fun W hW => (A3.out.keep hW).res)
    clear b3 h3 hlb ho HE1 HE2 HE3 HE A2 B2
    go_wp2_with (fail)
    have b0 : Below w3.heap.size w3 w3.drew := below_drewN (Below.refl _ _) 1
    have k0 := HK.out _ b0
    have qi := HIF.out
    have qu := Tryz.underlying24
    go_region_held3 (fun W : World => W.rangeAt w.heap.size 5 (digF m.res).toList) (first | exact k0 | assumption)
      (first | (go_at_call 28; (with_reducible refine (HDG.out _ b0).mono ?_); rintro e w4 ⟨rfl, b4⟩; have k4 := HK.out _ (b0.trans (b4.mono b0.size))))
    all_goals
      have B4 := Lib.hid (b0.trans (b4.mono b0.size))
      clear k0 k4 b0 b4
      cases nb
      · go_wp2_with (fail)
        rw [HSD.out]
        exact ⟨B3.out.trans (B4.out.mono B3.out.size), .inl ⟨HNB.out, HO.out, bb, rfl, Nat.le_trans HLE.out HLB.out, Br.stays H3.out B4.out⟩⟩
      · go_wp2_with (fail)
        exact HSN.out _ 6 (B3.out.trans (B4.out.mono B3.out.size)) HNB.out (by decide)
section
variable {B : Nat} {w : World} {p : Nat} {m : Man} {A : Option Addr} {k sb ab : Nat} {q : Nat → ByteArray} (h : Pcl B w p m A k sb ab q)
include h
/-- A parcel's own Build, before all are there. -/
theorem pc_mbuild_not (v : Value) (hw : wholeB q m.sums.length = false) :
    Calls Tryz.prog 19 #[.pointer (some ⟨p, 0, none⟩), v] w fun e w' => e = .returned (.tuple #[.pointer none, .int .i64 7]) ∧ Below w.heap.size w w' := by
  have HT := Lib.hid (pc_text h)
  rw [show textP q m.sums.length = ⟨#[]⟩ from if_neg (by rw [hw]; decide), show textE q m.sums.length = 7 from if_neg (by rw [hw]; decide)] at HT
  clear h hw
  go_enter Tryz.func19, Tryz.ntmps19
  go_wp2_with (fail)
  refine HT.out.mono ?_
  rintro e w1 ⟨rfl, b1⟩
  go_wp2_with (fail)
  refine bodyPost_ret (results_tmp2 rfl _ _ _) rfl ?_
  exact ⟨rfl, b1⟩
/-- Behind it. -/
theorem pc_mbuild (g : Nat) (x : Cfg) (s : ByteArray) (hg : w.heap[g]? = some (brO x s)) (hs : s.size ≤ 1000000) (hT : Tabs w) (hw : wholeB q m.sums.length = true) :
    Calls Tryz.prog 19 #[.pointer (some ⟨p, 0, none⟩), .pointer (some ⟨g, 0, none⟩)] w (BuildSays w m.res (bytesB x s) (textP q m.sums.length)) := by
  have HT := Lib.hid (pc_text h)
  have hz : (textP q m.sums.length).size ≤ 16384 := by
    unfold textP
    rw [if_pos hw]
    have h1 := catP_length h.fit m.sums.length
    have h2 := h.n2
    have h3 := Pn.size_list (catP q m.sums.length)
    omega
  rw [show textE q m.sums.length = 0 from if_pos hw] at HT
  have H := Lib.hid h
  have HIL := Lib.hid (pcIL m A k)
  have HBD := Lib.hid (show ∀ W, Below w.heap.size w W → Calls Tryz.prog 22 #[.agg (manA m A k), .pointer (some ⟨g, 0, none⟩), .string (textP q m.sums.length)] W (BuildSays w m.res (bytesB x s) (textP q m.sums.length)) from fun W hW => (pc_build W m A k g x s (textP q m.sums.length) (Br.stays hg hW) hs (by omega) (hT.below hW)).mono fun e w' hsay => by
    obtain ⟨hb, hr⟩ := hsay
    refine ⟨hW.trans (hb.mono hW.size), ?_⟩
    rcases hr with ⟨h1, h2, g2, h3, h4, h5⟩ | h1
    · exact .inl ⟨h1, h2, g2, h3, Nat.le_trans hW.size h4, h5⟩
    · exact .inr h1)
  have HSD := Lib.hid (show ∀ e w', BuildSays w m.res (bytesB x s) (textP q m.sums.length) e w' → (∃ g, e = .returned (.tuple #[.pointer (some ⟨g, 0, none⟩), .int .i64 0])) ∨ ∃ z, e = .returned (.tuple #[.pointer none, .int .i64 z]) from fun e w' hsay => by
    obtain ⟨_, ⟨_, _, g2, h3, _⟩ | ⟨_, h1⟩⟩ := hsay
    · exact .inl ⟨g2, h3⟩
    · exact .inr ⟨_, h1⟩)
  generalize BuildSays w m.res (bytesB x s) (textP q m.sums.length) = SAYS at *
  generalize textP q m.sums.length = T at *
  clear h hg hs hT hw hz
  go_enter Tryz.func19, Tryz.ntmps19
  go_wp2_with (fail)
  refine HT.out.mono ?_
  rintro e w1 ⟨rfl, b1⟩
  have B1 := Lib.hid b1
  have HM := Lib.hid (H.out.keep b1).hd.man
  clear b1 HT
  go_wp2_with (with_reducible refine wpList_load_mid rfl 26 _ rfl p 0 rfl (manA m A k).toList _ HM.out Tryz.underlying26 rfl HIL.out ?_)
  refine (HBD.out _ B1.out).mono ?_
  intro e w2 hsay
  have H2 := Lib.hid hsay
  rcases HSD.out _ _ hsay with ⟨g2, rfl⟩ | ⟨z, rfl⟩
  all_goals
    clear hsay
    go_wp2_with (fail)
    exact H2.out
end
end Go.Proofs.YtlechjpaldpgnaaGreatDoor
namespace Go.Proofs.YtlechjpaldpgnaaGreatDoor
open Go.ChangeShapes Go.WideShapes Go.ChangeAt Go.RowKit Sh Pn Mf Bt Pc Br Cf

namespace Pc
/-- Two models, a manifest, a parcel, on their way. -/
structure Aw (w0 : World) (B ba bb mb : Nat) (tm : TypeId) (m : Man) (A : Option Addr) (k : Nat) (x y : Cfg) (s u : ByteArray) (p t ct sb ab : Nat) (q : Nat → ByteArray) (W : World) : Prop where
  one : W.heap[ba]? = some (brO x s)
  two : W.heap[bb]? = some (brO y u)
  man : At W mb tm m A k
  pc : Pcl B W p m (some ⟨t, 0, none⟩) ct sb ab q
  below : Below w0.heap.size w0 W
  la : ba < B
  lb : bb < B
  lm : mb < B
  lw : w0.heap.size ≤ B
section
variable {w0 W W' : World} {B ba bb mb : Nat} {tm : TypeId} {m : Man} {A : Option Addr} {k : Nat} {x y : Cfg} {s u : ByteArray} {p t ct sb ab : Nat} {q r : Nat → ByteArray}
theorem Aw.step (h : Aw w0 B ba bb mb tm m A k x y s u p t ct sb ab q W) (hb : Below W.heap.size W W') : Aw w0 B ba bb mb tm m A k x y s u p t ct sb ab q W' :=
  ⟨Br.stays h.one hb, Br.stays h.two hb, h.man.keep hb, h.pc.keep hb, h.below.trans (hb.mono h.below.size), h.la, h.lb, h.lm, h.lw⟩
theorem Aw.put (h : Aw w0 B ba bb mb tm m A k x y s u p t ct sb ab q W) (hp : Pcl B W' p m (some ⟨t, 0, none⟩) ct sb ab r) (ho : Only2 W W' sb ab) : Aw w0 B ba bb mb tm m A k x y s u p t ct sb ab r W' := by
  have h1 := h.pc.ls
  have h2 := h.pc.la
  have h3 := h.la
  have h4 := h.lb
  have h5 := h.lm
  have h6 := h.lw
  refine ⟨(ho.block _ (Array.getElem?_eq_some_iff.1 h.one).1 (by omega) (by omega)).trans h.one, (ho.block _ (Array.getElem?_eq_some_iff.1 h.two).1 (by omega) (by omega)).trans h.two, h.man.of_block (ho.block _ h.man.lt (by omega) (by omega)), hp, h.below.trans ((ho.below (B := w0.heap.size) (by omega) (by omega) h.below.size)), h.la, h.lb, h.lm, h.lw⟩
end
end Pc
set_option maxRecDepth 100000 in
set_option maxHeartbeats 6400000 in
theorem awake21 (w : World) (hT : Tabs w) : Calls Tryz.prog 5 #[] w fun e w' => e = .returned (.bool true) ∧ Below w.heap.size w w' := by
  have HI := Lib.hid (fun m A k => manI m A k)
  have HO := Lib.hid (fun m A k => manA_one m A k)
  have HT1 := Lib.hid (fun W => show Calls Tryz.prog 20 #[.int .u8 1] W fun e w' => ∃ b, e = .returned (.pointer (some ⟨b, 0, none⟩)) ∧ W.heap.size ≤ b ∧ w'.heap[b]? = some (brO tyC (tyS 1)) ∧ Below W.heap.size W w' from law21_tiny W 1)
  have HT2 := Lib.hid (fun W => show Calls Tryz.prog 20 #[.int .u8 2] W fun e w' => ∃ b, e = .returned (.pointer (some ⟨b, 0, none⟩)) ∧ W.heap.size ≤ b ∧ w'.heap[b]? = some (brO tyC (tyS 2)) ∧ Below W.heap.size W w' from law21_tiny W 2)
  have HPB := Lib.hid (fun (W : World) => show Calls Tryz.prog 26 #[.slice (some ⟨W.heap.size, 0, none⟩) 3 3] (W.alloc (.cells #[.int .i64 1, .int .i64 0, .int .i64 27, .string ⟨#[]⟩, .int .i64 2, .int .i64 0, .int .i64 0, .string ⟨#[2]⟩, .int .i64 1, .int .i64 28, .int .i64 10, .string ⟨#[]⟩] 72)) fun e w' => e = .returned (.tuple #[.string awP, .int .i64 0]) ∧ Below W.heap.size W w' from by
    have := pt_bytes (W.alloc (.cells #[.int .i64 1, .int .i64 0, .int .i64 27, .string ⟨#[]⟩, .int .i64 2, .int .i64 0, .int .i64 0, .string ⟨#[2]⟩, .int .i64 1, .int .i64 28, .int .i64 10, .string ⟨#[]⟩] 72)) (some ⟨W.heap.size, 0, none⟩) 3 3 awL rfl (Pt.din_alloc W awL _ _ rfl)
    rw [if_pos aw_byt.1, aw_byt.2] at this
    exact this.mono fun e w' ⟨h1, h2⟩ => ⟨h1, ((Below.refl _ _).alloc (Nat.le_refl _) _).trans (h2.mono (by simp))⟩)
  have HDG := Lib.hid (fun (W : World) (hW : Below w.heap.size w W) b (h : W.heap[b]? = some (brO tyC (tyS 2))) => show Calls Tryz.prog 28 #[.pointer (some ⟨b, 0, none⟩)] W fun e w' => e = .returned (.agg (digF awF)) ∧ Below W.heap.size W w' from brain_digest W b tyC (tyS 2) h (by rw [ty_size]; omega) (hT.below hW).f (hT.below hW).k)
  have HMK := Lib.hid (fun (W : World) (hW : Below w.heap.size w W) => show Calls Tryz.prog 27 #[.int .i64 1, .int .i64 2, .int .i64 20, .string awP, .agg (digF awF)] W fun e w' => ∃ A k, e = .returned (.tuple #[.agg (manA awM A k), .int .i64 0]) ∧ SIn w' A k awM.sums ∧ Below W.heap.size W w' from by
    have := mf_make W 1 2 20 awP awF (by rw [aw_psize]; omega) (hT.below hW)
    rw [aw_made.1] at this
    exact this)
  have HNW := Lib.hid (fun (W : World) A k (hS : SIn W A k awM.sums) => pc_new W awM A k (by rw [aw_made.2, aw_cnt]; omega) hS)
  have HP1 := Lib.hid (fun (W : World) A k => show Calls Tryz.prog 29 #[.agg (manA awM A k), .int .i64 1, .string awP] W fun e w' => e = .returned (.string awB) ∧ Below W.heap.size W w' from by
    have := mf_part W awM A k 1 awP (by rw [aw_psize]; omega)
    rw [aw_one] at this
    exact this)
  have HP0 := Lib.hid (fun (W : World) A k => show Calls Tryz.prog 29 #[.agg (manA awM A k), .int .i64 0, .string awP] W fun e w' => e = .returned (.string awA) ∧ Below W.heap.size W w' from by
    have := mf_part W awM A k 0 awP (by rw [aw_psize]; omega)
    rw [aw_zero] at this
    exact this)
  have HU1 := Lib.hid (fun (W : World) (hW : Below w.heap.size w W) {B p A k sb ab} (h : Pcl B W p awM A k sb ab noQ) => show Calls Tryz.prog 12 #[.pointer (some ⟨p, 0, none⟩), .int .i64 1, .string awB] W fun e w' => e = .returned (.int .i64 0) ∧ Pcl B w' p awM A k sb ab q1 ∧ Only2 W w' sb ab from by
    have := pc_put h 1 awB (by decide) (hT.below hW)
    rw [aw_put1.1, aw_put1.2] at this
    exact this)
  have HU0 := Lib.hid (fun (W : World) (hW : Below w.heap.size w W) {B p A k sb ab} (h : Pcl B W p awM A k sb ab q1) => show Calls Tryz.prog 12 #[.pointer (some ⟨p, 0, none⟩), .int .i64 0, .string awA] W fun e w' => e = .returned (.int .i64 0) ∧ Pcl B w' p awM A k sb ab q2 ∧ Only2 W w' sb ab from by
    have := pc_put h 0 awA (by decide) (hT.below hW)
    rw [aw_put0.1, aw_put0.2] at this
    exact this)
  have HU2 := Lib.hid (fun (W : World) (hW : Below w.heap.size w W) {B p A k sb ab} (h : Pcl B W p awM A k sb ab q2) => show Calls Tryz.prog 12 #[.pointer (some ⟨p, 0, none⟩), .int .i64 0, .string awA] W fun e w' => e = .returned (.int .i64 9) ∧ Pcl B w' p awM A k sb ab (putS awM q2 0 awA) ∧ Only2 W w' sb ab from by
    have := pc_put h 0 awA (by decide) (hT.below hW)
    rw [aw_again] at this
    exact this)
  have HMI := Lib.hid (fun (W : World) {B p A k sb ab} (h : Pcl B W p awM A k sb ab q1) => show Calls Tryz.prog 15 #[.pointer (some ⟨p, 0, none⟩)] W fun e w' => e = .returned (.int .i64 0) ∧ Below W.heap.size W w' from by
    have := pc_missing h
    rw [aw_sums, aw_miss] at this
    exact this)
  have HBD := Lib.hid (fun (W : World) (hW : Below w.heap.size w W) {B p A k sb ab} (h : Pcl B W p awM A k sb ab q2) g (hg : W.heap[g]? = some (brO tyC (tyS 1))) => show Calls Tryz.prog 19 #[.pointer (some ⟨p, 0, none⟩), .pointer (some ⟨g, 0, none⟩)] W fun e w' => ∃ c, e = .returned (.tuple #[.pointer (some ⟨c, 0, none⟩), .int .i64 0]) ∧ w'.heap[c]? = some (brO tyC (tyS 2)) ∧ Below W.heap.size W w' from
    (pc_mbuild h g tyC (tyS 1) hg (by rw [ty_size]; omega) (hT.below hW) (by rw [aw_sums]; exact aw_whole)).mono fun e w' hsay => by
      obtain ⟨hb, hr⟩ := hsay
      rw [aw_sums, aw_text, aw_built, aw_comes] at hr
      rcases hr with ⟨_, _, c, he, _, hc⟩ | ⟨h1, _⟩
      · rw [shape_bytes (ty_ok 2).good, rest_bytes] at hc
        exact ⟨c, he, hc, hb⟩
      · exact absurd rfl h1)
  have HSM := Lib.hid (fun (W : World) b c (hb : W.heap[b]? = some (brO tyC (tyS 2))) (hc : W.heap[c]? = some (brO tyC (tyS 2))) => show Calls Tryz.prog 30 #[.pointer (some ⟨b, 0, none⟩), .pointer (some ⟨c, 0, none⟩)] W fun e w' => e = .returned (.bool true) ∧ Below W.heap.size W w' from by
    have := brain_same W b c tyC tyC (tyS 2) (tyS 2) hb hc (by rw [ty_size]; omega) (by rw [ty_size]; omega)
    rw [decide_eq_true rfl] at this
    exact this)
  have HV2 := Lib.hid (show awM.v = 2 from rfl)
  clear hT
  generalize awM = m at *
  generalize awP = P at *
  generalize awF = F at *
  generalize awA = PA at *
  generalize awB = PB at *
  generalize tyS 1 = s1 at *
  generalize tyS 2 = s2 at *
  generalize tyC = X at *
  generalize q1 = Q1 at *
  generalize q2 = Q2 at *
  go_enter Tryz.func5, Tryz.ntmps5
  go_wp2_with (fail)
  refine (HT1.out _).mono ?_
  rintro e w1 ⟨ba, rfl, l1, h1, b1⟩
  have H1 := Lib.hid h1
  have B1 := Lib.hid b1
  clear h1 b1 l1 HT1
  go_wp2_with (fail)
  refine (HT2.out _).mono ?_
  rintro e w2 ⟨bb, rfl, l2, h2, b2⟩
  have H2 := Lib.hid (Br.stays H1.out b2)
  have K2 := Lib.hid h2
  have B2 := Lib.hid (B1.out.trans (b2.mono B1.out.size))
  clear h2 b2 l2 HT2 H1 B1
  go_wp2_with (first | (refine Great.wpList_buildSliceTo rfl 114 72 3 #[(0, .tmp 23), (1, .tmp 24), (2, .tmp 25)] rfl _ rfl (some 26) rfl Tryz.underlying114 _ (opThree 1 0 27 2 0 0 1 28 10 ⟨#[]⟩ ⟨#[2]⟩ ⟨#[]⟩) ?_))
  refine (HPB.out w2).mono ?_
  rintro e w3 ⟨rfl, b3⟩
  have H3 := Lib.hid (Br.stays H2.out b3)
  have K3 := Lib.hid (Br.stays K2.out b3)
  have B3 := Lib.hid (B2.out.trans (b3.mono B2.out.size))
  clear b3 H2 K2 B2 HPB
  go_wp2_with (fail)
  refine (HDG.out _ B3.out _ K3.out).mono ?_
  rintro e w4 ⟨rfl, b4⟩
  have H4 := Lib.hid (Br.stays H3.out b4)
  have K4 := Lib.hid (Br.stays K3.out b4)
  have B4 := Lib.hid (B3.out.trans (b4.mono B3.out.size))
  clear b4 H3 K3 B3 HDG
  go_wp2_with (fail)
  refine (HMK.out _ B4.out).mono ?_
  rintro e w5 ⟨A, k, rfl, s5, b5⟩
  have H5 := Lib.hid (Br.stays H4.out b5)
  have K5 := Lib.hid (Br.stays K4.out b5)
  have S5 := Lib.hid s5
  have B5 := Lib.hid (B4.out.trans (b5.mono B4.out.size))
  clear b5 s5 H4 K4 B4 HMK
  have HNN := Lib.hid (show ∀ o, (w5.alloc o).heap[w5.heap.size]? = some o from fun o => heap_alloc_new w5 o)
  have HXA := Lib.hid (fun c => at_store (w := w5) (t := 26) m A k c)
  have HXC := Lib.hid (fun c => (HXA.out c).1.cells)
  go_wp2_with (first
    | (with_reducible refine wpList_store_row rfl 26 _ _ rfl _ (manA m A k) rfl rfl 26 _ (HNN.out _) (HI.out m A k) (by rw [manA_size]; kernel_rfl) (HO.out m A k) ?_)
    | (with_reducible refine wpList_load_row rfl 26 _ rfl _ rfl 26 (manA m A k) (0, 0) _ (HXC.out _) Tryz.underlying26 rfl (HI.out m A k) ?_))
  refine mf_calls (fun W => W.heap[ba]? = some (brO X s1) ∧ W.heap[bb]? = some (brO X s2) ∧ At W w5.heap.size 26 m A k ∧ SIn W A k m.sums ∧ Below w.heap.size w W) ⟨Br.stays H5.out (HXA.out _).2, Br.stays K5.out (HXA.out _).2, (HXA.out _).1, S5.out.keep (HXA.out _).2, B5.out.trans ((HXA.out _).2.mono B5.out.size)⟩ ?_
  rintro w6 ⟨h6, k6, a6, s6, b6⟩
  have H6 := Lib.hid h6
  have K6 := Lib.hid k6
  have A6 := Lib.hid a6
  have B6 := Lib.hid b6
  generalize w5.heap.size = mb at *
  refine (HNW.out _ _ _ s6).mono ?_
  rintro e w7 ⟨p, sb, ab, t, ct, rfl, p7, b7⟩
  have X7 := Lib.hid (show Aw w w6.heap.size ba bb mb 26 m A k X X s1 s2 p t ct sb ab noQ w7 from
    ⟨Br.stays H6.out b7, Br.stays K6.out b7, A6.out.keep b7, p7, B6.out.trans (b7.mono B6.out.size), (Array.getElem?_eq_some_iff.1 H6.out).1, (Array.getElem?_eq_some_iff.1 K6.out).1, A6.out.lt, B6.out.size⟩)
  have HM7 := Lib.hid X7.out.man.cells
  clear h6 k6 a6 s6 b6 p7 b7 H6 K6 A6 B6 H5 K5 S5 B5 HNN HXA HXC HNW
  go_wp2_with (with_reducible refine wpList_load_row rfl 26 _ rfl _ rfl 26 (manA m A k) (0, 0) _ HM7.out Tryz.underlying26 rfl (HI.out m A k) ?_)
  refine (HP1.out _ _ _).mono ?_
  rintro e w8 ⟨rfl, b8⟩
  have X8 := Lib.hid (X7.out.step b8)
  clear b8 X7 HM7
  go_wp2_with (fail)
  refine (HU1.out _ X8.out.below X8.out.pc).mono ?_
  rintro e w9 ⟨rfl, p9, o9⟩
  have X9 := Lib.hid (X8.out.put p9 o9)
  clear p9 o9 X8
  go_wp2_with (fail)
  refine (HMI.out _ X9.out.pc).mono ?_
  rintro e w10 ⟨rfl, b10⟩
  have X10 := Lib.hid (X9.out.step b10)
  have HM10 := Lib.hid X10.out.man.cells
  clear b10 X9
  go_wp2_with (with_reducible refine wpList_load_row rfl 26 _ rfl _ rfl 26 (manA m A k) (0, 0) _ HM10.out Tryz.underlying26 rfl (HI.out m A k) ?_)
  refine (HP0.out _ _ _).mono ?_
  rintro e w11 ⟨rfl, b11⟩
  have X11 := Lib.hid (X10.out.step b11)
  clear b11 X10 HM10
  go_wp2_with (fail)
  refine (HU0.out _ X11.out.below X11.out.pc).mono ?_
  rintro e w12 ⟨rfl, p12, o12⟩
  have X12 := Lib.hid (X11.out.put p12 o12)
  clear p12 o12 X11
  go_wp2_with (fail)
  refine (HBD.out _ X12.out.below X12.out.pc _ X12.out.one).mono ?_
  rintro e w13 ⟨c, rfl, c13, b13⟩
  have X13 := Lib.hid (X12.out.step b13)
  have C13 := Lib.hid c13
  clear b13 c13 X12
  go_wp2_with (fail)
  refine (HSM.out _ _ _ X13.out.two C13.out).mono ?_
  rintro e w14 ⟨rfl, b14⟩
  have X14 := Lib.hid (X13.out.step b14)
  have HM14 := Lib.hid X14.out.man.cells
  clear b14 X13
  go_wp2_with ((with_reducible refine wpList_load_row_g ?_ 26 _ rfl _ rfl 26 (manA m A k) (0, 0) _ HM14.out Tryz.underlying26 rfl (HI.out m A k) ?_); rfl)
  refine (HP0.out _ _ _).mono ?_
  rintro e w15 ⟨rfl, b15⟩
  have X15 := Lib.hid (X14.out.step b15)
  clear b15 X14 HM14
  go_wp2_with (fail)
  refine (HU2.out _ X15.out.below X15.out.pc).mono ?_
  rintro e w16 ⟨rfl, p16, o16⟩
  have X16 := Lib.hid (X15.out.put p16 o16)
  have c1 : w16.cell? ⟨p, 1, none⟩ = some (.int .i64 2) := by
    have h := X16.out.pc.hd.man 1 (.int .i64 m.v) (by
      rw [Array.getElem?_toList, manA_low _ _ _ 1 (by omega)]
      rfl)
    rw [HV2.out] at h
    exact h
  clear p16 o16 X15
  go_wp2_with (fail)
  exact bodyPost_ret (results_tmp rfl _ _ _) rfl ⟨rfl, X16.out.below⟩
end Go.Proofs.YtlechjpaldpgnaaGreatDoor
