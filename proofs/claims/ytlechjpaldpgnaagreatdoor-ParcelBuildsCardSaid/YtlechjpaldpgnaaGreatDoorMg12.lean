/-
  Package manifest: Root, Part, Check. Conditions: both tables of sha lie as the program's text lays them; the sums stand behind the slice, at most a thousand; a patch and a chunk have fewer than 2^48 bytes.
  Package manifest: Check. Conditions: both tables of sha lie as the program's text lays them; the sums stand behind the slice; a chunk has fewer than 2^48 bytes.
-/
import Derived.Test.YtlechjpaldpgnaaGreatDoorMg10
import Derived.Test.YtlechjpaldpgnaaGreatDoorMg9
import Derived.Test.YtlechjpaldpgnaaGreatDoorMg7
import Derived.Test.YtlechjpaldpgnaaGreatDoorMg11
import Derived.Deep.RegionHeld3
set_option maxRecDepth 100000
namespace Go.Proofs.YtlechjpaldpgnaaGreatDoor
open Go.ChangeShapes Go.WideShapes Go.ChangeAt Go.RowKit Sh Pn Mf

namespace Mf
/-- The tree of sums, of none too. -/
def rootF (L : List (Nat → UInt8)) : Nat → UInt8 := if L.length = 0 then sumF [] else treeD L
theorem rootF_pos {L : List (Nat → UInt8)} (h : 0 < L.length) : rootF L = treeD L := if_neg (by omega)
theorem rootF_nil {L : List (Nat → UInt8)} (h : L.length = 0) : rootF L = sumF [] := if_pos h
end Mf
namespace Mf
/-- Where the chunk a stands. -/
structure Place (m : Man) (a : Int) (i s c : Nat) : Prop where
  ha : a = (i : Int)
  hs : m.s = (s : Int)
  hc : m.c = (c : Int)
  s1 : s ≤ 4096
  c0 : 1 ≤ c
  c1 : c ≤ 256
  hi : i < m.sums.length
  hn : m.sums.length ≤ 64
  hl : i * c < s
  len : lengthM m a = lenN s c i
  l0 : 1 ≤ lenN s c i
  l1 : lenN s c i ≤ 256
  l2 : i * c + lenN s c i ≤ s
theorem place_of {m : Man} {a : Int} (h : 0 < lengthM m a) : ∃ i s c, Place m a i s c := by
  unfold lengthM at h
  split at h
  case isFalse => omega
  rename_i h3
  obtain ⟨hg, hl, hcm⟩ := countM_good (m := m) (by omega)
  have hgi := headB_iff.1 hg
  obtain ⟨i, rfl⟩ : ∃ i : Nat, a = (i : Int) := ⟨a.toNat, by omega⟩
  obtain ⟨s, hs⟩ : ∃ s : Nat, m.s = (s : Int) := ⟨m.s.toNat, by omega⟩
  obtain ⟨c, hc⟩ : ∃ c : Nat, m.c = (c : Int) := ⟨m.c.toNat, by omega⟩
  rw [hs, hc] at hgi
  have h5 := hl
  rw [hs, hc] at h5
  simp at h5
  have hgi' : i < cntN s c := by omega
  have hic := (cntN_at (s := s) (c := c) (i := i) (by omega)).1 hgi'
  have hgn := hgi.2.2.2.2.2.2.2.2.2
  simp at hgn
  exact ⟨i, s, c, rfl, hs, hc, by omega, by omega, by omega, by omega, by omega, hic, by
    unfold lengthM
    rw [if_pos h3, hs, hc]
    rfl, lenN_pos (by omega) hgi', by unfold lenN; omega, lenN_within (by omega) hgi'⟩
/-- The chunk a of a patch; nothing, if there is none. -/
def partM (m : Man) (a : Int) (p : ByteArray) : ByteArray := if 0 < lengthM m a ∧ (p.size : Int) = m.s then p.extract (a.toNat * m.c.toNat) (a.toNat * m.c.toNat + lengthM m a) else ⟨#[]⟩
theorem partM_not {m : Man} {a : Int} {p : ByteArray} (h : ¬ (0 < lengthM m a ∧ (p.size : Int) = m.s)) : partM m a p = ⟨#[]⟩ := if_neg h
theorem partM_yes {m : Man} {a : Int} {p : ByteArray} {i s c : Nat} (P : Place m a i s c) (h : (p.size : Int) = m.s) : partM m a p = p.extract (i * c) (i * c + lenN s c i) := by
  unfold partM
  rw [if_pos ⟨by rw [P.len]; exact P.l0, h⟩, P.len, P.ha, P.hc]
  rfl
/-- Whether bytes are the chunk a. -/
def checkM (m : Man) (a : Int) (d : ByteArray) : Int := if lengthM m a = 0 then 3 else if d.size ≠ lengthM m a then 5 else if same (sumF d.data.toList) (m.sums.getD a.toNat fun _ => 0) = true then 0 else 6
end Mf
set_option maxRecDepth 100000 in
set_option maxHeartbeats 1600000 in
theorem mf_part (w : World) (m : Man) (A : Option Addr) (k : Nat) (a : Int) (p : ByteArray) (hp : p.size ≤ 281474976710656) :
    Calls Tryz.prog 29 #[.agg (manA m A k), .int .i64 a, .string p] w fun e w' => e = .returned (.string (partM m a p)) ∧ Below w.heap.size w w' := by
  have HN := Lib.hid (fun W => mf_length W m A k a)
  have HB := Lib.hid ((Below.refl w.heap.size w).alloc (Nat.le_refl _) (.cells (manA m A k) 26))
  have HA := Lib.hid (at_new w 26 m A k)
  have HI := Lib.hid (manI m A k)
  by_cases h1 : 0 < lengthM m a
  case neg =>
    have HP := Lib.hid (partM_not (p := p) fun h => h1 h.1)
    have t1 : ((lengthM m a : Int) == 0) = true := by rw [show lengthM m a = 0 by omega]; rfl
    have t2 : (lengthM m a == 0) = true := by rw [show lengthM m a = 0 by omega]; rfl
    generalize lengthM m a = L at *
    clear h1
    go_enter Tryz.func29, Tryz.ntmps29
    go_wp2_with (with_reducible refine wpList_load_row rfl 26 _ rfl _ rfl 26 _ (0, 0) _ HA.out.cells Tryz.underlying26 rfl HI.out ?_)
    refine (HN.out _).mono ?_
    rintro e w1 ⟨rfl, b1⟩
    have HB1 := Lib.hid (HB.out.trans (b1.mono HB.out.size))
    clear b1
    go_wp2_with (fail)
    refine bodyPost_ret (results_tmp rfl _ _ _) rfl ?_
    rw [HP.out]
    exact ⟨rfl, HB1.out⟩
  have t1 : ((lengthM m a : Int) == 0) = false := beq_eq_false_iff_ne.2 (by omega)
  have t2 : (lengthM m a == 0) = false := beq_eq_false_iff_ne.2 (by omega)
  by_cases h2 : (p.size : Int) = m.s
  case neg =>
    have HP := Lib.hid (partM_not (m := m) (a := a) fun h => h2 h.2)
    have t3 : ((p.size : Int) != m.s) = true := bne_iff_ne.2 h2
    have t4 : ((p.size : Int) == m.s) = false := beq_eq_false_iff_ne.2 h2
    generalize lengthM m a = L at *
    clear h1 h2
    go_enter Tryz.func29, Tryz.ntmps29
    go_wp2_with (with_reducible refine wpList_load_row rfl 26 _ rfl _ rfl 26 _ (0, 0) _ HA.out.cells Tryz.underlying26 rfl HI.out ?_)
    refine (HN.out _).mono ?_
    rintro e w1 ⟨rfl, b1⟩
    have e2 := (HA.out.keep b1).size
    have HB1 := Lib.hid (HB.out.trans (b1.mono HB.out.size))
    clear b1
    go_wp2_with (fail)
    refine bodyPost_ret (results_tmp rfl _ _ _) rfl ?_
    rw [HP.out]
    exact ⟨rfl, HB1.out⟩
  obtain ⟨i, s, c, P⟩ := place_of h1
  have HP := Lib.hid (partM_yes P h2)
  have HS := Lib.hid (fun W => mf_span W m A k s c i P.hs P.hc P.s1 P.c1 P.hl)
  have hps : p.size = s := by have := P.hs; omega
  have t3 : ((p.size : Int) != m.s) = false := by rw [h2]; simp
  have t4 : ((p.size : Int) == m.s) = true := by rw [h2]; simp
  have t5 := str_cut p (i * c) (i * c + lenN s c i) ((i * c : Nat) : Int) ((i * c + lenN s c i : Nat) : Int) rfl rfl (by omega) (by have := P.l2; omega)
  have ha := P.ha
  subst ha
  generalize i * c = f at *
  generalize f + lenN s c i = z at *
  have HC := Lib.hid (fun W => clone_any (p.extract f z) W (by rw [ByteArray.size_extract]; omega))
  generalize p.extract f z = q at *
  generalize lengthM m (i : Int) = L at *
  clear P h1 h2 hps hp
  go_enter Tryz.func29, Tryz.ntmps29
  go_wp2_with (with_reducible refine wpList_load_row rfl 26 _ rfl _ rfl 26 _ (0, 0) _ HA.out.cells Tryz.underlying26 rfl HI.out ?_)
  refine (HN.out _).mono ?_
  rintro e w1 ⟨rfl, b1⟩
  have HA1 := Lib.hid (HA.out.keep b1)
  have e2 := HA1.out.size
  have HB1 := Lib.hid (HB.out.trans (b1.mono HB.out.size))
  clear b1
  go_wp2_with (with_reducible refine wpList_load_row rfl 26 _ rfl _ rfl 26 _ (0, 0) _ HA1.out.cells Tryz.underlying26 rfl HI.out ?_)
  refine (HS.out _).mono ?_
  rintro e w2 ⟨rfl, b2⟩
  have HB2 := Lib.hid (HB1.out.trans (b2.mono HB1.out.size))
  clear b2
  go_wp2_with (fail)
  refine (HC.out _).mono ?_
  rintro e w3 ⟨rfl, b3⟩
  have HB3 := Lib.hid (HB2.out.trans (b3.mono HB2.out.size))
  clear b3
  go_wp2_with (fail)
  refine bodyPost_ret (results_tmp rfl _ _ _) rfl ?_
  rw [HP.out]
  exact ⟨rfl, HB3.out⟩
end Go.Proofs.YtlechjpaldpgnaaGreatDoor
namespace Go.Proofs.YtlechjpaldpgnaaGreatDoor
open Go.ChangeShapes Go.WideShapes Go.ChangeAt Go.RowKit Sh Pn Mf

set_option maxRecDepth 100000 in
set_option maxHeartbeats 3200000 in
theorem mf_check (w : World) (m : Man) (A : Option Addr) (k : Nat) (a : Int) (d : ByteArray) (hd : d.size ≤ 281474976710656) (hS : SIn w A k m.sums) (hT : Tabs w) :
    Calls Tryz.prog 38 #[.agg (manA m A k), .int .i64 a, .string d] w fun e w' => e = .returned (.int .i64 (checkM m a d)) ∧ Below w.heap.size w w' := by
  have HN := Lib.hid (fun W => mf_length W m A k a)
  have HB := Lib.hid ((Below.refl w.heap.size w).alloc (Nat.le_refl _) (.cells (manA m A k) 26))
  have HA := Lib.hid (at_new w 26 m A k)
  have HI := Lib.hid (manI m A k)
  have HSI := Lib.hid hS
  have HT := Lib.hid hT
  clear hS hT
  by_cases h1 : 0 < lengthM m a
  case neg =>
    have HP := Lib.hid (show checkM m a d = 3 from if_pos (by omega))
    have t1 : ((lengthM m a : Int) == 0) = true := by rw [show lengthM m a = 0 by omega]; rfl
    have t2 : (lengthM m a == 0) = true := by rw [show lengthM m a = 0 by omega]; rfl
    generalize lengthM m a = L at *
    clear h1
    go_enter Tryz.func38, Tryz.ntmps38
    go_wp2_with (with_reducible refine wpList_load_row rfl 26 _ rfl _ rfl 26 _ (0, 0) _ HA.out.cells Tryz.underlying26 rfl HI.out ?_)
    refine (HN.out _).mono ?_
    rintro e w1 ⟨rfl, b1⟩
    have HB1 := Lib.hid (HB.out.trans (b1.mono HB.out.size))
    clear b1
    go_wp2_with (fail)
    refine bodyPost_ret (results_tmp rfl _ _ _) rfl ?_
    rw [HP.out]
    exact ⟨rfl, HB1.out⟩
  have t1 : ((lengthM m a : Int) == 0) = false := beq_eq_false_iff_ne.2 (by omega)
  have t2 : (lengthM m a == 0) = false := beq_eq_false_iff_ne.2 (by omega)
  by_cases h2 : d.size = lengthM m a
  case neg =>
    have HP := Lib.hid (show checkM m a d = 5 from (if_neg (by omega)).trans (if_pos h2))
    have t3 : ((d.size : Int) != (lengthM m a : Int)) = true := bne_iff_ne.2 (by omega)
    have t4 : ((d.size : Int) == (lengthM m a : Int)) = false := beq_eq_false_iff_ne.2 (by omega)
    generalize lengthM m a = L at *
    clear h1 h2
    go_enter Tryz.func38, Tryz.ntmps38
    go_wp2_with (with_reducible refine wpList_load_row rfl 26 _ rfl _ rfl 26 _ (0, 0) _ HA.out.cells Tryz.underlying26 rfl HI.out ?_)
    refine (HN.out _).mono ?_
    rintro e w1 ⟨rfl, b1⟩
    have HB1 := Lib.hid (HB.out.trans (b1.mono HB.out.size))
    clear b1
    go_wp2_with (fail)
    refine bodyPost_ret (results_tmp rfl _ _ _) rfl ?_
    rw [HP.out]
    exact ⟨rfl, HB1.out⟩
  obtain ⟨i, s, c, P⟩ := place_of h1
  have hi := P.hi
  have ha := P.ha
  subst ha
  have HP := Lib.hid (show checkM m (i : Int) d = if (!same (sumF d.data.toList) (m.sums.getD i fun _ => 0)) = true then 6 else 0 by
    refine ((if_neg (by omega)).trans (if_neg (fun h => h h2))).trans ?_
    show (if same (sumF d.data.toList) (m.sums.getD i fun _ => 0) = true then (0 : Int) else 6) = _
    cases same (sumF d.data.toList) (m.sums.getD i fun _ => 0) <;> rfl)
  have t3 : ((d.size : Int) != (lengthM m (i : Int) : Int)) = false := by rw [h2]; simp
  have t4 : ((d.size : Int) == (lengthM m (i : Int) : Int)) = true := by rw [h2]; simp
  have HFO := Lib.hid (fun (W : World) (hW : Below w.heap.size w W) (g : Nat) (hg : W.cell? ⟨g, 0, none⟩ = some (.string d)) => of_here [d] d.data.toList (flat_one d) W (some ⟨g, 0, none⟩) 1 1 rfl (by omega) (fun _ => ⟨g, 0, rfl, fun k hk => by
    obtain rfl : k = 0 := by omega
    exact hg⟩) (HT.out.below hW).f (HT.out.below hW).k (by show d.size < _; omega))
  have hn := P.hn
  have x0 : (i : Int) < (m.sums.length : Int) := by omega
  have x1 : 0 ≤ (i : Int) := by omega
  obtain ⟨pb, po, rfl, hpb, hf⟩ := HSI.out.at hi
  have HPB := Lib.hid hpb
  have HF := Lib.hid hf
  generalize sumF d.data.toList = D at *
  generalize (m.sums.getD i fun _ => 0) = f at *
  have HIF := Lib.hid (show (Tryz.prog.info? 24).map (·.size) = some (digF f).toList.length by rw [Array.length_toList]; exact hiDigF f)
  have E : ∀ W, (binOp .neq 24 (.agg (digF D)) (.agg (digF f))).run Tryz.prog W = .ok (.bool (!same D f)) W := fun W => run_neq_dig D f W
  generalize (!same D f) = nb at *
  generalize lengthM m (i : Int) = L at *
  clear P h1 h2 hpb hf hn hi HSI
  go_enter Tryz.func38, Tryz.ntmps38
  go_wp2_with (with_reducible refine wpList_load_row rfl 26 _ rfl _ rfl 26 _ (0, 0) _ HA.out.cells Tryz.underlying26 rfl HI.out ?_)
  refine (HN.out _).mono ?_
  rintro e w1 ⟨rfl, b1⟩
  have HA1 := Lib.hid (HA.out.keep b1)
  have HB1 := Lib.hid (HB.out.trans (b1.mono HB.out.size))
  clear b1
  go_wp2_with (fail)
  have HK := Lib.hid (show ∀ W, Below w1.heap.size w1 W → W.cell? ⟨w.heap.size, 4, none⟩ = some (.slice (some ⟨pb, po, none⟩) m.sums.length k) ∧ W.rangeAt pb (po + i * 32) (digF f).toList ∧ Below w.heap.size w W from fun W hW => by
    have hb := HB1.out.trans (hW.mono HB1.out.size)
    exact ⟨(HA1.out.keep hW).sums, fun j u hj => (hb.cell (p := ⟨pb, po + i * 32 + j, none⟩) HPB.out).trans (HF.out j u hj), hb⟩)
  have b0 : Below w1.heap.size w1 w1.drew := below_drewN (Below.refl _ _) 1
  have b2 : Below w1.heap.size w1 (w1.alloc (.cells #[.string d] 9)).drew := below_drewN ((Below.refl _ _).alloc (Nat.le_refl _) _) 1
  have HC2 := Lib.hid (HFO.out _ (HK.out _ b2).2.2 w1.heap.size (by show (w1.alloc _).cell? _ = _; rw [cell_of_row _ _ _ _ _ _ (heap_alloc_new w1 _)]; rfl))
  have k0 := HK.out _ b0
  have k2 := HK.out _ b2
  have qi := HIF.out
  have qu := Tryz.underlying24
  go_region_held3 (fun W : World => W.cell? ⟨w.heap.size, 4, none⟩ = some (.slice (some ⟨pb, po, none⟩) m.sums.length k) ∧ W.rangeAt pb (po + i * 32) (digF f).toList ∧ Below w.heap.size w W) (first | exact k0 | exact k2 | assumption)
    (first | (go_at_call 62; (with_reducible refine HC2.out.mono ?_); rintro e w3 ⟨rfl, b3⟩; have k3 := HK.out _ (b2.trans (b3.mono b2.size))))
  all_goals
    have HB4 := Lib.hid (HB1.out.trans ((b2.trans (b3.mono b2.size)).mono HB1.out.size))
    clear k0 k2 k3 b0 b2 b3
    cases nb
    all_goals
      go_wp2_with (fail)
      refine bodyPost_ret (results_tmp rfl _ _ _) rfl ?_
      rw [HP.out]
      exact ⟨rfl, HB4.out⟩
end Go.Proofs.YtlechjpaldpgnaaGreatDoor
