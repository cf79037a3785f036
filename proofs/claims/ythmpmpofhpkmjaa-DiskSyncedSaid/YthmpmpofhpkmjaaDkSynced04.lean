/-
  Proved: DiskSynced: what was synced is there, whatever is kept, but where something else was written since. No condition.
-/
import Derived.Test.YthmpmpofhpkmjaaDkAwake
import Derived.Test.YthmpmpofhpkmjaaDkMath
import Derived.Test.YthmpmpofhpkmjaaOpenBytes
namespace Go.Proofs.Ythmpmpofhpkmjaa.diskSynced
open Go.ChangeShapes Go.WideShapes Go.ChangeAt Go.RowKit Dk

/-- A disk's blocks are there. -/
theorem bound {K : Nat → Prop} {w : World} {D : Nat} {x : St} (h : DiskAt K w D x) : DiskAt (fun i => K i ∧ i < w.heap.size) w D x := by
  obtain ⟨s, cs, t, ct, lv, fv, h⟩ := h
  have hfu : FuseAt (fun i => K i ∧ i < w.heap.size) w fv x.fuse := by
    have h0 := h.fu
    generalize x.fuse = fu at h0 ⊢
    match fu, h0 with
    | none, h0 => exact (show fv = .pointer none from h0)
    | some (l, kl), ⟨fb, kv, h1, h2, h3, h4, h5⟩ =>
      refine ⟨fb, kv, h1, h2, ?_, h4, h5, (Array.getElem?_eq_some_iff.1 h2).1⟩
      rcases h3 with h3 | ⟨kb, c, cur, g1, g2, g3, g4, g5⟩
      · exact .inl h3
      · exact .inr ⟨kb, c, cur, g1, g2, g3, g4, g5, (Array.getElem?_eq_some_iff.1 g3).1⟩
  exact ⟨s, cs, t, ct, lv, fv, h.hd, h.sr, h.tr, h.ne, h.cs, h.ct, h.lo, hfu, h.pl, h.nb, ⟨h.kD, h.lt⟩, ⟨h.ks, h.sr.lt⟩, ⟨h.kt, h.tr.lt⟩, fun g hg => ⟨h.kl g hg, (h.lo.lt g hg).2⟩⟩
def arrV (g : Nat → UInt8) (j : Nat) : Value := .int .u8 ((g j).toNat : Int)
/-- The disk, and the law's own eight bytes in block a. -/
structure Holds (w0 w : World) (D a : Nat) (x : St) (g : Nat → UInt8) : Prop where
  disk : DiskAt (fun i => w0.heap.size ≤ i ∧ i ≠ a) w D x
  below : Below w0.heap.size w0 w
  base : w0.heap.size ≤ a
  arr : w.rowIs a 28 8 (arrV g)
namespace Holds
variable {w0 w w' : World} {D a : Nat} {x y : St} {g : Nat → UInt8}
theorem step (h : Holds w0 w D a x g) (hb : Below w.heap.size w w') : Holds w0 w' D a x g := ⟨h.disk.below hb, h.below.trans (hb.mono h.below.size), h.base, h.arr.of_block (hb.block a h.arr.lt)⟩
theorem says (h : Holds w0 w D a x g) {v : Value} {e : Ending} (hs : DiskSays (fun i => w0.heap.size ≤ i ∧ i ≠ a) w D v y e w') : e = .returned v ∧ Holds w0 w' D a y g :=
  ⟨hs.1, hs.2.1, h.below.trans (hs.2.2.below h.below.size (fun _ hi hk => Nat.not_le.2 hi hk.1)), h.base, h.arr.of_block (hs.2.2.block a h.arr.lt (fun hk => hk.2 rfl))⟩
theorem new (h : Holds w0 w D a x g) : ∀ i, w.heap.size ≤ i → w0.heap.size ≤ i ∧ i ≠ a := fun i hi => ⟨Nat.le_trans h.below.size hi, fun e => by have := h.arr.lt; omega⟩
end Holds
theorem holds_new {w0 w w' : World} {D : Nat} {x : St} (h : At w0 w D x) (a : Nat) (ha : a = w.heap.size) (g : Nat → UInt8) (hb : Below w.heap.size w w') (hr : w'.rowIs a 28 8 (arrV g)) : Holds w0 w' D a x g := by
  subst ha
  exact ⟨((bound h.disk).mono fun i hi => ⟨hi.1, by omega⟩).below hb, h.below.trans (hb.mono h.below.size), h.below.size, hr⟩
theorem holds_sync {w0 w : World} {D a : Nat} {X : Nat → UInt8} {n : Nat} {x : St} {g : Nat → UInt8} (h : Holds w0 w D a x g) (hs : Syn X n n false x) (hn : n ≤ 30) :
    Calls Try.prog 6 #[.pointer (some ⟨D, 0, none⟩)] w fun e w' => e = .returned (.int .i64 0) ∧ ∃ y, Holds w0 w' D a y g ∧ Syn X n n true y := by
  have h1 := hs.len
  have h2 := hs.done
  rw [if_neg Bool.false_ne_true] at h2
  refine (disk_sync_ok _ w D x h.disk hs.on (by omega) (disk_burn_none _ w D x h.disk hs.fu (by omega))).mono ?_
  rintro e w' hh
  obtain ⟨rfl, h3⟩ := h.says hh
  exact ⟨rfl, _, h3, syn_sync hs⟩
theorem holds_write {w0 w : World} {D a : Nat} {X : Nat → UInt8} {n i : Nat} {b : Bool} {x : St} {g : Nat → UInt8} (h : Holds w0 w D a x g) (hs : Syn X n i b x) (hn : i ≤ 30) :
    Calls Try.prog 7 #[.pointer (some ⟨D, 0, none⟩), .int .i64 (((X i).toNat % 8 : Nat) : Int), .string (secS fun _ => X i)] w fun e w' => e = .returned (.int .i64 0) ∧ ∃ y, Holds w0 w' D a y g ∧ Syn X n (i + 1) b y := by
  have h1 := hs.len
  have h2 := hs.done
  have h3 : x.done < 100 := by
    cases b with
    | true => rw [if_pos rfl] at h2; omega
    | false => rw [if_neg Bool.false_ne_true] at h2; omega
  refine (disk_write_ok _ w D x h.disk hs.on (by omega) _ (by rw [hs.n8]; omega) _ (secS_size _) h.new (disk_burn_none _ w D x h.disk hs.fu (by omega))).mono ?_
  rintro e w' hh
  obtain ⟨rfl, h4⟩ := h.says hh
  exact ⟨rfl, _, h4, syn_write hs _ (fun j hj => bs_secS _ _ hj)⟩
/-- Which of the writes the sync is ahead of. -/
theorem small (r : Int) (l : Nat) (hl : l ≤ 30) (h0 : 0 < l) : ∃ k : Nat, wrap64 ((IntKind.u64.wrap r).tmod ((l : Int) + 1)) = (k : Int) ∧ k ≤ l := by
  have h1 : 0 ≤ IntKind.u64.wrap r := by rw [IntKind.wrap_u64]; omega
  have h2 := Int.emod_nonneg (IntKind.u64.wrap r) (show (l : Int) + 1 ≠ 0 by omega)
  have h3 := Int.emod_lt_of_pos (IntKind.u64.wrap r) (show 0 < (l : Int) + 1 by omega)
  rw [Int.tmod_eq_emod_of_nonneg h1, IntWalk.wrap64_in _ ⟨by omega, by omega⟩]
  exact ⟨(IntKind.u64.wrap r % ((l : Int) + 1)).toNat, by omega, by omega⟩
theorem place_of (b : UInt8) : IntKind.i64.wrap ((b.toNat : Int).tmod 8) = ((b.toNat % 8 : Nat) : Int) := by
  rw [Int.tmod_eq_emod_of_nonneg (by omega)]
  exact (IntWalk.i64_in _ (by omega)).trans (by omega)
/-- The law's own store. -/
theorem holds_store {w0 w : World} {D a i : Nat} {x : St} {X : Nat → UInt8} (h : Holds w0 w D a x (sArr X i)) (m : Nat) (hm : m = (X i).toNat % 8) (v : Int) (hv : v = ((X i).toNat : Int)) : Holds w0 (w.setCell ⟨a, m, none⟩ (.int .u8 v)) D a x (sArr X (i + 1)) := by
  subst hm hv
  have ho : ∀ k, k ≠ a → (w.setCell ⟨a, (X i).toNat % 8, none⟩ (.int .u8 ((X i).toNat : Int))).heap[k]? = w.heap[k]? := fun k hk => heap_setCell_other w ⟨a, _, none⟩ k _ hk
  refine ⟨h.disk.keep fun k hk _ => ho k hk.2, h.below.setCell (p := ⟨a, _, none⟩) h.base _, h.base, ?_⟩
  obtain ⟨c, hb, hs, hc⟩ := h.arr
  refine ⟨_, heap_setCell_same w a _ _ _ _ hb, by rw [Array.size_setIfInBounds]; exact hs, fun k hk => ?_⟩
  rw [Array.getElem?_setIfInBounds]
  unfold arrV
  by_cases he : (X i).toNat % 8 = k
  · rw [if_pos he, if_pos (by omega)]
    show _ = some (Value.int .u8 ((if k = (X i).toNat % 8 then X i else sArr X i k).toNat : Int))
    rw [if_pos he.symm]
  · rw [if_neg he, hc k hk]
    show _ = some (Value.int .u8 ((if k = (X i).toNat % 8 then X i else sArr X i k).toNat : Int))
    rw [if_neg (Ne.symm he)]
    rfl
theorem arr_cell {w0 w : World} {D a : Nat} {x : St} {g : Nat → UInt8} (h : Holds w0 w D a x g) (m : Nat) (hm : m < 8) : w.cell? ⟨a, m, none⟩ = some (.int .u8 ((g m).toNat : Int)) ∧ w.frozen? ⟨a, m, none⟩ = false := by
  obtain ⟨c, hb, hs, hc⟩ := h.arr
  exact ⟨by rw [cell_of_row w a m _ _ _ hb]; exact hc m hm, frozen_of_row w a m _ _ hb⟩
set_option maxRecDepth 100000 in
set_option maxHeartbeats 6400000 in
theorem walk_some (w : World) (A : Option Addr) (len cap : Nat) (X : Nat → UInt8) (r : Int) (B : Option Addr) (klen kcap : Nat) (Y : Nat → Bool) (hX : BytesIn w A len cap X) (hkc : klen ≤ kcap)
    (hY : 0 < klen → ∃ pb po, B = some ⟨pb, po, none⟩ ∧ ∀ k, k < klen → w.cell? ⟨pb, po + k, none⟩ = some (.bool (Y k))) (hl : len ≤ 30) (hk : klen ≤ 100) (h0 : 0 < len) :
    Calls Try.prog 3 #[.slice A len cap, .int .i64 r, .slice B klen kcap] w fun e w' => e = .returned (.bool true) ∧ Below w.heap.size w w' := by
  have HX := Lib.hid hX
  have HY := Lib.hid hY
  have HKC := Lib.hid hkc
  clear hX hY hkc
  obtain ⟨n, en, hn⟩ := small r len hl h0
  have el : IntKind.u64.wrap ((len : Int) + 1) = (len : Int) + 1 := by rw [IntKind.wrap_u64]; omega
  have el2 : IntKind.i64.wrap ((len : Int) + 1) = (len : Int) + 1 := IntWalk.i64_in _ (by omega)
  have el3 : ¬ (len : Int) + 1 = 0 := by omega
  have p0 : 0 < (len : Int) := by omega
  have p1 : decide (0 < (len : Int)) = true := decide_eq_true p0
  have x0 : ¬ 30 < (len : Int) := by omega
  have x1 : decide (30 < (len : Int)) = false := decide_eq_false x0
  have x2 : ¬ 100 < (klen : Int) := by omega
  have x3 : decide (100 < (klen : Int)) = false := decide_eq_false x2
  go_enter Try.func3, Try.ntmps3
  go_wp2_with (fail)
  refine (awake_any w).mono ?_
  rintro e w1 ⟨rfl, b1⟩
  have B1 := Lib.hid b1
  clear b1
  go_wp2_with (fail)
  refine (at_new w w1 B1.out 8 8 (by omega)).mono ?_
  rintro e w2 ⟨D, rfl, h2⟩
  have H2 := Lib.hid h2
  clear h2 B1
  go_wp2_with (fail)
  refine gen_world (fun W => Holds w W D w2.heap.size (freshSt 8 fun _ => 0) (sArr X 0)) (holds_new H2.out w2.heap.size rfl (sArr X 0) ((Below.refl _ _).alloc (Nat.le_refl _) _) (row_alloc _ rfl (by kernel_rfl))) ?_
  rintro w3 h3
  obtain ⟨a, hadef⟩ : ∃ a, a = w2.heap.size := ⟨_, rfl⟩
  rw [← hadef] at h3 ⊢
  clear hadef
  have H3 := Lib.hid (show ∃ x, Holds w w3 D a x (sArr X (min 0 n)) ∧ Syn X n 0 (decide (n < 0)) x from ⟨_, (Nat.zero_min n).symm ▸ h3, (show decide (n < 0) = false from decide_eq_false (by omega)).symm ▸ syn_new X n _ rfl⟩)
  clear h3 H2 x0 x1 x2 x3
  rw [en]
  clear en el el2 el3 p0 p1
  go_loopw [10] (fun v wr => ∃ i : Nat, v = .int .i64 (i : Int) ∧ i ≤ len ∧ ∃ x, Holds w wr D a x (sArr X (min i n)) ∧ Syn X n i (decide (n < i)) x) (fun v _ => match v with | .int _ k => len - k.toNat | _ => 0)
  case atStart => exact ⟨0, rfl, Nat.zero_le _, H3.out⟩
  case round =>
    clear H3
    obtain ⟨i, rfl, hil, x, hat, hd⟩ := hrel
    have HAT := Lib.hid hat
    have HD := Lib.hid hd
    clear hat hd
    have x2 : 0 ≤ (i : Int) := by omega
    by_cases hlt : i < len
    · have x0 : (i : Int) < (len : Int) := by omega
      have x1 : decide ((i : Int) < (len : Int)) = true := decide_eq_true x0
      obtain ⟨hlc, hcm, hc⟩ := HX.out
      obtain ⟨pb, po, rfl, hcell⟩ := hc (by omega)
      have hpb : pb < w.heap.size := block_lt_of_cell (hcell i hlt)
      have HC := Lib.hid (show ∀ W : World, Below w.heap.size w W → W.cell? ⟨pb, po + i, none⟩ = some (.int .u8 ((X i).toNat : Int)) from fun W hW => (World.cell?_of_block (w := w) (a := ⟨pb, po + i, none⟩) (hW.block pb hpb)).trans (hcell i hlt))
      have hbl : (X i).toNat < 256 := (X i).toNat_lt
      clear hc hcell
      have HOF := Lib.hid (law_of (X i))
      have FIN := Lib.hid (show ∀ (wz : World) (y : St), Holds w wz D a y (sArr X (min (i + 1) n)) → Syn X n (i + 1) (decide (n < i + 1)) y → (∃ k : Nat, Value.int .i64 ((i : Int) + 1) = .int .i64 (k : Int) ∧ k ≤ len ∧ ∃ x, Holds w wz D a x (sArr X (min k n)) ∧ Syn X n k (decide (n < k)) x) ∧ len - ((i : Int) + 1).toNat < len - (i : Int).toNat from fun wz y h1 h2 => ⟨⟨i + 1, rfl, by omega, y, h1, h2⟩, by omega⟩)
      by_cases hin : i = n
      · have e0 : ((i : Int) == (n : Int)) = true := beq_iff_eq.2 (by omega)
        have e1 : ¬ (i : Int) < (n : Int) := by omega
        have e2 : decide ((i : Int) < (n : Int)) = false := decide_eq_false e1
        rw [show min i n = n by omega, show decide (n < i) = false from decide_eq_false (by omega)] at *
        rw [show min (i + 1) n = n by omega, show decide (n < i + 1) = true from decide_eq_true (by omega)] at FIN
        have HS := Lib.hid (show Calls Try.prog 6 #[.pointer (some ⟨D, 0, none⟩)] wr fun e w' => e = .returned (.int .i64 0) ∧ ∃ y, Holds w w' D a y (sArr X n) ∧ Syn X n i true y by
          have h7 := HD.out
          rw [hin] at h7 ⊢
          exact holds_sync HAT.out h7 (by omega))
        clear HAT HD hin
        go_wp2_with (fail)
        refine HS.out.mono ?_
        rintro e w5 ⟨rfl, y0, h5, d5⟩
        have HAT := Lib.hid h5
        have HD := Lib.hid d5
        clear h5 d5 HS
        have HWR := Lib.hid (show ∀ W, Below w5.drew.heap.size w5.drew W → Calls Try.prog 7 #[.pointer (some ⟨D, 0, none⟩), .int .i64 (IntKind.i64.wrap (((X i).toNat : Int).tmod 8)), .string (secS fun _ => X i)] W fun e w' => e = .returned (.int .i64 0) ∧ ∃ y, Holds w w' D a y (sArr X n) ∧ Syn X n (i + 1) true y from fun W hW => by
          have := holds_write (HAT.out.step (w' := W) (below_undrew hW)) HD.out (by omega)
          rwa [← place_of] at this)
        have HC3 := Lib.hid (show ∀ (W : World), Below w5.drew.heap.size w5.drew W → W.cell? ⟨pb, po + i, none⟩ = some (.int .u8 ((X i).toNat : Int)) from fun W hW => HC.out W (HAT.out.step (w' := W) (below_undrew hW)).below)
        have c2 : w5.drew.cell? ⟨pb, po + i, none⟩ = some (.int .u8 ((X i).toNat : Int)) := HC.out w5 HAT.out.below
        clear HAT HD
        obtain ⟨bx, hbx⟩ : ∃ bx : Int, bx = ((X i).toNat : Int) := ⟨_, rfl⟩
        obtain ⟨sb, hsb⟩ : ∃ sb, sb = secS fun _ => X i := ⟨_, rfl⟩
        rw [← hsb] at HOF HWR
        rw [← hbx] at HOF HWR HC HC3 c2
        have HBX := Lib.hid hbx
        clear hbx hsb
        go_wp2_with (fail)
        go_region_held3 (fun W : World => W.cell? ⟨pb, po + i, none⟩ = some (.int .u8 bx)) (first | exact c2 | assumption) (first
          | (go_at_call 8; (with_reducible refine (HOF.out _).mono ?_); rintro e w' ⟨rfl, hb'⟩; have hc' := HC3.out w' hb')
          | (go_at_call 7; (with_reducible refine (HWR.out _ (by assumption)).mono ?_); rintro e w'' ⟨rfl, y, h5, d5⟩; have hc'' := HC.out w'' h5.below))
        have H5 := Lib.hid h5
        have D5 := Lib.hid d5
        clear h5 d5 HWR HOF c2
        go_wp2_with (fail)
        exact FIN.out _ y H5.out D5.out
      · have e0 : ((i : Int) == (n : Int)) = false := beq_eq_false_iff_ne.2 (by omega)
        by_cases hin2 : i < n
        · have e1 : (i : Int) < (n : Int) := by omega
          have e2 : decide ((i : Int) < (n : Int)) = true := decide_eq_true e1
          rw [show min i n = i by omega, show decide (n < i) = false from decide_eq_false (by omega)] at *
          rw [show min (i + 1) n = i + 1 by omega, show decide (n < i + 1) = false from decide_eq_false (by omega)] at FIN
          have HWR := Lib.hid (show ∀ W, Below wr.drew.heap.size wr.drew W → Calls Try.prog 7 #[.pointer (some ⟨D, 0, none⟩), .int .i64 (IntKind.i64.wrap (((X i).toNat : Int).tmod 8)), .string (secS fun _ => X i)] W fun e w' => e = .returned (.int .i64 0) ∧ ∃ y, Holds w w' D a y (sArr X i) ∧ Syn X n (i + 1) false y from fun W hW => by
            have := holds_write (HAT.out.step (w' := W) (below_undrew hW)) HD.out (by omega)
            rwa [← place_of] at this)
          have HC3 := Lib.hid (show ∀ (W : World), Below wr.drew.heap.size wr.drew W → W.cell? ⟨pb, po + i, none⟩ = some (.int .u8 ((X i).toNat : Int)) from fun W hW => HC.out W (HAT.out.step (w' := W) (below_undrew hW)).below)
          have c2 : wr.drew.cell? ⟨pb, po + i, none⟩ = some (.int .u8 ((X i).toNat : Int)) := HC.out wr HAT.out.below
          clear HAT HD
          obtain ⟨bx, hbx⟩ : ∃ bx : Int, bx = ((X i).toNat : Int) := ⟨_, rfl⟩
          obtain ⟨sb, hsb⟩ : ∃ sb, sb = secS fun _ => X i := ⟨_, rfl⟩
          rw [← hsb] at HOF HWR
          rw [← hbx] at HOF HWR HC HC3 c2
          have HBX := Lib.hid hbx
          clear hbx hsb
          go_wp2_with (fail)
          go_region_held3 (fun W : World => W.cell? ⟨pb, po + i, none⟩ = some (.int .u8 bx)) (first | exact c2 | assumption) (first
            | (go_at_call 8; (with_reducible refine (HOF.out _).mono ?_); rintro e w' ⟨rfl, hb'⟩; have hc' := HC3.out w' hb')
            | (go_at_call 7; (with_reducible refine (HWR.out _ (by assumption)).mono ?_); rintro e w'' ⟨rfl, y, h5, d5⟩; have hc'' := HC.out w'' h5.below))
          have H5 := Lib.hid h5
          have D5 := Lib.hid d5
          clear h5 d5 HWR HOF c2
          obtain ⟨m, hm1, hm2⟩ : ∃ m : Nat, bx.tmod 8 = (m : Int) ∧ m = (X i).toNat % 8 := ⟨_, by rw [HBX.out, Int.tmod_eq_emod_of_nonneg (by omega)]; omega, rfl⟩
          have HM := Lib.hid hm2
          have m8 : m < 8 := by omega
          have m9 : (m : Int) < 8 := by omega
          have m0 : 0 ≤ (m : Int) := by omega
          clear hm2
          have c9 := HC.out w'' H5.out.below
          obtain ⟨q1, q2⟩ := arr_cell H5.out m m8
          have q3 : w''.drew.cell? ⟨a, m, none⟩ = some (.int .u8 ((sArr X i m).toNat : Int)) := q1
          have q4 : w''.drew.frozen? ⟨a, m, none⟩ = false := q2
          have HST := Lib.hid (holds_store (H5.out.step ((Below.refl _ _).drew)) m HM.out bx HBX.out)
          clear q1 q2
          go_wp2_with (fail)
          go_still_tail 10, (by kernel_rfl)
          change wpList _ _ _ _ _ w''.drew
          generalize w''.drew = w9 at q3 q4 HST ⊢
          go_wp2_with (fail)
          exact FIN.out _ y HST.out D5.out
        · have e1 : ¬ (i : Int) < (n : Int) := by omega
          have e2 : decide ((i : Int) < (n : Int)) = false := decide_eq_false e1
          rw [show min i n = n by omega, show decide (n < i) = true from decide_eq_true (by omega)] at *
          rw [show min (i + 1) n = n by omega, show decide (n < i + 1) = true from decide_eq_true (by omega)] at FIN
          have HWR := Lib.hid (show ∀ W, Below wr.drew.heap.size wr.drew W → Calls Try.prog 7 #[.pointer (some ⟨D, 0, none⟩), .int .i64 (IntKind.i64.wrap (((X i).toNat : Int).tmod 8)), .string (secS fun _ => X i)] W fun e w' => e = .returned (.int .i64 0) ∧ ∃ y, Holds w w' D a y (sArr X n) ∧ Syn X n (i + 1) true y from fun W hW => by
            have := holds_write (HAT.out.step (w' := W) (below_undrew hW)) HD.out (by omega)
            rwa [← place_of] at this)
          have HC3 := Lib.hid (show ∀ (W : World), Below wr.drew.heap.size wr.drew W → W.cell? ⟨pb, po + i, none⟩ = some (.int .u8 ((X i).toNat : Int)) from fun W hW => HC.out W (HAT.out.step (w' := W) (below_undrew hW)).below)
          have c2 : wr.drew.cell? ⟨pb, po + i, none⟩ = some (.int .u8 ((X i).toNat : Int)) := HC.out wr HAT.out.below
          clear HAT HD
          obtain ⟨bx, hbx⟩ : ∃ bx : Int, bx = ((X i).toNat : Int) := ⟨_, rfl⟩
          obtain ⟨sb, hsb⟩ : ∃ sb, sb = secS fun _ => X i := ⟨_, rfl⟩
          rw [← hsb] at HOF HWR
          rw [← hbx] at HOF HWR HC HC3 c2
          have HBX := Lib.hid hbx
          clear hbx hsb
          go_wp2_with (fail)
          go_region_held3 (fun W : World => W.cell? ⟨pb, po + i, none⟩ = some (.int .u8 bx)) (first | exact c2 | assumption) (first
            | (go_at_call 8; (with_reducible refine (HOF.out _).mono ?_); rintro e w' ⟨rfl, hb'⟩; have hc' := HC3.out w' hb')
            | (go_at_call 7; (with_reducible refine (HWR.out _ (by assumption)).mono ?_); rintro e w'' ⟨rfl, y, h5, d5⟩; have hc'' := HC.out w'' h5.below))
          have H5 := Lib.hid h5
          have D5 := Lib.hid d5
          clear h5 d5 HWR HOF c2
          go_wp2_with (fail)
          exact FIN.out _ y H5.out D5.out
    · have hie : i = len := by omega
      have x0 : ¬ (i : Int) < (len : Int) := by omega
      have x1 : decide ((i : Int) < (len : Int)) = false := decide_eq_false x0
      have hkb : ∀ W : World, (∀ j, j < w.heap.size → W.heap[j]? = w.heap[j]?) → BoolsAt W (.slice B klen kcap) ((List.range klen).map Y) := fun W hW => by
        by_cases h0 : 0 < klen
        · obtain ⟨pb, po, rfl, hc⟩ := HY.out h0
          refine .inr ⟨pb, po, kcap, by rw [List.length_map, List.length_range], by rw [List.length_map, List.length_range]; exact HKC.out, fun j z hj => ?_⟩
          have hl := (List.getElem?_eq_some_iff.1 hj).1
          simp only [List.length_map, List.length_range] at hl
          have h1 := hc j hl
          rw [World.cell?_of_block (w := w) (a := ⟨pb, po + j, none⟩) (hW pb (block_lt_of_cell h1)), h1]
          simp [hl] at hj
          rw [hj]
        · have h1 : klen = 0 := by omega
          subst h1
          exact .inl ⟨rfl, B, kcap, rfl⟩
      have HCUT := Lib.hid (show ∀ (W : World) (y : St), Holds w W D a y (sArr X n) → Syn X n len true y → Calls Try.prog 9 #[.pointer (some ⟨D, 0, none⟩), .slice B klen kcap] W fun e w' => e = .returned (.tuple #[]) ∧ ∃ z, Holds w w' D a z (sArr X n) ∧ z.n = 8 ∧ z.away = true ∧ z.loose = [] ∧ ∀ p, p < 8 → ∃ c : UInt8, (∀ j, j < 32 → sect z.come.now p j = c) ∧ (c = sArr X n p ∨ ∃ i, n ≤ i ∧ i < len ∧ (X i).toNat % 8 = p ∧ c = X i) from fun W y hW hs => by
        refine (disk_cut _ W D y hW.disk hs.on (by have := hs.len; omega) _ ((List.range klen).map Y) (by rw [List.length_map, List.length_range]; omega) (hkb W hW.below.block) (fun w' he => hkb w' (fun j hj => (he j (Nat.lt_of_lt_of_le hj hW.below.size) (.inl (fun hk => by omega))).trans (hW.below.block j hj)))).mono ?_
        rintro e w' hh
        obtain ⟨rfl, h3⟩ := hW.says hh
        exact ⟨rfl, _, h3, hs.n8, rfl, rfl, fun p hp => syn_read hs _ p hp⟩)
      clear hkb
      by_cases hnl : n = len
      · have e0 : ((n : Int) == (len : Int)) = true := beq_iff_eq.2 (by omega)
        have HS := Lib.hid (show Calls Try.prog 6 #[.pointer (some ⟨D, 0, none⟩)] wr fun e w' => e = .returned (.int .i64 0) ∧ ∃ y, Holds w w' D a y (sArr X n) ∧ Syn X n len true y by
          have h6 := HAT.out
          have h7 := HD.out
          rw [hie, ← hnl, Nat.min_self] at h6
          rw [hie, ← hnl, decide_eq_false (Nat.lt_irrefl n)] at h7
          rw [← hnl]
          exact holds_sync h6 h7 (by omega))
        clear HAT HD hie hlt hnl
        go_wp2_with (fail)
        refine HS.out.mono ?_
        rintro e w5 ⟨rfl, y, h5, d5⟩
        have HA5 := Lib.hid h5
        have HS5 := Lib.hid d5
        clear h5 d5 HS
        go_wp2_with (fail)
        refine (HCUT.out _ _ HA5.out HS5.out).mono ?_
        rintro e w6 ⟨rfl, z, h6, hz⟩
        have H6 := Lib.hid h6
        have HZ := Lib.hid hz
        clear h6 hz HCUT HA5 HS5
        go_wp2_with (fail)
        refine (disk_sync_away _ w6 D z H6.out.disk HZ.out.2.1).mono ?_
        rintro e w7 ⟨rfl, rfl⟩
        go_wp2_with (fail)
        refine (disk_come _ w6 D z H6.out.disk).mono ?_
        rintro e w7 hs7
        obtain ⟨rfl, h7⟩ := H6.out.says hs7
        have H7 := Lib.hid h7
        clear hs7 h7 H6
        have HRD := Lib.hid (show ∀ (W : World) (p : Nat), Holds w W D a z.come (sArr X n) → p < 8 → ∃ c : UInt8, (c = sArr X n p ∨ ∃ i, n ≤ i ∧ i < len ∧ (X i).toNat % 8 = p ∧ c = X i) ∧ Calls Try.prog 11 #[.pointer (some ⟨D, 0, none⟩), .int .i64 (p : Int)] W fun e w' => e = .returned (.tuple #[.string (secS fun _ => c), .int .i64 0]) ∧ W = w' from fun W p hW hp => by
          obtain ⟨c, h1, h2⟩ := HZ.out.2.2.2 p hp
          have := disk_read _ W D z.come hW.disk rfl p (by show p < z.n; rw [HZ.out.1]; exact hp)
          rw [show secS (sect z.come.now p) = secS fun _ => c from secS_congr h1] at this
          exact ⟨c, h2, this⟩)
        have HLO := Lib.hid (show ∀ (W : World), Holds w W D a z.come (sArr X n) → Calls Try.prog 12 #[.pointer (some ⟨D, 0, none⟩)] W fun e w' => e = .returned (.int .i64 0) ∧ W = w' from fun W hW => by
          have := disk_loose _ W D z.come hW.disk
          rwa [show (z.come.loose.length : Int) = 0 from by show (z.loose.length : Int) = 0; rw [HZ.out.2.2.1]; rfl] at this)
        clear HZ
        generalize z.come = zc at H7 HRD HLO
        go_wp2_with (fail)
        go_loopw [11] (fun v wr => ∃ p : Nat, v = .int .i64 (p : Int) ∧ p ≤ 8 ∧ Holds w wr D a zc (sArr X n)) (fun v _ => match v with | .int _ k => 8 - k.toNat | _ => 0)
        case atStart => exact ⟨0, rfl, Nat.zero_le _, H7.out⟩
        case round =>
          clear H7
          obtain ⟨p, rfl, hp8, hat⟩ := hrel
          have HAT := Lib.hid hat
          clear hat
          have y2 : 0 ≤ (p : Int) := by omega
          by_cases hp : p < 8
          · have y0 : (p : Int) < 8 := by omega
            have y1 : decide ((p : Int) < 8) = true := decide_eq_true y0
            obtain ⟨c, hc, hrd⟩ := HRD.out wr p HAT.out hp
            have HC := Lib.hid hc
            have HR := Lib.hid hrd
            clear hc hrd
            go_wp2_with (fail)
            refine HR.out.mono ?_
            rintro e w8 ⟨rfl, rfl⟩
            clear HR
            have q1 := (arr_cell HAT.out p hp).1
            have HOF := Lib.hid (law_of (sArr X n p))
            obtain ⟨sc, hsc⟩ : ∃ sc, sc = secS fun _ => c := ⟨_, rfl⟩
            obtain ⟨st, hst⟩ : ∃ st, st = secS fun _ => sArr X n p := ⟨_, rfl⟩
            rw [← hst] at HOF
            have HST := Lib.hid (show (sc.toList == st.toList) = true ∨ ∃ i, n ≤ i ∧ i < len ∧ (X i).toNat % 8 = p ∧ c = X i from by
              rcases HC.out with h1 | h1
              · refine .inl ?_
                rw [hsc, hst, h1]
                exact beq_self_eq_true _
              · exact .inr h1)
            rw [← hsc]
            have HSC := Lib.hid hsc
            clear hsc hst HC
            go_wp2_with (fail)
            refine (HOF.out wr).mono ?_
            rintro e w8 ⟨rfl, b8⟩
            have H8 := Lib.hid (HAT.out.step b8)
            clear b8 HAT HOF q1
            go_wp2_with (fail)
            generalize (sc.toList == st.toList) = f0 at HST ⊢
            go_loopw [14, 15] (fun fv v wz => ∃ (q : Nat) (fb : Bool), fv = .bool fb ∧ v = .int .i64 (q : Int) ∧ n ≤ q ∧ q ≤ len ∧ Holds w wz D a zc (sArr X n) ∧ (fb = true ∨ ∃ i, q ≤ i ∧ i < len ∧ (X i).toNat % 8 = p ∧ c = X i)) (fun _ v _ => match v with | .int _ k => len - k.toNat | _ => 0)
            case atStart => exact ⟨n, f0, rfl, rfl, Nat.le_refl _, hn, H8.out, HST.out⟩
            case round =>
              clear H8 HST
              obtain ⟨q, fb, rfl, rfl, hnq, hql, hat, hor⟩ := hrel
              have HAT := Lib.hid hat
              have HOR := Lib.hid hor
              clear hat hor
              have z2 : 0 ≤ (q : Int) := by omega
              by_cases hq : q < len
              · have z0 : (q : Int) < (len : Int) := by omega
                have z1 : decide ((q : Int) < (len : Int)) = true := decide_eq_true z0
                cases fb with
                | true =>
                  go_wp2_with (fail)
                  exact ⟨⟨q + 1, true, rfl, rfl, by omega, by omega, HAT.out, .inl rfl⟩, by show len - ((q : Int) + 1).toNat < len - (q : Int).toNat; omega⟩
                | false =>
                  obtain ⟨hlc, hcm, hcc⟩ := HX.out
                  obtain ⟨pb, po, rfl, hcell⟩ := hcc (by omega)
                  have hpb : pb < w.heap.size := block_lt_of_cell (hcell q hq)
                  have c1 := (World.cell?_of_block (w := w) (a := ⟨pb, po + q, none⟩) (HAT.out.below.block pb hpb)).trans (hcell q hq)
                  have hbl : (X q).toNat < 256 := (X q).toNat_lt
                  clear hcc hcell
                  have HOX := Lib.hid (law_of (X q))
                  have HOR2 := Lib.hid (show ∃ i, q ≤ i ∧ i < len ∧ (X i).toNat % 8 = p ∧ c = X i from HOR.out.resolve_left Bool.false_ne_true)
                  obtain ⟨su, hsu⟩ : ∃ su, su = secS fun _ => X q := ⟨_, rfl⟩
                  rw [← hsu] at HOX
                  have HNX := Lib.hid (show (sc.toList == su.toList) = true ∨ ∃ i, q + 1 ≤ i ∧ i < len ∧ (X i).toNat % 8 = p ∧ c = X i from by
                    obtain ⟨i, h1, h2, h3, h4⟩ := HOR2.out
                    by_cases hiq : i = q
                    · refine .inl ?_
                      rw [HSC.out, hsu, h4, hiq]
                      exact beq_self_eq_true _
                    · exact .inr ⟨i, by omega, h2, h3, h4⟩)
                  clear hsu
                  by_cases hxp : (X q).toNat % 8 = p
                  · have e5 : (((X q).toNat : Int) % 8 == (p : Int)) = true := beq_iff_eq.2 (by omega)
                    have e6 : ((X q).toNat : Int) % 8 = (p : Int) := by omega
                    go_wp2_with (fail)
                    refine (HOX.out _).mono ?_
                    rintro e w9 ⟨rfl, b9⟩
                    have H9 := Lib.hid (HAT.out.step b9)
                    clear b9 HAT HOX
                    go_wp2_with (fail)
                    exact ⟨⟨q + 1, _, rfl, rfl, by omega, by omega, H9.out, HNX.out⟩, by show len - ((q : Int) + 1).toNat < len - (q : Int).toNat; omega⟩
                  · have e5 : (((X q).toNat : Int) % 8 == (p : Int)) = false := beq_eq_false_iff_ne.2 (by omega)
                    have e6 : ¬ ((X q).toNat : Int) % 8 = (p : Int) := by omega
                    have HNY := Lib.hid (show ∃ i, q + 1 ≤ i ∧ i < len ∧ (X i).toNat % 8 = p ∧ c = X i from by
                      obtain ⟨i, h1, h2, h3, h4⟩ := HOR2.out
                      have : i ≠ q := fun e => hxp (by rw [← e]; exact h3)
                      exact ⟨i, by omega, h2, h3, h4⟩)
                    clear hxp
                    go_wp2_with (fail)
                    exact ⟨⟨q + 1, false, rfl, rfl, by omega, by omega, HAT.out, .inr HNY.out⟩, by show len - ((q : Int) + 1).toNat < len - (q : Int).toNat; omega⟩
              · have hql2 : q = len := by omega
                have z0 : ¬ (q : Int) < (len : Int) := by omega
                have z1 : decide ((q : Int) < (len : Int)) = false := decide_eq_false z0
                have hfb : fb = true := HOR.out.resolve_right (fun ⟨i, h1, h2, _⟩ => by omega)
                subst hfb
                clear hql2
                go_wp2_with (fail)
                exact ⟨⟨p + 1, rfl, by omega, HAT.out⟩, by show 8 - ((p : Int) + 1).toNat < 8 - (p : Int).toNat; omega⟩
          · have hp9 : p = 8 := by omega
            subst hp9
            go_wp2_with (fail)
            refine (HLO.out wr HAT.out).mono ?_
            rintro e w8 ⟨rfl, rfl⟩
            go_wp2_with (fail)
            exact bodyPost_ret (results_tmp rfl _ _ _) rfl ⟨rfl, HAT.out.below⟩
      · have e0 : ((n : Int) == (len : Int)) = false := beq_eq_false_iff_ne.2 (by omega)
        have HA5 := HAT
        have HS5 := HD
        rw [hie, show min len n = n by omega] at HA5
        rw [hie, show decide (n < len) = true from decide_eq_true (by omega)] at HS5
        clear HAT HD hie hlt hnl
        go_wp2_with (fail)
        refine (HCUT.out _ _ HA5.out HS5.out).mono ?_
        rintro e w6 ⟨rfl, z, h6, hz⟩
        have H6 := Lib.hid h6
        have HZ := Lib.hid hz
        clear h6 hz HCUT HA5 HS5
        go_wp2_with (fail)
        refine (disk_sync_away _ w6 D z H6.out.disk HZ.out.2.1).mono ?_
        rintro e w7 ⟨rfl, rfl⟩
        go_wp2_with (fail)
        refine (disk_come _ w6 D z H6.out.disk).mono ?_
        rintro e w7 hs7
        obtain ⟨rfl, h7⟩ := H6.out.says hs7
        have H7 := Lib.hid h7
        clear hs7 h7 H6
        have HRD := Lib.hid (show ∀ (W : World) (p : Nat), Holds w W D a z.come (sArr X n) → p < 8 → ∃ c : UInt8, (c = sArr X n p ∨ ∃ i, n ≤ i ∧ i < len ∧ (X i).toNat % 8 = p ∧ c = X i) ∧ Calls Try.prog 11 #[.pointer (some ⟨D, 0, none⟩), .int .i64 (p : Int)] W fun e w' => e = .returned (.tuple #[.string (secS fun _ => c), .int .i64 0]) ∧ W = w' from fun W p hW hp => by
          obtain ⟨c, h1, h2⟩ := HZ.out.2.2.2 p hp
          have := disk_read _ W D z.come hW.disk rfl p (by show p < z.n; rw [HZ.out.1]; exact hp)
          rw [show secS (sect z.come.now p) = secS fun _ => c from secS_congr h1] at this
          exact ⟨c, h2, this⟩)
        have HLO := Lib.hid (show ∀ (W : World), Holds w W D a z.come (sArr X n) → Calls Try.prog 12 #[.pointer (some ⟨D, 0, none⟩)] W fun e w' => e = .returned (.int .i64 0) ∧ W = w' from fun W hW => by
          have := disk_loose _ W D z.come hW.disk
          rwa [show (z.come.loose.length : Int) = 0 from by show (z.loose.length : Int) = 0; rw [HZ.out.2.2.1]; rfl] at this)
        clear HZ
        generalize z.come = zc at H7 HRD HLO
        go_wp2_with (fail)
        go_loopw [11] (fun v wr => ∃ p : Nat, v = .int .i64 (p : Int) ∧ p ≤ 8 ∧ Holds w wr D a zc (sArr X n)) (fun v _ => match v with | .int _ k => 8 - k.toNat | _ => 0)
        case atStart => exact ⟨0, rfl, Nat.zero_le _, H7.out⟩
        case round =>
          clear H7
          obtain ⟨p, rfl, hp8, hat⟩ := hrel
          have HAT := Lib.hid hat
          clear hat
          have y2 : 0 ≤ (p : Int) := by omega
          by_cases hp : p < 8
          · have y0 : (p : Int) < 8 := by omega
            have y1 : decide ((p : Int) < 8) = true := decide_eq_true y0
            obtain ⟨c, hc, hrd⟩ := HRD.out wr p HAT.out hp
            have HC := Lib.hid hc
            have HR := Lib.hid hrd
            clear hc hrd
            go_wp2_with (fail)
            refine HR.out.mono ?_
            rintro e w8 ⟨rfl, rfl⟩
            clear HR
            have q1 := (arr_cell HAT.out p hp).1
            have HOF := Lib.hid (law_of (sArr X n p))
            obtain ⟨sc, hsc⟩ : ∃ sc, sc = secS fun _ => c := ⟨_, rfl⟩
            obtain ⟨st, hst⟩ : ∃ st, st = secS fun _ => sArr X n p := ⟨_, rfl⟩
            rw [← hst] at HOF
            have HST := Lib.hid (show (sc.toList == st.toList) = true ∨ ∃ i, n ≤ i ∧ i < len ∧ (X i).toNat % 8 = p ∧ c = X i from by
              rcases HC.out with h1 | h1
              · refine .inl ?_
                rw [hsc, hst, h1]
                exact beq_self_eq_true _
              · exact .inr h1)
            rw [← hsc]
            have HSC := Lib.hid hsc
            clear hsc hst HC
            go_wp2_with (fail)
            refine (HOF.out wr).mono ?_
            rintro e w8 ⟨rfl, b8⟩
            have H8 := Lib.hid (HAT.out.step b8)
            clear b8 HAT HOF q1
            go_wp2_with (fail)
            generalize (sc.toList == st.toList) = f0 at HST ⊢
            go_loopw [14, 15] (fun fv v wz => ∃ (q : Nat) (fb : Bool), fv = .bool fb ∧ v = .int .i64 (q : Int) ∧ n ≤ q ∧ q ≤ len ∧ Holds w wz D a zc (sArr X n) ∧ (fb = true ∨ ∃ i, q ≤ i ∧ i < len ∧ (X i).toNat % 8 = p ∧ c = X i)) (fun _ v _ => match v with | .int _ k => len - k.toNat | _ => 0)
            case atStart => exact ⟨n, f0, rfl, rfl, Nat.le_refl _, hn, H8.out, HST.out⟩
            case round =>
              clear H8 HST
              obtain ⟨q, fb, rfl, rfl, hnq, hql, hat, hor⟩ := hrel
              have HAT := Lib.hid hat
              have HOR := Lib.hid hor
              clear hat hor
              have z2 : 0 ≤ (q : Int) := by omega
              by_cases hq : q < len
              · have z0 : (q : Int) < (len : Int) := by omega
                have z1 : decide ((q : Int) < (len : Int)) = true := decide_eq_true z0
                cases fb with
                | true =>
                  go_wp2_with (fail)
                  exact ⟨⟨q + 1, true, rfl, rfl, by omega, by omega, HAT.out, .inl rfl⟩, by show len - ((q : Int) + 1).toNat < len - (q : Int).toNat; omega⟩
                | false =>
                  obtain ⟨hlc, hcm, hcc⟩ := HX.out
                  obtain ⟨pb, po, rfl, hcell⟩ := hcc (by omega)
                  have hpb : pb < w.heap.size := block_lt_of_cell (hcell q hq)
                  have c1 := (World.cell?_of_block (w := w) (a := ⟨pb, po + q, none⟩) (HAT.out.below.block pb hpb)).trans (hcell q hq)
                  have hbl : (X q).toNat < 256 := (X q).toNat_lt
                  clear hcc hcell
                  have HOX := Lib.hid (law_of (X q))
                  have HOR2 := Lib.hid (show ∃ i, q ≤ i ∧ i < len ∧ (X i).toNat % 8 = p ∧ c = X i from HOR.out.resolve_left Bool.false_ne_true)
                  obtain ⟨su, hsu⟩ : ∃ su, su = secS fun _ => X q := ⟨_, rfl⟩
                  rw [← hsu] at HOX
                  have HNX := Lib.hid (show (sc.toList == su.toList) = true ∨ ∃ i, q + 1 ≤ i ∧ i < len ∧ (X i).toNat % 8 = p ∧ c = X i from by
                    obtain ⟨i, h1, h2, h3, h4⟩ := HOR2.out
                    by_cases hiq : i = q
                    · refine .inl ?_
                      rw [HSC.out, hsu, h4, hiq]
                      exact beq_self_eq_true _
                    · exact .inr ⟨i, by omega, h2, h3, h4⟩)
                  clear hsu
                  by_cases hxp : (X q).toNat % 8 = p
                  · have e5 : (((X q).toNat : Int) % 8 == (p : Int)) = true := beq_iff_eq.2 (by omega)
                    have e6 : ((X q).toNat : Int) % 8 = (p : Int) := by omega
                    go_wp2_with (fail)
                    refine (HOX.out _).mono ?_
                    rintro e w9 ⟨rfl, b9⟩
                    have H9 := Lib.hid (HAT.out.step b9)
                    clear b9 HAT HOX
                    go_wp2_with (fail)
                    exact ⟨⟨q + 1, _, rfl, rfl, by omega, by omega, H9.out, HNX.out⟩, by show len - ((q : Int) + 1).toNat < len - (q : Int).toNat; omega⟩
                  · have e5 : (((X q).toNat : Int) % 8 == (p : Int)) = false := beq_eq_false_iff_ne.2 (by omega)
                    have e6 : ¬ ((X q).toNat : Int) % 8 = (p : Int) := by omega
                    have HNY := Lib.hid (show ∃ i, q + 1 ≤ i ∧ i < len ∧ (X i).toNat % 8 = p ∧ c = X i from by
                      obtain ⟨i, h1, h2, h3, h4⟩ := HOR2.out
                      have : i ≠ q := fun e => hxp (by rw [← e]; exact h3)
                      exact ⟨i, by omega, h2, h3, h4⟩)
                    clear hxp
                    go_wp2_with (fail)
                    exact ⟨⟨q + 1, false, rfl, rfl, by omega, by omega, HAT.out, .inr HNY.out⟩, by show len - ((q : Int) + 1).toNat < len - (q : Int).toNat; omega⟩
              · have hql2 : q = len := by omega
                have z0 : ¬ (q : Int) < (len : Int) := by omega
                have z1 : decide ((q : Int) < (len : Int)) = false := decide_eq_false z0
                have hfb : fb = true := HOR.out.resolve_right (fun ⟨i, h1, h2, _⟩ => by omega)
                subst hfb
                clear hql2
                go_wp2_with (fail)
                exact ⟨⟨p + 1, rfl, by omega, HAT.out⟩, by show 8 - ((p : Int) + 1).toNat < 8 - (p : Int).toNat; omega⟩
          · have hp9 : p = 8 := by omega
            subst hp9
            go_wp2_with (fail)
            refine (HLO.out wr HAT.out).mono ?_
            rintro e w8 ⟨rfl, rfl⟩
            go_wp2_with (fail)
            exact bodyPost_ret (results_tmp rfl _ _ _) rfl ⟨rfl, HAT.out.below⟩
set_option maxRecDepth 100000 in
set_option maxHeartbeats 6400000 in
theorem walk_none (w : World) (A : Option Addr) (cap : Nat) (X : Nat → UInt8) (r : Int) (B : Option Addr) (klen kcap : Nat) (Y : Nat → Bool) (hX : BytesIn w A 0 cap X) (hkc : klen ≤ kcap)
    (hY : 0 < klen → ∃ pb po, B = some ⟨pb, po, none⟩ ∧ ∀ k, k < klen → w.cell? ⟨pb, po + k, none⟩ = some (.bool (Y k))) (hk : klen ≤ 100) :
    Calls Try.prog 3 #[.slice A 0 cap, .int .i64 r, .slice B klen kcap] w fun e w' => e = .returned (.bool true) ∧ Below w.heap.size w w' := by
  have HX := Lib.hid hX
  have HY := Lib.hid hY
  have HKC := Lib.hid hkc
  clear hX hY hkc
  have hn : 0 ≤ 0 := Nat.le_refl 0
  have x0 : ¬ 30 < (0 : Int) := by omega
  have x1 : decide (30 < (0 : Int)) = false := decide_eq_false x0
  have x2 : ¬ 100 < (klen : Int) := by omega
  have x3 : decide (100 < (klen : Int)) = false := decide_eq_false x2
  go_enter Try.func3, Try.ntmps3
  go_wp2_with (fail)
  refine (awake_any w).mono ?_
  rintro e w1 ⟨rfl, b1⟩
  have B1 := Lib.hid b1
  clear b1
  go_wp2_with (fail)
  refine (at_new w w1 B1.out 8 8 (by omega)).mono ?_
  rintro e w2 ⟨D, rfl, h2⟩
  have H2 := Lib.hid h2
  clear h2 B1
  go_wp2_with (fail)
  refine gen_world (fun W => Holds w W D w2.heap.size (freshSt 8 fun _ => 0) (sArr X 0)) (holds_new H2.out w2.heap.size rfl (sArr X 0) ((Below.refl _ _).alloc (Nat.le_refl _) _) (row_alloc _ rfl (by kernel_rfl))) ?_
  rintro w3 h3
  obtain ⟨a, hadef⟩ : ∃ a, a = w2.heap.size := ⟨_, rfl⟩
  rw [← hadef] at h3 ⊢
  clear hadef
  have H3 := Lib.hid (show ∃ x, Holds w w3 D a x (sArr X (min 0 0)) ∧ Syn X 0 0 (decide (0 < 0)) x from ⟨_, (Nat.zero_min 0).symm ▸ h3, (show decide (0 < 0) = false from decide_eq_false (by omega)).symm ▸ syn_new X 0 _ rfl⟩)
  clear h3 H2 x0 x1 x2 x3
  go_loopw [10] (fun v wr => ∃ i : Nat, v = .int .i64 (i : Int) ∧ i ≤ 0 ∧ ∃ x, Holds w wr D a x (sArr X (min i 0)) ∧ Syn X 0 i (decide (0 < i)) x) (fun v _ => match v with | .int _ k => 0 - k.toNat | _ => 0)
  case atStart => exact ⟨0, rfl, Nat.zero_le _, H3.out⟩
  case round =>
    clear H3
    obtain ⟨i, rfl, hil, x, hat, hd⟩ := hrel
    have HAT := Lib.hid hat
    have HD := Lib.hid hd
    clear hat hd
    have x2 : 0 ≤ (i : Int) := by omega
    by_cases hlt : i < 0
    · exact absurd hlt (by omega)
    · have hie : i = 0 := by omega
      have x0 : ¬ (i : Int) < (0 : Int) := by omega
      have x1 : decide ((i : Int) < (0 : Int)) = false := decide_eq_false x0
      have hkb : ∀ W : World, (∀ j, j < w.heap.size → W.heap[j]? = w.heap[j]?) → BoolsAt W (.slice B klen kcap) ((List.range klen).map Y) := fun W hW => by
        by_cases h0 : 0 < klen
        · obtain ⟨pb, po, rfl, hc⟩ := HY.out h0
          refine .inr ⟨pb, po, kcap, by rw [List.length_map, List.length_range], by rw [List.length_map, List.length_range]; exact HKC.out, fun j z hj => ?_⟩
          have hl := (List.getElem?_eq_some_iff.1 hj).1
          simp only [List.length_map, List.length_range] at hl
          have h1 := hc j hl
          rw [World.cell?_of_block (w := w) (a := ⟨pb, po + j, none⟩) (hW pb (block_lt_of_cell h1)), h1]
          simp [hl] at hj
          rw [hj]
        · have h1 : klen = 0 := by omega
          subst h1
          exact .inl ⟨rfl, B, kcap, rfl⟩
      have HCUT := Lib.hid (show ∀ (W : World) (y : St), Holds w W D a y (sArr X 0) → Syn X 0 0 true y → Calls Try.prog 9 #[.pointer (some ⟨D, 0, none⟩), .slice B klen kcap] W fun e w' => e = .returned (.tuple #[]) ∧ ∃ z, Holds w w' D a z (sArr X 0) ∧ z.n = 8 ∧ z.away = true ∧ z.loose = [] ∧ ∀ p, p < 8 → ∃ c : UInt8, (∀ j, j < 32 → sect z.come.now p j = c) ∧ (c = sArr X 0 p ∨ ∃ i, 0 ≤ i ∧ i < 0 ∧ (X i).toNat % 8 = p ∧ c = X i) from fun W y hW hs => by
        refine (disk_cut _ W D y hW.disk hs.on (by have := hs.len; omega) _ ((List.range klen).map Y) (by rw [List.length_map, List.length_range]; omega) (hkb W hW.below.block) (fun w' he => hkb w' (fun j hj => (he j (Nat.lt_of_lt_of_le hj hW.below.size) (.inl (fun hk => by omega))).trans (hW.below.block j hj)))).mono ?_
        rintro e w' hh
        obtain ⟨rfl, h3⟩ := hW.says hh
        exact ⟨rfl, _, h3, hs.n8, rfl, rfl, fun p hp => syn_read hs _ p hp⟩)
      clear hkb
      by_cases hnl : 0 = 0
      · have e0 : ((0 : Int) == (0 : Int)) = true := beq_iff_eq.2 (by omega)
        have HS := Lib.hid (show Calls Try.prog 6 #[.pointer (some ⟨D, 0, none⟩)] wr fun e w' => e = .returned (.int .i64 0) ∧ ∃ y, Holds w w' D a y (sArr X 0) ∧ Syn X 0 0 true y by
          have h6 := HAT.out
          have h7 := HD.out
          rw [hie, ← hnl, Nat.min_self] at h6
          rw [hie, ← hnl, decide_eq_false (Nat.lt_irrefl 0)] at h7
          rw [← hnl]
          exact holds_sync h6 h7 (by omega))
        clear HAT HD hie hlt hnl
        go_wp2_with (fail)
        refine HS.out.mono ?_
        rintro e w5 ⟨rfl, y, h5, d5⟩
        have HA5 := Lib.hid h5
        have HS5 := Lib.hid d5
        clear h5 d5 HS
        go_wp2_with (fail)
        refine (HCUT.out _ _ HA5.out HS5.out).mono ?_
        rintro e w6 ⟨rfl, z, h6, hz⟩
        have H6 := Lib.hid h6
        have HZ := Lib.hid hz
        clear h6 hz HCUT HA5 HS5
        go_wp2_with (fail)
        refine (disk_sync_away _ w6 D z H6.out.disk HZ.out.2.1).mono ?_
        rintro e w7 ⟨rfl, rfl⟩
        go_wp2_with (fail)
        refine (disk_come _ w6 D z H6.out.disk).mono ?_
        rintro e w7 hs7
        obtain ⟨rfl, h7⟩ := H6.out.says hs7
        have H7 := Lib.hid h7
        clear hs7 h7 H6
        have HRD := Lib.hid (show ∀ (W : World) (p : Nat), Holds w W D a z.come (sArr X 0) → p < 8 → ∃ c : UInt8, (c = sArr X 0 p ∨ ∃ i, 0 ≤ i ∧ i < 0 ∧ (X i).toNat % 8 = p ∧ c = X i) ∧ Calls Try.prog 11 #[.pointer (some ⟨D, 0, none⟩), .int .i64 (p : Int)] W fun e w' => e = .returned (.tuple #[.string (secS fun _ => c), .int .i64 0]) ∧ W = w' from fun W p hW hp => by
          obtain ⟨c, h1, h2⟩ := HZ.out.2.2.2 p hp
          have := disk_read _ W D z.come hW.disk rfl p (by show p < z.n; rw [HZ.out.1]; exact hp)
          rw [show secS (sect z.come.now p) = secS fun _ => c from secS_congr h1] at this
          exact ⟨c, h2, this⟩)
        have HLO := Lib.hid (show ∀ (W : World), Holds w W D a z.come (sArr X 0) → Calls Try.prog 12 #[.pointer (some ⟨D, 0, none⟩)] W fun e w' => e = .returned (.int .i64 0) ∧ W = w' from fun W hW => by
          have := disk_loose _ W D z.come hW.disk
          rwa [show (z.come.loose.length : Int) = 0 from by show (z.loose.length : Int) = 0; rw [HZ.out.2.2.1]; rfl] at this)
        clear HZ
        generalize z.come = zc at H7 HRD HLO
        go_wp2_with (fail)
        go_loopw [11] (fun v wr => ∃ p : Nat, v = .int .i64 (p : Int) ∧ p ≤ 8 ∧ Holds w wr D a zc (sArr X 0)) (fun v _ => match v with | .int _ k => 8 - k.toNat | _ => 0)
        case atStart => exact ⟨0, rfl, Nat.zero_le _, H7.out⟩
        case round =>
          clear H7
          obtain ⟨p, rfl, hp8, hat⟩ := hrel
          have HAT := Lib.hid hat
          clear hat
          have y2 : 0 ≤ (p : Int) := by omega
          by_cases hp : p < 8
          · have y0 : (p : Int) < 8 := by omega
            have y1 : decide ((p : Int) < 8) = true := decide_eq_true y0
            obtain ⟨c, hc, hrd⟩ := HRD.out wr p HAT.out hp
            have HC := Lib.hid hc
            have HR := Lib.hid hrd
            clear hc hrd
            go_wp2_with (fail)
            refine HR.out.mono ?_
            rintro e w8 ⟨rfl, rfl⟩
            clear HR
            have q1 := (arr_cell HAT.out p hp).1
            have HOF := Lib.hid (law_of (sArr X 0 p))
            obtain ⟨sc, hsc⟩ : ∃ sc, sc = secS fun _ => c := ⟨_, rfl⟩
            obtain ⟨st, hst⟩ : ∃ st, st = secS fun _ => sArr X 0 p := ⟨_, rfl⟩
            rw [← hst] at HOF
            have HST := Lib.hid (show (sc.toList == st.toList) = true ∨ ∃ i, 0 ≤ i ∧ i < 0 ∧ (X i).toNat % 8 = p ∧ c = X i from by
              rcases HC.out with h1 | h1
              · refine .inl ?_
                rw [hsc, hst, h1]
                exact beq_self_eq_true _
              · exact .inr h1)
            rw [← hsc]
            have HSC := Lib.hid hsc
            clear hsc hst HC
            go_wp2_with (fail)
            refine (HOF.out wr).mono ?_
            rintro e w8 ⟨rfl, b8⟩
            have H8 := Lib.hid (HAT.out.step b8)
            clear b8 HAT HOF q1
            go_wp2_with (fail)
            generalize (sc.toList == st.toList) = f0 at HST ⊢
            go_loopw [14, 15] (fun fv v wz => ∃ (q : Nat) (fb : Bool), fv = .bool fb ∧ v = .int .i64 (q : Int) ∧ 0 ≤ q ∧ q ≤ 0 ∧ Holds w wz D a zc (sArr X 0) ∧ (fb = true ∨ ∃ i, q ≤ i ∧ i < 0 ∧ (X i).toNat % 8 = p ∧ c = X i)) (fun _ v _ => match v with | .int _ k => 0 - k.toNat | _ => 0)
            case atStart => exact ⟨0, f0, rfl, rfl, Nat.le_refl _, hn, H8.out, HST.out⟩
            case round =>
              clear H8 HST
              obtain ⟨q, fb, rfl, rfl, hnq, hql, hat, hor⟩ := hrel
              have HAT := Lib.hid hat
              have HOR := Lib.hid hor
              clear hat hor
              have z2 : 0 ≤ (q : Int) := by omega
              by_cases hq : q < 0
              · exact absurd hq (by omega)
              · have hql2 : q = 0 := by omega
                have z0 : ¬ (q : Int) < (0 : Int) := by omega
                have z1 : decide ((q : Int) < (0 : Int)) = false := decide_eq_false z0
                have hfb : fb = true := HOR.out.resolve_right (fun ⟨i, h1, h2, _⟩ => by omega)
                subst hfb
                clear hql2
                go_wp2_with (fail)
                exact ⟨⟨p + 1, rfl, by omega, HAT.out⟩, by show 8 - ((p : Int) + 1).toNat < 8 - (p : Int).toNat; omega⟩
          · have hp9 : p = 8 := by omega
            subst hp9
            go_wp2_with (fail)
            refine (HLO.out wr HAT.out).mono ?_
            rintro e w8 ⟨rfl, rfl⟩
            go_wp2_with (fail)
            exact bodyPost_ret (results_tmp rfl _ _ _) rfl ⟨rfl, HAT.out.below⟩
      · exact absurd rfl hnl
theorem walk (w : World) (A : Option Addr) (len cap : Nat) (X : Nat → UInt8) (r : Int) (B : Option Addr) (klen kcap : Nat) (Y : Nat → Bool) (hX : BytesIn w A len cap X) (hkc : klen ≤ kcap)
    (hY : 0 < klen → ∃ pb po, B = some ⟨pb, po, none⟩ ∧ ∀ k, k < klen → w.cell? ⟨pb, po + k, none⟩ = some (.bool (Y k))) :
    Calls Try.prog 3 #[.slice A len cap, .int .i64 r, .slice B klen kcap] w fun e w' => e = .returned (.bool true) ∧ Below w.heap.size w w' := by
  by_cases hl : len ≤ 30
  · by_cases hk : klen ≤ 100
    · by_cases h0 : 0 < len
      · exact walk_some w A len cap X r B klen kcap Y hX hkc hY hl hk h0
      · obtain rfl : len = 0 := by omega
        exact walk_none w A cap X r B klen kcap Y hX hkc hY hk
    · have x0 : ¬ 30 < (len : Int) := by omega
      have x1 : decide (30 < (len : Int)) = false := decide_eq_false x0
      have x2 : 100 < (klen : Int) := by omega
      have x3 : decide (100 < (klen : Int)) = true := decide_eq_true x2
      clear hX hkc hY
      go_enter Try.func3, Try.ntmps3
      go_wp2_with (fail)
      refine (awake_any w).mono ?_
      rintro e w1 ⟨rfl, b1⟩
      have B1 := Lib.hid b1
      clear b1
      go_wp2_with (fail)
      exact bodyPost_ret (results_tmp rfl _ _ _) rfl ⟨rfl, B1.out⟩
  · have x2 : 30 < (len : Int) := by omega
    have x3 : decide (30 < (len : Int)) = true := decide_eq_true x2
    clear hX hkc hY
    go_enter Try.func3, Try.ntmps3
    go_wp2_with (fail)
    refine (awake_any w).mono ?_
    rintro e w1 ⟨rfl, b1⟩
    have B1 := Lib.hid b1
    clear b1
    go_wp2_with (fail)
    exact bodyPost_ret (results_tmp rfl _ _ _) rfl ⟨rfl, B1.out⟩
end Go.Proofs.Ythmpmpofhpkmjaa.diskSynced
