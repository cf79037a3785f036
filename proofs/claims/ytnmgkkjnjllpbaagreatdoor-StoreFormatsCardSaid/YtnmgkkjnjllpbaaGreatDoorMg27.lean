/-
  The document's own sums: Of: the walk. Condition: at most a hundred thousand bytes.
-/
import Derived.Test.YtnmgkkjnjllpbaaGreatDoorMg26
import Derived.Test.YtnmgkkjnjllpbaaGreatDoorMg5
set_option maxRecDepth 100000
namespace Go.Proofs.YtnmgkkjnjllpbaaGreatDoor
open Go.ChangeShapes Go.WideShapes Go.ChangeAt Go.RowKit Sh

/-- What holds while the bytes grow: nothing that was there has turned, the answer's row is empty, v owns m. -/
structure Ow (w wr : World) (v : Value) (m : List UInt8) : Prop where
  below : Below w.heap.size w wr
  size : w.heap.size + 1 ≤ wr.heap.size
  res : wr.rowIs w.heap.size 72 32 (fun _ => .int .u8 0)
  row : BRow wr (w.heap.size + 1) v m
theorem Ow.more {w wr w' : World} {v v' : Value} {m m' : List UInt8} (h : Ow w wr v m) (o : Obj) (hg : (wr.alloc o).grownBy w' v.ownBlock) (hr : BRow w' (w.heap.size + 1) v' m') : Ow w w' v' m' := by
  have hs := h.size
  obtain ⟨g, cap, rfl, hbg, hlt, _⟩ := h.row.form
  have hk : ∀ k, (Value.slice (some ⟨g, 0, none⟩) m.length cap).ownBlock = some k → w.heap.size ≤ k := fun k hk => by simp [Value.ownBlock] at hk; omega
  have hres := h.res.alloc o
  refine ⟨(h.below.alloc (by omega) o).grown hg (by simp; omega) hk, ?_, ?_, hr⟩
  · have := hg.size; simp at this; omega
  · obtain ⟨c, hc, r⟩ := hres
    refine ⟨c, ?_, r⟩
    rw [hg.block w.heap.size (by simp; omega) (by simp [Value.ownBlock]; omega)]
    exact hc

/-- What holds while the blocks go in: the bytes are there, the eight words lie in a row of their own. -/
structure Hw (w wr : World) (v : Value) (m : List UInt8) (g : Nat) (s : St) : Prop where
  ow : Ow w wr v m
  hrow : wr.rowIs g 123 8 (st6 s)
  apart : w.heap.size < g ∧ ∀ k, v.ownBlock = some k → k < g
theorem Hw.drew {w wr : World} {v : Value} {m : List UInt8} {g : Nat} {s : St} (h : Hw w wr v m g s) : Hw w wr.drew v m g s :=
  ⟨⟨below_drewN h.ow.below 1, h.ow.size, h.ow.res, h.ow.row⟩, h.hrow, h.apart⟩
theorem Hw.below {w wr w' : World} {v : Value} {m : List UInt8} {g : Nat} {s : St} (h : Hw w wr v m g s) (hb : Below wr.heap.size wr w') : Hw w w' v m g s := by
  have hs := h.ow.size
  have hl := h.hrow.lt
  exact ⟨⟨h.ow.below.trans (hb.mono (by omega)), by have := hb.size; omega, h.ow.res.of_block (hb.block _ (by omega)), h.ow.row.below hb⟩, h.hrow.of_block (hb.block _ hl), h.apart⟩
theorem Hw.put {w wr : World} {v : Value} {m : List UInt8} {g : Nat} {s : St} (h : Hw w wr v m g s) (s' : St) : Hw w (wr.setRow g (vals 8 (st6 s'))) v m g s' := by
  have ha := h.apart
  refine ⟨⟨below_setRow' h.ow.below (by omega) _, by simpa using h.ow.size, row_setRow_other h.ow.res (by omega), ?_⟩, row_setRow h.hrow, ha⟩
  obtain ⟨g', cap, cur, fz, rfl, hb, hg, r⟩ := h.ow.row
  have := ha.2 g' rfl
  exact ⟨g', cap, cur, fz, rfl, hb, (setRow_other wr g g' _ (by omega)).trans hg, r⟩

/-- The k-th block of a text. -/
def blk (m : List UInt8) (k : Nat) : ByteArray := ⟨((List.range 64).map fun j => byteAt m (64 * k + j)).toArray⟩
theorem blk_size (m : List UInt8) (k : Nat) : (blk m k).size = 64 := by unfold blk; simp [ByteArray.size]
theorem blk_mixed (m : List UInt8) (k : Nat) (s : St) : mixed s (byteAt (blk m k).data.toList) = mixed s (fun j => byteAt m (64 * k + j)) := by
  apply mixed_congr
  intro i hi
  unfold blk
  simp [byteAt, hi]
theorem hw_cells {w wr : World} {g cap n : Nat} {m : List UInt8} {gx : Nat} {s : St} (h : Hw w wr (.slice (some ⟨g, 0, none⟩) n cap) m gx s) : n = m.length ∧ n ≤ cap ∧ ∀ j, j < m.length → wr.cell? ⟨g, j, none⟩ = some (.int .u8 ((byteAt m j).toNat : Int)) := by
  obtain ⟨g', cap', cur, fz, e, hb, hg, hfz, hc, r⟩ := h.ow.row
  injection e with e1 e2 e3
  injection e1 with e1
  injection e1 with e1 _ _
  subst e1
  refine ⟨e2, by omega, fun j hj => ?_⟩
  rw [cell_of_row wr g j cur _ fz hg]
  exact r.2.2 j hj

/-- What holds while the answer's bytes are made: the words are there, the first n bytes too. -/
structure Od (w wr : World) (gx go : Nat) (s : St) (n : Nat) : Prop where
  below : Below w.heap.size w wr
  res : wr.rowIs w.heap.size 72 32 (fun _ => .int .u8 0)
  hrow : wr.rowIs gx 123 8 (st6 s)
  out : wr.rowIs go 72 32 (fun j => .int .u8 (if j < n then ((sumByte s j).toNat : Int) else 0))
  apart : w.heap.size < gx ∧ gx < go
theorem Od.put {w wr : World} {gx go : Nat} {s : St} {n : Nat} (h : Od w wr gx go s n) {x : Int} (hx : x = ((sumByte s n).toNat : Int)) : Od w (wr.setCell ⟨go, n, none⟩ (.int .u8 x)) gx go s (n + 1) := by
  have ha := h.apart
  refine ⟨h.below.setCell (by show w.heap.size ≤ go; omega) _, h.res.setOther (by show w.heap.size ≠ go; omega) _, h.hrow.setOther (by show gx ≠ go; omega) _, (h.out.set n _).congr fun j _ => ?_, ha⟩
  by_cases e : j = n
  · subst e; rw [if_pos rfl, hx, if_pos (by omega)]
  · rw [if_neg e]
    by_cases hlt : j < n
    · rw [if_pos hlt, if_pos (by omega)]
    · rw [if_neg hlt, if_neg (by omega)]
theorem sum_byte6 (s : St) (n : Nat) : t6 (zx (s.at (n / 4))) / 2 ^ (24 - 8 * (n % 4)) % 256 = ((sumByte s n).toNat : Int) := by
  unfold sumByte
  rw [tn_zx, UInt8.toNat_ofNat']
  unfold tn
  simp
theorem hi32 : ∀ f, (Tryz.prog.info? 72).map (·.size) = some (vals 32 f).size := fun f => info_vals f (by kernel_rfl)

theorem be8_take (n m : Nat) (h : m < 8) : (be8 n).take (m + 1) = (be8 n).take m ++ [UInt8.ofNat (n / 2 ^ (8 * (7 - m)))] := by
  rw [List.take_add_one]
  congr 1
  unfold be8
  rw [List.getElem?_map, List.getElem?_range h]
  rfl
theorem count_byte (n m : Nat) : (8 * (n : Int)) / 2 ^ (8 * (7 - m)) % 256 = (((UInt8.ofNat (8 * n / 2 ^ (8 * (7 - m)))).toNat : Nat) : Int) := by
  rw [UInt8.toNat_ofNat']
  simp

set_option maxRecDepth 100000 in
set_option maxHeartbeats 1600000 in
theorem refOf_any (q : ByteArray) (w : World) (hq : q.size < 100000) :
    Calls Tryz.prog 46 #[.string q] w fun e w' => e = .returned (.agg (digV q.data.toList)) ∧ Below w.heap.size w w' := by
  obtain ⟨l, hl⟩ : ∃ l, q.data.toList = l := ⟨_, rfl⟩
  have hll : l.length = q.size := by rw [← hl]; rfl
  have e0 : IntKind.i64.wrap (8 * (q.size : Int)) = 8 * (q.size : Int) := IntWalk.i64_in _ (by omega)
  have e1 : IntKind.u64.wrap (8 * (q.size : Int)) = 8 * (q.size : Int) := by rw [wrap_u64']; omega
  have HQ := Lib.hid hq
  have HL := Lib.hid hl
  have HLL := Lib.hid hll
  rw [hl]
  clear hl hll hq
  go_enter Tryz.func46, Tryz.ntmps46
  go_wp2_with (first
    | (refine BRow.wpList_text (base := w.heap.size + 1) rfl (.tmp 14) rfl q rfl (by have := HQ.out; unfold maxLen; omega) (by simp) l HL.out ?_; intro g cap w1 hrow hgr)
    | (at_builtin; refine BRow.wpList_more (base := w.heap.size + 1) rfl (.tmp 16) (.tmp 17) rfl rfl (hrow.alloc _) (by have := HQ.out; have := HLL.out; omega) (by have := hgr.size; simp at this ⊢; omega) w1.heap.size 1 128 rfl (by simp) ?_; intro g2 cap2 w2 hrow2 hgr2; clear e0 e1))
  have hO : Ow w w2 (.slice (some ⟨g2, 0, none⟩) (l.length + 1) cap2) (l ++ [128]) := by
    have hs1 := hgr.size
    have h1 : Ow w w1 (.slice (some ⟨g, 0, none⟩) l.length cap) l := by
      refine ⟨((Below.refl _ _).alloc (Nat.le_refl _) _).grown hgr (by simp) (fun k hk => by cases hk), by simpa using hs1, ?_, hrow⟩
      obtain ⟨c, hc, r⟩ := row_alloc (w := w) (t := 72) (n := 32) (f := fun _ => .int .u8 0) w.heap.size rfl rfl
      refine ⟨c, ?_, r⟩
      rw [hgr.block w.heap.size (by simp) (by simp)]
      exact hc
    exact h1.more _ hgr2 hrow2
  clear hrow hgr hrow2 hgr2
  go_loopw [4] (fun v wr => ∃ (z g cap : Nat), z ≤ zeros l.length ∧ v = .slice (some ⟨g, 0, none⟩) (l.length + 1 + z) cap ∧ Ow w wr v (l ++ [128] ++ List.replicate z 0)) (fun v _ => zeros l.length + l.length + 1 - lenV v)
  case atStart => exact ⟨0, g2, cap2, Nat.zero_le _, rfl, by simpa using hO⟩
  case round =>
    clear hO
    obtain ⟨z, g, cap, hz, rfl, hO⟩ := hrel
    by_cases hlt : z < zeros l.length
    · have ht : (((l.length : Int) + 1 + (z : Int)) % 64 != 56) = true := by unfold zeros at hlt hz; rw [bne_iff_ne]; omega
      go_wp2_with (at_builtin; refine BRow.wpList_more (base := w.heap.size + 1) rfl (.tmp 23) (.tmp 24) rfl rfl (hO.row.alloc _) (by have := HQ.out; have := HLL.out; unfold zeros at hlt; simp; omega) (by have := hO.size; simp; omega) wr.heap.size 1 0 rfl (by simp) ?_; intro g5 cap5 w5 hrow5 hgr5)
      go_roundw
      case rel =>
        refine ⟨z + 1, g5, cap5, by omega, by simp; omega, ?_⟩
        have h := hO.more _ hgr5 hrow5
        have e : l ++ [128] ++ List.replicate z 0 ++ [(0 : UInt8)] = l ++ [128] ++ List.replicate (z + 1) 0 := by rw [List.replicate_succ']; simp
        rw [e] at h
        simpa using h
      case measure => simp [lenV]; omega
    · have HZ := Lib.hid (show z = zeros l.length by omega)
      have ht : (((l.length : Int) + 1 + (z : Int)) % 64 != 56) = false := by
        have := HZ.out; unfold zeros at this
        have h : ((l.length : Int) + 1 + (z : Int)) % 64 = 56 := by omega
        rw [h]; rfl
      go_wp2
      go_loopw [4, 5] (fun v i wr => ∃ (m g cap : Nat), m ≤ 8 ∧ i = .int .i64 (7 - (m : Int)) ∧ v = .slice (some ⟨g, 0, none⟩) (l.length + 1 + z + m) cap ∧ Ow w wr v (l ++ [128] ++ List.replicate z 0 ++ (be8 (8 * l.length)).take m)) (fun _ i _ => (intOf i + 1).toNat)
      case atStart => exact ⟨0, g, cap, Nat.zero_le _, rfl, rfl, by simpa using hO⟩
      case round =>
        clear hO hz hlt ht
        obtain ⟨m, g3, cap3, hm, rfl, rfl, hO⟩ := hrel
        by_cases hlt : m < 8
        · have ht : (0 : Int) ≤ 7 - (m : Int) := by omega
          have e0 : IntKind.i64.wrap (8 * (7 - (m : Int))) = 8 * (7 - (m : Int)) := IntWalk.i64_in _ (by omega)
          have l0 : 0 ≤ 8 * (7 - (m : Int)) := by omega
          have m0 : 8 * (7 - (m : Int)) < 64 := by omega
          have n0 : (8 * (7 - (m : Int))).toNat = 8 * (7 - m) := by omega
          have HB := Lib.hid (show (8 * (q.size : Int)) / 2 ^ (8 * (7 - m)) % 256 = (((UInt8.ofNat (8 * l.length / 2 ^ (8 * (7 - m)))).toNat : Nat) : Int) by rw [← HLL.out]; exact count_byte _ _)
          have HE := Lib.hid (be8_take (8 * l.length) m hlt)
          go_wp2_with (at_builtin; refine BRow.wpList_more (base := w.heap.size + 1) rfl (.tmp 30) (.tmp 36) rfl rfl (hO.row.alloc _) (by have := HQ.out; have := HLL.out; have := HZ.out; unfold zeros at this; simp; omega) (by have := hO.size; simp; omega) wr.heap.size 1 (UInt8.ofNat (8 * l.length / 2 ^ (8 * (7 - m)))) rfl (by rw [← HB.out]; simp) ?_; intro g5 cap5 w5 hrow5 hgr5)
          go_roundw
          case rel =>
            refine ⟨m + 1, g5, cap5, by omega, by go_num, by simp [be8_length]; omega, ?_⟩
            have h := hO.more _ hgr5 hrow5
            have e : l ++ [128] ++ List.replicate z 0 ++ (be8 (8 * l.length)).take m ++ [UInt8.ofNat (8 * l.length / 2 ^ (8 * (7 - m)))] = l ++ [128] ++ List.replicate z 0 ++ (be8 (8 * l.length)).take (m + 1) := by rw [HE.out]; simp
            rw [e] at h
            simpa using h
          case measure => simp [intOf]; omega
        · have HM := Lib.hid (show m = 8 by omega)
          have hP : Ow w wr (.slice (some ⟨g3, 0, none⟩) (l.length + 1 + z + m) cap3) (padded l) := by
            have e1 := HM.out
            have e2 := HZ.out
            subst e1
            have e : l ++ [128] ++ List.replicate z 0 ++ (be8 (8 * l.length)).take 8 = padded l := by
              unfold padded
              rw [← e2, List.take_of_length_le (by rw [be8_length]; exact Nat.le_refl _)]
            rw [e] at hO
            exact hO
          clear hO
          have HPL := Lib.hid (show (padded l).length = l.length + 1 + z + m by rw [padded_length, ← HZ.out, HM.out]; omega)
          go_wp2_with (fail)
          have hH : ∀ c, c = vals 8 (st6 iv) → Hw w (wr.alloc (.cells c 123)) (.slice (some ⟨g3, 0, none⟩) (l.length + 1 + z + m) cap3) (padded l) wr.heap.size iv := fun c hc => by
            have hs := hP.size
            refine ⟨⟨hP.below.alloc (by omega) _, by simp; omega, hP.res.alloc _, hP.row.alloc _⟩, row_alloc _ rfl hc, by omega, fun k hk => ?_⟩
            obtain ⟨g', cap', e, hb, hlt, _⟩ := hP.row.form
            injection e with e _ _
            simp [Value.ownBlock] at hk
            injection e with e
            injection e with e _ _
            omega
          refine gen_world (fun wx => Hw w wx (.slice (some ⟨g3, 0, none⟩) (l.length + 1 + z + m) cap3) (padded l) wr.heap.size iv) (hH _ (by kernel_rfl)) ?_
          have hgl : wr.heap.size = wr.heap.size := rfl
          clear hH hP hlt hm hgl
          intro wx hH
          generalize hgx : wr.heap.size = gx at hH ⊢
          obtain ⟨N, hN⟩ : ∃ N, (padded l).length = 64 * N := ⟨(padded l).length / 64, by have := padded_mod l; omega⟩
          have hNb : N < 10000 := by have := padded_length l; have := HQ.out; have := HLL.out; unfold zeros at *; omega
          have HN := Lib.hid hN
          have hpl := HPL.out
          rw [hN] at hpl
          have HPN := Lib.hid hpl
          clear hN hpl hgx
          go_loopw [7] (fun i wr => ∃ k : Nat, k ≤ N ∧ i = .int .i64 (64 * (k : Int)) ∧ Hw w wr (.slice (some ⟨g3, 0, none⟩) (l.length + 1 + z + m) cap3) (padded l) gx (blocks (byteAt (padded l)) k)) (fun i _ => 64 * N - (intOf i).toNat)
          case atStart => exact ⟨0, Nat.zero_le _, rfl, hH⟩
          case round =>
            clear hH
            obtain ⟨k, hk, rfl, hH⟩ := hrel
            have HT := Lib.hid (show blocks (byteAt (padded l)) (k + 1) = mixed (blocks (byteAt (padded l)) k) (fun j => byteAt (padded l) (64 * k + j)) from rfl)
            have HS := Lib.hid (show k = N → sumSt l = blocks (byteAt (padded l)) k from fun e => by unfold sumSt; rw [HN.out, e]; congr 1; omega)
            generalize blocks (byteAt (padded l)) k = s at HT HS hH ⊢
            by_cases hlt : k < N
            · obtain ⟨hln, hlc, hcell⟩ := hw_cells hH
              have hp := HPN.out
              have ht : 64 * (k : Int) < (l.length : Int) + 1 + (z : Int) + (m : Int) := by omega
              have e0 : IntKind.i64.wrap (64 * (k : Int) + 64) = 64 * (k : Int) + 64 := IntWalk.i64_in _ (by omega)
              have l0 : 0 ≤ 64 * (k : Int) := by omega
              have l1 : 64 * (k : Int) ≤ 64 * (k : Int) + 64 := by omega
              have l2 : 64 * (k : Int) + 64 ≤ (cap3 : Int) := by omega
              have n0 : (64 * (k : Int)).toNat = 64 * k := by omega
              have n1 : (64 * (k : Int) + 64).toNat = 64 * k + 64 := by omega
              have c0 : wr.cell? ⟨gx, 0, none⟩ = some (.int .u64 (t6 (zx s.a))) := hH.hrow.cell (i := 0) (by omega)
              have c1 : wr.cell? ⟨gx, 1, none⟩ = some (.int .u64 (t6 (zx s.b))) := hH.hrow.cell (i := 1) (by omega)
              have c2 : wr.cell? ⟨gx, 2, none⟩ = some (.int .u64 (t6 (zx s.c))) := hH.hrow.cell (i := 2) (by omega)
              have c3 : wr.cell? ⟨gx, 3, none⟩ = some (.int .u64 (t6 (zx s.d))) := hH.hrow.cell (i := 3) (by omega)
              have c4 : wr.cell? ⟨gx, 4, none⟩ = some (.int .u64 (t6 (zx s.e))) := hH.hrow.cell (i := 4) (by omega)
              have c5 : wr.cell? ⟨gx, 5, none⟩ = some (.int .u64 (t6 (zx s.f))) := hH.hrow.cell (i := 5) (by omega)
              have c6 : wr.cell? ⟨gx, 6, none⟩ = some (.int .u64 (t6 (zx s.g))) := hH.hrow.cell (i := 6) (by omega)
              have c7 : wr.cell? ⟨gx, 7, none⟩ = some (.int .u64 (t6 (zx s.h))) := hH.hrow.cell (i := 7) (by omega)
              have hconv : ∀ c, (convert 40 9 (.slice (some ⟨g3, 64 * k, none⟩) 64 c)).run Tryz.prog wr.drew = .ok (.string (blk (padded l) k)) wr.drew := fun c =>
                run_bytes_string wr.drew ⟨g3, 64 * k, none⟩ 64 c (fun j => byteAt (padded l) (64 * k + j)) (fun j hj => by rw [Addr.add_lit]; exact hcell _ (by have := HN.out; omega))
              have hconv' := hconv
              unfold World.drew at hconv'
              have hne : ¬ cap3 = 64 * k := by omega
              clear hp hcell hln hlc
              go_wp2
              go_still_tail 7, (by kernel_rfl)
              change wpList _ _ _ _ _ wr.drew
              have hH2 := hH.drew
              clear hH hconv hconv' hne c0 c1 c2 c3 c4 c5 c6 c7 e0 l0 l1 l2 n0 n1
              generalize wr.drew = wb at hH2 ⊢
              go_wp2_with (fail)
              refine (block_any s (blk (padded l) k) _ (blk_size _ _)).mono ?_
              rintro e w5 ⟨rfl, hb5⟩
              have hH3 := hH2.below hb5
              clear hH2 hb5
              rw [blk_mixed, ← HT.out]
              have H1 := Lib.hid (row_block hH3.hrow)
              have HO := Lib.hid (st6_one (blocks (byteAt (padded l)) (k + 1)))
              have HZ8 := Lib.hid (show (vals 8 (st6 s)).size = (vals 8 (st6 (blocks (byteAt (padded l)) (k + 1)))).size by rw [vals_size, vals_size])
              have hH4 := hH3.put (blocks (byteAt (padded l)) (k + 1))
              have HH := Lib.hid hH4
              clear hH3 hH4
              go_wp2_with (with_reducible refine wpList_store_row rfl 123 _ _ rfl _ _ rfl rfl 123 _ H1.out (hi8 _) HZ8.out HO.out ?_)
              go_roundw
              case rel => exact ⟨k + 1, by omega, by go_num, HH.out⟩
              case measure => simp [intOf]; omega
            · have HE := Lib.hid (HS.out (show k = N by omega))
              have ht : (l.length : Int) + 1 + (z : Int) + (m : Int) ≤ 64 * (k : Int) := by have := HPN.out; omega
              have hz32 : (vals 32 fun _ => Value.int .u8 0).all (·.oneCell') = true := vals_one fun _ => rfl
              have HZ32 := Lib.hid hz32
              have HB32 := Lib.hid (show Tryz.prog.built 72 [] = some (vals 32 fun _ => .int .u8 0) by kernel_rfl)
              have HNW := Lib.hid (show ∀ o, (wr.alloc o).heap[wr.heap.size]? = some o from fun o => heap_alloc_new wr o)
              have hD : ∀ c, Od w ((wr.alloc (.cells c 72)).setRow wr.heap.size (vals 32 fun _ => .int .u8 0)) gx wr.heap.size s 0 := fun c => by
                have hs := hH.ow.size
                have hl := hH.hrow.lt
                have ha := hH.apart
                refine ⟨below_setRow' (hH.ow.below.alloc (by omega) _) (by omega) _, row_setRow_other (hH.ow.res.alloc _) (by omega), row_setRow_other (hH.hrow.alloc _) (by omega), (row_of_block (setRow_heap _ _ c _ _ _ (heap_alloc_new wr _))).congr fun j _ => ?_, by omega, hl⟩
                rw [if_neg (Nat.not_lt_zero j)]
              have HD := Lib.hid hD
              clear hD hz32
              go_wp2_with (first
                | (refine wpList_build_to rfl 72 #[] rfl [] rfl _ HB32.out ?_)
                | (with_reducible refine wpList_store_row rfl 72 _ _ rfl _ _ rfl rfl 72 _ (HNW.out _) (hi32 _) ?_ HZ32.out ?_))
              · rw [vals_size]; rfl
              refine gen_world (fun wx => Od w wx gx wr.heap.size s 0) (HD.out _) ?_
              clear HD HNW HB32 HZ32 hH ht
              intro wy hD
              generalize wr.heap.size = go at hD ⊢
              go_loopw [9] (fun i wx => ∃ n : Nat, n ≤ 32 ∧ i = .int .i64 n ∧ Od w wx gx go s n) (fun i _ => 32 - (intOf i).toNat)
              case atStart => exact ⟨0, by omega, rfl, hD⟩
              case round =>
                clear hD
                obtain ⟨n, hn, rfl, hD⟩ := hrel
                by_cases hlt : n < 32
                · have c0 : wr.cell? ⟨gx, n / 4, none⟩ = some (.int .u64 (t6 (zx (s.at (n / 4))))) := hD.hrow.cell (i := n / 4) (by omega)
                  have HB := Lib.hid (sum_byte6 s n)
                  have l0 : 0 ≤ (n : Int) / 4 := by omega
                  have m0 : (n : Int) / 4 < 8 := by omega
                  have n0 : ((n : Int) / 4).toNat = n / 4 := by omega
                  have e0 : IntKind.i64.wrap (8 * ((n : Int) % 4)) = 8 * ((n : Int) % 4) := IntWalk.i64_in _ (by omega)
                  have e1 : IntKind.i64.wrap (24 - 8 * ((n : Int) % 4)) = 24 - 8 * ((n : Int) % 4) := IntWalk.i64_in _ (by omega)
                  have l1 : 0 ≤ 24 - 8 * ((n : Int) % 4) := by omega
                  have m1 : 24 - 8 * ((n : Int) % 4) < 64 := by omega
                  have n1 : (24 - 8 * ((n : Int) % 4)).toNat = 24 - 8 * (n % 4) := by omega
                  have lk : 0 ≤ (n : Int) := by omega
                  have mk : (n : Int) < 32 := by omega
                  have r0 := hD.out.cell hlt
                  have f0 := hD.out.frozen n
                  go_wp2
                  go_roundw
                  case rel => exact ⟨n + 1, by omega, by go_num, hD.put HB.out⟩
                  case measure => simp [intOf]; omega
                · have HN32 := Lib.hid (show n = 32 by omega)
                  have hout : wr.rowIs go 72 32 (fun j => .int .u8 ((sumByte (sumSt l) j).toNat : Int)) := hD.out.congr fun j hj => by rw [if_pos (by have := HN32.out; omega), HE.out]
                  have hbl := below_setRow' hD.below (Nat.le_refl _) (vals 32 fun j => .int .u8 ((sumByte (sumSt l) j).toNat : Int))
                  have H1 := Lib.hid (row_block hout)
                  have H2 := Lib.hid (row_block hD.res)
                  have H3 := Lib.hid (row_block (row_setRow (g := fun j => .int .u8 ((sumByte (sumSt l) j).toNat : Int)) hD.res))
                  have HZo := Lib.hid (show (vals 32 fun _ => Value.int .u8 0).size = (vals 32 fun j => Value.int .u8 ((sumByte (sumSt l) j).toNat : Int)).size by rw [vals_size, vals_size])
                  have HO2 := Lib.hid (show (vals 32 fun j => Value.int .u8 ((sumByte (sumSt l) j).toNat : Int)).all (·.oneCell') = true from vals_one fun _ => rfl)
                  have HBL := Lib.hid hbl
                  clear hD hout hbl
                  go_wp2_with (first
                    | (with_reducible refine wpList_load_row rfl 72 _ rfl _ rfl 72 _ _ _ H1.out Tryz.underlying72 rfl (hi32 _) ?_)
                    | (with_reducible refine wpList_store_row rfl 72 _ _ rfl _ _ rfl rfl 72 _ H2.out (hi32 _) HZo.out HO2.out ?_))
                  refine bodyPost_ret (results_cell_row rfl _ _ _ 72 _ _ _ rfl H3.out Tryz.underlying72 rfl (hi32 _)) rfl ?_
                  exact ⟨rfl, HBL.out⟩
end Go.Proofs.YtnmgkkjnjllpbaaGreatDoor
