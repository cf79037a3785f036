/-
  The program's sums (package sha): 64 bytes go into the eight words. Conditions: the sum on its way, and the constants, stand where it looks.
-/
import Derived.Test.YtgdckpldbofgfaaDoorMg4
set_option maxRecDepth 100000
namespace Go.Proofs.YtgdckpldbofgfaaDoor
open Go.ChangeShapes Go.WideShapes Go.ChangeAt Go.RowKit Sh

/-- A sum on its way, cell by cell: eight words, 64 bytes, a count. -/
def runF (s : St) (bt : Nat → UInt8) (n : Int) : Nat → Value := fun j => if j < 8 then .int .u32 (tn (s.at j)) else if j < 72 then .int .u8 ((bt (j - 8)).toNat : Int) else .int .u64 n
/-- The constants lie in the second variable. -/
def KOn (w : World) : Prop := ∀ i, i < 64 → w.cell? ⟨1, i, none⟩ = some (.int .u32 (tn (kAt i)))
theorem KOn.lt {w : World} (h : KOn w) : 1 < w.heap.size := block_lt_of_cell (h 0 (by omega))
theorem KOn.only {w w' : World} {b : Nat} (h : KOn w) (o : Only w w' b) (hb : 1 ≠ b) : KOn w' := fun i hi => (o.cell (a := ⟨1, i, none⟩) h.lt hb).trans (h i hi)
theorem KOn.drewN {w : World} (h : KOn w) (n : Nat) : KOn (w.drewN n) := h

/-- While the rounds go: the sum on its way is as it was, the words' row is made. -/
structure Mx (w wr : World) (b g : Nat) (s : St) (bt : Nat → UInt8) (n : Int) : Prop where
  only : Only w wr b
  row : wr.rowIs b 95 73 (runF s bt n)
  tab : wr.rowIs g 120 64 (fun i => .int .u32 (tn (wAt (word bt) i)))
  kon : KOn wr
theorem Mx.drewN {w wr : World} {b g : Nat} {s : St} {bt : Nat → UInt8} {n : Int} (h : Mx w wr b g s bt n) (m : Nat) : Mx w (wr.drewN m) b g s bt n := ⟨h.only.drewN m, h.row, h.tab, h.kon.drewN m⟩

theorem index8 (t : St) (k : Nat) (hk : k < 8) (w : World) :
    (Instr.index 91 (.agg #[.int .u32 (tn t.a), .int .u32 (tn t.b), .int .u32 (tn t.c), .int .u32 (tn t.d), .int .u32 (tn t.e), .int .u32 (tn t.f), .int .u32 (tn t.g), .int .u32 (tn t.h)]) (.int .i64 (k : Int))).run Tryd.prog w
      = .ok (.int .u32 (tn (t.at k))) w := by
  match k, hk with
  | 0, _ => exact (show (_ : Result Value) = _ by kernel_rfl)
  | 1, _ => exact (show (_ : Result Value) = _ by kernel_rfl)
  | 2, _ => exact (show (_ : Result Value) = _ by kernel_rfl)
  | 3, _ => exact (show (_ : Result Value) = _ by kernel_rfl)
  | 4, _ => exact (show (_ : Result Value) = _ by kernel_rfl)
  | 5, _ => exact (show (_ : Result Value) = _ by kernel_rfl)
  | 6, _ => exact (show (_ : Result Value) = _ by kernel_rfl)
  | 7, _ => exact (show (_ : Result Value) = _ by kernel_rfl)

/-- The first k words are the sums. -/
def addF (s t : St) (bt : Nat → UInt8) (n : Int) (k : Nat) : Nat → Value := fun j => if j < 8 then .int .u32 (tn (if j < k then s.at j + t.at j else s.at j)) else if j < 72 then .int .u8 ((bt (j - 8)).toNat : Int) else .int .u64 n
structure Ax (w wr : World) (b : Nat) (s t : St) (bt : Nat → UInt8) (n : Int) (k : Nat) : Prop where
  only : Only w wr b
  row : wr.rowIs b 95 73 (addF s t bt n k)
theorem Ax.drew {w wr : World} {b : Nat} {s t : St} {bt : Nat → UInt8} {n : Int} {k : Nat} (h : Ax w wr b s t bt n k) : Ax w wr.drew b s t bt n k := ⟨h.only.drew, h.row⟩
theorem Ax.put {w wr : World} {b : Nat} {s t : St} {bt : Nat → UInt8} {n : Int} {k : Nat} (h : Ax w wr b s t bt n k) (hk : k < 8) : Ax w (wr.setCell ⟨b, k, none⟩ (.int .u32 (tn (s.at k + t.at k)))) b s t bt n (k + 1) := by
  refine ⟨h.only.setCell (.inl rfl) _, (h.row.set k _).congr fun j _ => ?_⟩
  unfold addF
  by_cases e : j = k
  · subst e; rw [if_pos rfl, if_pos hk, if_pos (by omega)]
  · rw [if_neg e]
    by_cases h8 : j < 8
    · rw [if_pos h8, if_pos h8]
      by_cases hlt : j < k
      · rw [if_pos hlt, if_pos (by omega)]
      · rw [if_neg hlt, if_neg (by omega)]
    · rw [if_neg h8, if_neg h8]

set_option maxRecDepth 100000 in
set_option maxHeartbeats 800000 in
theorem mix_any (b : Nat) (s : St) (bt : Nat → UInt8) (n : Int) (w : World) (hr : w.rowIs b 95 73 (runF s bt n)) (hk : KOn w) (hb : 1 ≠ b) :
    Calls Tryd.prog 61 #[.pointer (some ⟨b, 0, none⟩)] w fun e w' =>
      e = .returned (.tuple #[]) ∧ w'.rowIs b 95 73 (runF (mixed s bt) bt n) ∧ Only w w' b := by
  have hc : ∀ j, j < 64 → w.cell? ⟨b, 8 + j, none⟩ = some (.int .u8 ((bt j).toNat : Int)) := fun j hj => by
    have := hr.cell (i := 8 + j) (by omega)
    rw [this]
    unfold runF
    rw [if_neg (by omega), if_pos (by omega), show 8 + j - 8 = j by omega]
  have HS := Lib.hid (spread_any b bt w hc)
  clear hc
  have HR := Lib.hid hr
  have HKO := Lib.hid hk
  clear hr hk
  go_enter Tryd.func61, Tryd.ntmps61
  go_wp2_with (fail)
  refine HS.out.mono ?_
  rintro e w1 ⟨rfl, hb1⟩
  have h1 : ∀ old, (w1.alloc (.cells old 120)).heap[w1.heap.size]? = some (.cells old 120 (0, 0)) := fun old => heap_alloc_new w1 _
  have H1 := Lib.hid h1
  clear h1
  have HI := Lib.hid (show ∀ f, (Tryd.prog.info? 120).map (·.size) = some (vals 64 f).size from fun f => info_vals f (by kernel_rfl))
  have HO := Lib.hid (show (vals 64 fun i => Value.int .u32 (tn (wAt (word bt) i))).all (·.oneCell') = true from vals_one fun _ => rfl)
  have HB1 := Lib.hid hb1
  clear hb1
  go_wp2_with (with_reducible refine wpList_store_row rfl 120 _ _ rfl _ _ rfl rfl 120 _ (H1.out _) (HI.out _) ?_ HO.out ?_)
  · exact (vals_size 64 _).symm
  have hM : ∀ old : Array Value, Mx w ((w1.alloc (.cells old 120)).setRow w1.heap.size (vals 64 fun i => Value.int .u32 (tn (wAt (word bt) i)))) b w1.heap.size s bt n := fun old => by
    have hlt := HR.out.lt
    have hs := HB1.out.size
    have o1 : Only w (w1.alloc (.cells old 120)) b := (Only.of_below HB1.out b).alloc _
    have o2 := o1.setRow (g := w1.heap.size) (.inr hs) (vals 64 fun i => Value.int .u32 (tn (wAt (word bt) i)))
    refine ⟨o2, ?_, row_of_block (setRow_heap _ _ old _ _ _ (heap_alloc_new w1 _)), HKO.out.only o2 hb⟩
    have r1 : w1.rowIs b 95 73 (runF s bt n) := HR.out.of_block (HB1.out.block b hlt)
    exact row_setRow_other (r1.alloc _) (by have := r1.lt; omega)
  refine gen_world (fun wr => Mx w wr b w1.heap.size s bt n) (hM _) ?_
  clear hM H1 HI HO HS
  intro wr hM
  have c0 : wr.cell? ⟨b, 0, none⟩ = some (.int .u32 (tn s.a)) := hM.row.cell (i := 0) (by omega)
  have c1 : wr.cell? ⟨b, 1, none⟩ = some (.int .u32 (tn s.b)) := hM.row.cell (i := 1) (by omega)
  have c2 : wr.cell? ⟨b, 2, none⟩ = some (.int .u32 (tn s.c)) := hM.row.cell (i := 2) (by omega)
  have c3 : wr.cell? ⟨b, 3, none⟩ = some (.int .u32 (tn s.d)) := hM.row.cell (i := 3) (by omega)
  have c4 : wr.cell? ⟨b, 4, none⟩ = some (.int .u32 (tn s.e)) := hM.row.cell (i := 4) (by omega)
  have c5 : wr.cell? ⟨b, 5, none⟩ = some (.int .u32 (tn s.f)) := hM.row.cell (i := 5) (by omega)
  have c6 : wr.cell? ⟨b, 6, none⟩ = some (.int .u32 (tn s.g)) := hM.row.cell (i := 6) (by omega)
  have c7 : wr.cell? ⟨b, 7, none⟩ = some (.int .u32 (tn s.h)) := hM.row.cell (i := 7) (by omega)
  go_wp2
  go_quiet (fail)
  go_wp2
  go_quiet (fail)
  go_wp2
  refine gen_world (fun wr => Mx w wr b w1.heap.size s bt n) ((hM.drewN _).drewN _) ?_
  clear hM c0 c1 c2 c3 c4 c5 c6 c7
  intro wr hM
  have hlt1 := HR.out.lt
  clear HR HKO
  go_loopw [3, 4, 5, 6, 7, 8, 9, 10, 60] (fun v3 v4 v5 v6 v7 v8 v9 v10 i wr => ∃ k : Nat, k ≤ 64 ∧ i = .int .i64 k ∧ Mx w wr b w1.heap.size s bt n ∧
      v3 = .int .u32 (tn (runs (wAt (word bt)) s k).a) ∧ v4 = .int .u32 (tn (runs (wAt (word bt)) s k).b) ∧ v5 = .int .u32 (tn (runs (wAt (word bt)) s k).c) ∧ v6 = .int .u32 (tn (runs (wAt (word bt)) s k).d) ∧
      v7 = .int .u32 (tn (runs (wAt (word bt)) s k).e) ∧ v8 = .int .u32 (tn (runs (wAt (word bt)) s k).f) ∧ v9 = .int .u32 (tn (runs (wAt (word bt)) s k).g) ∧ v10 = .int .u32 (tn (runs (wAt (word bt)) s k).h))
    (fun _ _ _ _ _ _ _ _ i _ => 64 - (intOf i).toNat)
  case atStart => exact ⟨0, by omega, rfl, hM, rfl, rfl, rfl, rfl, rfl, rfl, rfl, rfl⟩
  case round =>
    clear hM
    obtain ⟨k, hk, rfl, hM, rfl, rfl, rfl, rfl, rfl, rfl, rfl, rfl⟩ := hrel
    have HT := Lib.hid (show runs (wAt (word bt)) s (k + 1) = rnd (kAt k) (wAt (word bt) k) (runs (wAt (word bt)) s k) from rfl)
    have HTk := Lib.hid (show k = 64 → mixed s bt = plusSt s (runs (wAt (word bt)) s k) from fun e => by rw [e]; rfl)
    generalize runs (wAt (word bt)) s k = t at HT HTk ⊢
    by_cases hlt : k < 64
    · have cK := hM.kon k hlt
      have cW := hM.tab.cell hlt
      have lk : 0 ≤ (k : Int) := by omega
      have mk : (k : Int) < 64 := by omega
      have kx := xor_u32
      have kn := and_u32
      have ka := add_u32
      have km := add_u32m
      have kt := not_u32 t.e
      go_wp2
      go_quiet ((go_at_call 71; exact quiet_here (turned_any _ _ _ (by omega) (by omega))))
      have hM2 := hM.drewN nq
      clear cK cW hM kt
      generalize wr.drewN nq = wx at hM2 ⊢
      go_wp2_with (go_at_call 71; refine (turned_any _ _ _ (by omega) (by omega)).mono ?_; rintro e w' ⟨rfl, rfl⟩)
      go_roundw
      case rel => exact ⟨k + 1, by omega, by go_num, hM2, by rw [HT.out]; rfl, by rw [HT.out]; rfl, by rw [HT.out]; rfl, by rw [HT.out]; rfl, by rw [HT.out]; rfl, by rw [HT.out]; rfl, by rw [HT.out]; rfl, by rw [HT.out]; rfl⟩
      case measure => simp [intOf]; omega
    · have HK := Lib.hid (show k = 64 by omega)
      have hA : Ax w wr b s t bt n 0 := ⟨hM.only, hM.row.congr fun j _ => by unfold runF addF; simp⟩
      have hI := fun k hk => index8 t k hk
      have HI := Lib.hid hI
      clear hI hM
      go_wp2
      go_loopw [132] (fun i wr => ∃ k : Nat, k ≤ 8 ∧ i = .int .i64 k ∧ Ax w wr b s t bt n k) (fun i _ => 8 - (intOf i).toNat)
      case atStart => exact ⟨0, by omega, rfl, hA⟩
      case round =>
        clear hA hlt hk
        obtain ⟨k, hk, rfl, hA⟩ := hrel
        by_cases hlt : k < 8
        · have hix := HI.out k hlt
          have lk : 0 ≤ (k : Int) := by omega
          have mk : (k : Int) < 8 := by omega
          have c0 : wr.cell? ⟨b, k, none⟩ = some (.int .u32 (tn (s.at k))) := by
            have := hA.row.cell (i := k) (by omega)
            unfold addF at this
            rwa [if_pos hlt, if_neg (by omega)] at this
          have ka := add_u32
          go_wp2
          go_still_tail 11, (by kernel_rfl)
          have hA2 := hA.drew
          clear hA c0
          refine gen_list (fun wr => Ax w wr b s t bt n k) hA2 ?_
          clear hA2
          intro wx hA
          have c0 : wx.cell? ⟨b, k, none⟩ = some (.int .u32 (tn (s.at k))) := by
            have := hA.row.cell (i := k) (by omega)
            unfold addF at this
            rwa [if_pos hlt, if_neg (by omega)] at this
          have f0 := hA.row.frozen k
          go_wp2
          go_roundw
          case rel => exact ⟨k + 1, by omega, by go_num, hA.put hlt⟩
          case measure => simp [intOf]; omega
        · have HK8 := Lib.hid (show k = 8 by omega)
          go_wp2
          go_end0
          refine ⟨rfl, hA.row.congr fun j _ => ?_, hA.only⟩
          have e1 := HTk.out HK.out
          have e2 := HK8.out
          unfold addF runF
          by_cases h8 : j < 8
          · rw [if_pos h8, if_pos h8, if_pos (by omega), e1, plusSt_at]
          · rw [if_neg h8, if_neg h8]
end Go.Proofs.YtgdckpldbofgfaaDoor
