/-
  The program's sums (package sha): 64 bytes go into the eight words. Conditions: the sum on its way, and the constants, stand where it looks.
  The builtin copy into a row told by a function: out of a string, out of a row of bytes. No program here. No conditions but that the row is long enough.
  The program's sums (package sha): parts go into the sum on its way. Conditions: the sum on its way, the constants and the parts stand where it looks; no more than 2^60 bytes in all.
  The program's sums (package sha): words as bytes. Conditions: the words stand where it looks; at most a thousand.
  The library's functions that the program calls, by their contracts: strings.Repeat, at this translation. No conditions of ours.
-/
import Derived.Test.YtegehfdjchmgcaaDoorMg3
import Derived.Test.YtegehfdjchmgcaaDoorMg1
import Derived.Laws.CopyRow
import Derived.Deep.DeepAppendRoom
import Derived.Shelf.Strings.Builder1
import Derived.Shelf.Strings.Builder2
import Derived.Shelf.Strings.BuilderF
import Derived.Shelf.Strings.Prefix
import Derived.Shelf.Bits.Mul64
import Derived.Shelf.Strings.Repeat
import Derived.Test.YtegehfdjchmgcaaDoorRows
set_option maxRecDepth 100000
namespace Go.Proofs.YtegehfdjchmgcaaDoor
open Go.ChangeShapes Go.WideShapes Go.ChangeAt Go.RowKit Sh

/-- A sum on its way, cell by cell: eight words, 64 bytes, a count. -/
def runF (s : St) (bt : Nat → UInt8) (n : Int) : Nat → Value := fun j => if j < 8 then .int .u32 (tn (s.at j)) else if j < 72 then .int .u8 ((bt (j - 8)).toNat : Int) else .int .u64 n
/-- The constants lie in the second variable. -/
def KOn (w : World) : Prop := ∀ i, i < 64 → w.cell? ⟨1, i, none⟩ = some (.int .u32 (tn (kAt i)))
theorem KOn.lt {w : World} (h : KOn w) : 1 < w.heap.size := block_lt_of_cell (h 0 (by omega))
theorem KOn.only {w w' : World} {b : Nat} (h : KOn w) (o : Only w w' b) (hb : 1 ≠ b) : KOn w' := fun i hi => (o.cell (a := ⟨1, i, none⟩) h.lt hb).trans (h i hi)
theorem KOn.drewN {w : World} (h : KOn w) (n : Nat) : KOn (w.drewN n) := h

/-- While the rounds go: the sum on its way is as it was, the words' row is made. -/
structure Mx (w wr : World) (b g : Nat) (s : St) (bt : Nat → UInt8) (n : Int) : Prop where
  only : Only w wr b
  row : wr.rowIs b 110 73 (runF s bt n)
  tab : wr.rowIs g 121 64 (fun i => .int .u32 (tn (wAt (word bt) i)))
  kon : KOn wr
theorem Mx.drewN {w wr : World} {b g : Nat} {s : St} {bt : Nat → UInt8} {n : Int} (h : Mx w wr b g s bt n) (m : Nat) : Mx w (wr.drewN m) b g s bt n := ⟨h.only.drewN m, h.row, h.tab, h.kon.drewN m⟩

theorem index8 (t : St) (k : Nat) (hk : k < 8) (w : World) :
    (Instr.index 107 (.agg #[.int .u32 (tn t.a), .int .u32 (tn t.b), .int .u32 (tn t.c), .int .u32 (tn t.d), .int .u32 (tn t.e), .int .u32 (tn t.f), .int .u32 (tn t.g), .int .u32 (tn t.h)]) (.int .i64 (k : Int))).run Tryd.prog w
      = .ok (.int .u32 (tn (t.at k))) w := by
  match k, hk with
  | 0, _ => exact (show (_ : Result Value) = _ by kernel_rfl)
  | 1, _ => exact (show (_ : Result Value) = _ by kernel_rfl)
  | 2, _ => exact (show (_ : Result Value) = _ by kernel_rfl)
  | 3, _ => exact (show (_ : Result Value) = _ by kernel_rfl)
  | 4, _ => exact (show (_ : Result Value) = _ by kernel_rfl)
  | 5, _ => exact (show (_ : Result Value) = _ by kernel_rfl)
  | 6, _ => exact (show (_ : Result Value) = _ by kernel_rfl)
  | 7, _ => exact (show (_ : Result Value) = _ by kernel_rfl)

/-- The first k words are the sums. -/
def addF (s t : St) (bt : Nat → UInt8) (n : Int) (k : Nat) : Nat → Value := fun j => if j < 8 then .int .u32 (tn (if j < k then s.at j + t.at j else s.at j)) else if j < 72 then .int .u8 ((bt (j - 8)).toNat : Int) else .int .u64 n
structure Ax (w wr : World) (b : Nat) (s t : St) (bt : Nat → UInt8) (n : Int) (k : Nat) : Prop where
  only : Only w wr b
  row : wr.rowIs b 110 73 (addF s t bt n k)
theorem Ax.drew {w wr : World} {b : Nat} {s t : St} {bt : Nat → UInt8} {n : Int} {k : Nat} (h : Ax w wr b s t bt n k) : Ax w wr.drew b s t bt n k := ⟨h.only.drew, h.row⟩
theorem Ax.put {w wr : World} {b : Nat} {s t : St} {bt : Nat → UInt8} {n : Int} {k : Nat} (h : Ax w wr b s t bt n k) (hk : k < 8) : Ax w (wr.setCell ⟨b, k, none⟩ (.int .u32 (tn (s.at k + t.at k)))) b s t bt n (k + 1) := by
  refine ⟨h.only.setCell (.inl rfl) _, (h.row.set k _).congr fun j _ => ?_⟩
  unfold addF
  by_cases e : j = k
  · subst e; rw [if_pos rfl, if_pos hk, if_pos (by omega)]
  · rw [if_neg e]
    by_cases h8 : j < 8
    · rw [if_pos h8, if_pos h8]
      by_cases hlt : j < k
      · rw [if_pos hlt, if_pos (by omega)]
      · rw [if_neg hlt, if_neg (by omega)]
    · rw [if_neg h8, if_neg h8]

set_option maxRecDepth 100000 in
set_option maxHeartbeats 800000 in
theorem mix_any (b : Nat) (s : St) (bt : Nat → UInt8) (n : Int) (w : World) (hr : w.rowIs b 110 73 (runF s bt n)) (hk : KOn w) (hb : 1 ≠ b) :
    Calls Tryd.prog 71 #[.pointer (some ⟨b, 0, none⟩)] w fun e w' =>
      e = .returned (.tuple #[]) ∧ w'.rowIs b 110 73 (runF (mixed s bt) bt n) ∧ Only w w' b := by
  have hc : ∀ j, j < 64 → w.cell? ⟨b, 8 + j, none⟩ = some (.int .u8 ((bt j).toNat : Int)) := fun j hj => by
    have := hr.cell (i := 8 + j) (by omega)
    rw [this]
    unfold runF
    rw [if_neg (by omega), if_pos (by omega), show 8 + j - 8 = j by omega]
  have HS := Lib.hid (spread_any b bt w hc)
  clear hc
  have HR := Lib.hid hr
  have HKO := Lib.hid hk
  clear hr hk
  go_enter Tryd.func71, Tryd.ntmps71
  go_wp2_with (fail)
  refine HS.out.mono ?_
  rintro e w1 ⟨rfl, hb1⟩
  have h1 : ∀ old, (w1.alloc (.cells old 121)).heap[w1.heap.size]? = some (.cells old 121 (0, 0)) := fun old => heap_alloc_new w1 _
  have H1 := Lib.hid h1
  clear h1
  have HI := Lib.hid (show ∀ f, (Tryd.prog.info? 121).map (·.size) = some (vals 64 f).size from fun f => info_vals f (by kernel_rfl))
  have HO := Lib.hid (show (vals 64 fun i => Value.int .u32 (tn (wAt (word bt) i))).all (·.oneCell') = true from vals_one fun _ => rfl)
  have HB1 := Lib.hid hb1
  clear hb1
  go_wp2_with (with_reducible refine wpList_store_row rfl 121 _ _ rfl _ _ rfl rfl 121 _ (H1.out _) (HI.out _) ?_ HO.out ?_)
  · exact (vals_size 64 _).symm
  have hM : ∀ old : Array Value, Mx w ((w1.alloc (.cells old 121)).setRow w1.heap.size (vals 64 fun i => Value.int .u32 (tn (wAt (word bt) i)))) b w1.heap.size s bt n := fun old => by
    have hlt := HR.out.lt
    have hs := HB1.out.size
    have o1 : Only w (w1.alloc (.cells old 121)) b := (Only.of_below HB1.out b).alloc _
    have o2 := o1.setRow (g := w1.heap.size) (.inr hs) (vals 64 fun i => Value.int .u32 (tn (wAt (word bt) i)))
    refine ⟨o2, ?_, row_of_block (setRow_heap _ _ old _ _ _ (heap_alloc_new w1 _)), HKO.out.only o2 hb⟩
    have r1 : w1.rowIs b 110 73 (runF s bt n) := HR.out.of_block (HB1.out.block b hlt)
    exact row_setRow_other (r1.alloc _) (by have := r1.lt; omega)
  refine gen_world (fun wr => Mx w wr b w1.heap.size s bt n) (hM _) ?_
  clear hM H1 HI HO HS
  intro wr hM
  have c0 : wr.cell? ⟨b, 0, none⟩ = some (.int .u32 (tn s.a)) := hM.row.cell (i := 0) (by omega)
  have c1 : wr.cell? ⟨b, 1, none⟩ = some (.int .u32 (tn s.b)) := hM.row.cell (i := 1) (by omega)
  have c2 : wr.cell? ⟨b, 2, none⟩ = some (.int .u32 (tn s.c)) := hM.row.cell (i := 2) (by omega)
  have c3 : wr.cell? ⟨b, 3, none⟩ = some (.int .u32 (tn s.d)) := hM.row.cell (i := 3) (by omega)
  have c4 : wr.cell? ⟨b, 4, none⟩ = some (.int .u32 (tn s.e)) := hM.row.cell (i := 4) (by omega)
  have c5 : wr.cell? ⟨b, 5, none⟩ = some (.int .u32 (tn s.f)) := hM.row.cell (i := 5) (by omega)
  have c6 : wr.cell? ⟨b, 6, none⟩ = some (.int .u32 (tn s.g)) := hM.row.cell (i := 6) (by omega)
  have c7 : wr.cell? ⟨b, 7, none⟩ = some (.int .u32 (tn s.h)) := hM.row.cell (i := 7) (by omega)
  go_wp2
  go_quiet (fail)
  go_wp2
  go_quiet (fail)
  go_wp2
  refine gen_world (fun wr => Mx w wr b w1.heap.size s bt n) ((hM.drewN _).drewN _) ?_
  clear hM c0 c1 c2 c3 c4 c5 c6 c7
  intro wr hM
  have hlt1 := HR.out.lt
  clear HR HKO
  go_loopw [3, 4, 5, 6, 7, 8, 9, 10, 60] (fun v3 v4 v5 v6 v7 v8 v9 v10 i wr => ∃ k : Nat, k ≤ 64 ∧ i = .int .i64 k ∧ Mx w wr b w1.heap.size s bt n ∧
      v3 = .int .u32 (tn (runs (wAt (word bt)) s k).a) ∧ v4 = .int .u32 (tn (runs (wAt (word bt)) s k).b) ∧ v5 = .int .u32 (tn (runs (wAt (word bt)) s k).c) ∧ v6 = .int .u32 (tn (runs (wAt (word bt)) s k).d) ∧
      v7 = .int .u32 (tn (runs (wAt (word bt)) s k).e) ∧ v8 = .int .u32 (tn (runs (wAt (word bt)) s k).f) ∧ v9 = .int .u32 (tn (runs (wAt (word bt)) s k).g) ∧ v10 = .int .u32 (tn (runs (wAt (word bt)) s k).h))
    (fun _ _ _ _ _ _ _ _ i _ => 64 - (intOf i).toNat)
  case atStart => exact ⟨0, by omega, rfl, hM, rfl, rfl, rfl, rfl, rfl, rfl, rfl, rfl⟩
  case round =>
    clear hM
    obtain ⟨k, hk, rfl, hM, rfl, rfl, rfl, rfl, rfl, rfl, rfl, rfl⟩ := hrel
    have HT := Lib.hid (show runs (wAt (word bt)) s (k + 1) = rnd (kAt k) (wAt (word bt) k) (runs (wAt (word bt)) s k) from rfl)
    have HTk := Lib.hid (show k = 64 → mixed s bt = plusSt s (runs (wAt (word bt)) s k) from fun e => by rw [e]; rfl)
    generalize runs (wAt (word bt)) s k = t at HT HTk ⊢
    by_cases hlt : k < 64
    · have cK := hM.kon k hlt
      have cW := hM.tab.cell hlt
      have lk : 0 ≤ (k : Int) := by omega
      have mk : (k : Int) < 64 := by omega
      have kx := xor_u32
      have kn := and_u32
      have ka := add_u32
      have km := add_u32m
      have kt := not_u32 t.e
      go_wp2
      go_quiet ((go_at_call 75; exact quiet_here (turned_any _ _ _ (by omega) (by omega))))
      have hM2 := hM.drewN nq
      clear cK cW hM kt
      generalize wr.drewN nq = wx at hM2 ⊢
      go_wp2_with (go_at_call 75; refine (turned_any _ _ _ (by omega) (by omega)).mono ?_; rintro e w' ⟨rfl, rfl⟩)
      go_roundw
      case rel => exact ⟨k + 1, by omega, by go_num, hM2, by rw [HT.out]; rfl, by rw [HT.out]; rfl, by rw [HT.out]; rfl, by rw [HT.out]; rfl, by rw [HT.out]; rfl, by rw [HT.out]; rfl, by rw [HT.out]; rfl, by rw [HT.out]; rfl⟩
      case measure => simp [intOf]; omega
    · have HK := Lib.hid (show k = 64 by omega)
      have hA : Ax w wr b s t bt n 0 := ⟨hM.only, hM.row.congr fun j _ => by unfold runF addF; simp⟩
      have hI := fun k hk => index8 t k hk
      have HI := Lib.hid hI
      clear hI hM
      go_wp2
      go_loopw [132] (fun i wr => ∃ k : Nat, k ≤ 8 ∧ i = .int .i64 k ∧ Ax w wr b s t bt n k) (fun i _ => 8 - (intOf i).toNat)
      case atStart => exact ⟨0, by omega, rfl, hA⟩
      case round =>
        clear hA hlt hk
        obtain ⟨k, hk, rfl, hA⟩ := hrel
        by_cases hlt : k < 8
        · have hix := HI.out k hlt
          have lk : 0 ≤ (k : Int) := by omega
          have mk : (k : Int) < 8 := by omega
          have c0 : wr.cell? ⟨b, k, none⟩ = some (.int .u32 (tn (s.at k))) := by
            have := hA.row.cell (i := k) (by omega)
            unfold addF at this
            rwa [if_pos hlt, if_neg (by omega)] at this
          have ka := add_u32
          go_wp2
          go_still_tail 11, (by kernel_rfl)
          have hA2 := hA.drew
          clear hA c0
          refine gen_list (fun wr => Ax w wr b s t bt n k) hA2 ?_
          clear hA2
          intro wx hA
          have c0 : wx.cell? ⟨b, k, none⟩ = some (.int .u32 (tn (s.at k))) := by
            have := hA.row.cell (i := k) (by omega)
            unfold addF at this
            rwa [if_pos hlt, if_neg (by omega)] at this
          have f0 := hA.row.frozen k
          go_wp2
          go_roundw
          case rel => exact ⟨k + 1, by omega, by go_num, hA.put hlt⟩
          case measure => simp [intOf]; omega
        · have HK8 := Lib.hid (show k = 8 by omega)
          go_wp2
          go_end0
          refine ⟨rfl, hA.row.congr fun j _ => ?_, hA.only⟩
          have e1 := HTk.out HK.out
          have e2 := HK8.out
          unfold addF runF
          by_cases h8 : j < 8
          · rw [if_pos h8, if_pos h8, if_pos (by omega), e1, plusSt_at]
          · rw [if_neg h8, if_neg h8]
end Go.Proofs.YtegehfdjchmgcaaDoor
namespace Go.Proofs.YtegehfdjchmgcaaDoor
open Go Go.RowKit
variable {P : Program}

theorem splice_vals (N o : Nat) (f : Nat → Value) (cs : List Value) (h : o + cs.length ≤ N) :
    ((vals N f).toList.take o ++ cs ++ (vals N f).toList.drop (o + cs.length)).toArray = vals N (fun j => if o ≤ j ∧ j < o + cs.length then cs.getD (j - o) undef else f j) := by
  unfold vals
  congr 1
  apply List.ext_getElem?
  intro k
  simp only [List.getElem?_append, List.length_take, List.length_map, List.length_range, List.getElem?_take, List.getElem?_drop, List.getElem?_map]
  have hm : min o N = o := by omega
  by_cases h1 : k < o
  · rw [hm, if_pos (by simp; omega), if_pos (by simpa using h1), if_pos h1]
    by_cases h2 : k < N
    · simp only [List.getElem?_range h2, Option.map_some]; rw [if_neg (by omega)]
    · omega
  · by_cases h2 : k < o + cs.length
    · rw [hm, if_pos (by simp; omega), if_neg (by simpa using h1)]
      have h3 : k < N := by omega
      simp only [List.getElem?_range h3, Option.map_some]
      rw [if_pos ⟨by omega, h2⟩, List.getD_eq_getElem?_getD, List.getElem?_eq_getElem (by omega)]
      simp
    · rw [hm, if_neg (by simp; omega)]
      simp only [List.length_append, List.length_take, List.length_map, List.length_range]
      rw [hm, show o + cs.length + (k - (o + cs.length)) = k by omega]
      by_cases h3 : k < N
      · simp only [List.getElem?_range h3, Option.map_some]; rw [if_neg (by omega)]
      · simp [List.getElem?_eq_none (show (List.range N).length ≤ k by simp; omega)]

/-- The row behind a copy of these cells to place o. -/
def spliced (o : Nat) (cs : List Value) (f : Nat → Value) : Nat → Value := fun j => if o ≤ j ∧ j < o + cs.length then cs.getD (j - o) undef else f j

theorem run_copy_str (w : World) (dT sT ty elem : TypeId) (b o dLen dCap : Nat) (q : ByteArray) (cs : List Value) (T : TypeId) (N : Nat) (f : Nat → Value)
    (hu : P.underlying dT = some (.slice elem)) (hz : ∀ w, (Go.sizeOf elem).run P w = .ok 1 w) (hr : w.rowIs b T N f)
    (hcs : cs = (q.data.toList.take (min q.size dLen)).map fun x => Value.int .u8 (x.toNat : Int)) (hfit : o + cs.length ≤ N) (n : Nat) (hn : n = min q.size dLen) :
    (Builtin.copy_ #[dT, sT] ty #[.slice (some ⟨b, o, none⟩) dLen dCap, .string q]).run P w = .ok (goInt n) (w.setRow b (vals N (spliced o cs f))) := by
  subst hn
  have hst := run_storeCells_at P b o T cs 0 (vals N f) w (row_block hr) (by rw [vals_size]; simpa using hfit) (by
    intro v hv
    rw [hcs] at hv
    obtain ⟨x, _, rfl⟩ := List.mem_map.1 hv
    rfl)
  rw [Nat.add_zero, splice_vals N o f cs hfit] at hst
  have hmin : Nat.min q.size dLen = min q.size dLen := rfl
  simp [Builtin.copy_, run_underlying hu, Builtin.lenOf, Builtin.firstCells, hz, hmin]
  rw [← List.map_take, ← hcs, hst]
  rfl

theorem run_copy_bytes (w : World) (dT sT ty elem : TypeId) (b o dLen dCap : Nat) (a : Addr) (sLen sCap : Nat) (cs : List Value) (T : TypeId) (N : Nat) (f : Nat → Value)
    (hu : P.underlying dT = some (.slice elem)) (hs : (P.info? elem).map (·.size) = some 1) (hr : w.rowIs b T N f)
    (hn : cs.length = Nat.min sLen dLen) (hsrc : ∀ j v, cs[j]? = some v → w.cell? (a.add j) = some v) (hfit : o + cs.length ≤ N) (h1 : ∀ v ∈ cs, v.oneCell' = true) :
    (Builtin.copy_ #[dT, sT] ty #[.slice (some ⟨b, o, none⟩) dLen dCap, .slice (some a) sLen sCap]).run P w = .ok (goInt cs.length) (w.setRow b (vals N (spliced o cs f))) := by
  rw [run_copy_row (P := P) w dT sT ty elem b o dLen dCap a sLen sCap (vals N f) T cs hu hs (row_block hr) hn hsrc (by rw [vals_size]; exact hfit) h1, splice_vals N o f cs hfit]
  rfl
end Go.Proofs.YtegehfdjchmgcaaDoor
namespace Go.Proofs.YtegehfdjchmgcaaDoor
open Go.ChangeShapes Go.WideShapes Go.ChangeAt Go.RowKit Sh

/-- m bytes of L are in the sum on its way. -/
def Run (w : World) (b : Nat) (L : Nat → UInt8) (m : Nat) : Prop :=
  ∃ bt : Nat → UInt8, w.rowIs b 110 73 (runF (blocks L (m / 64)) bt (m : Int)) ∧ ∀ j, j < m % 64 → bt j = L (64 * (m / 64) + j)
/-- The next bytes of L are q's. -/
def Next (L : Nat → UInt8) (m : Nat) (q : ByteArray) : Prop := ∀ i, i < q.size → q.data.toList.getD i 0 = L (m + i)

def strSize : Value → Nat
  | .string q => q.size
  | _ => 0
theorem size_list (q : ByteArray) : q.data.toList.length = q.size := rfl

/-- The bytes of the block behind a copy. -/
def btSet (bt : Nat → UInt8) (c n : Nat) (q : ByteArray) : Nat → UInt8 := fun j => if c ≤ j ∧ j < c + n then q.data.toList.getD (j - c) 0 else bt j
theorem spliced_run (s : St) (bt : Nat → UInt8) (cnt : Int) (c n : Nat) (q : ByteArray) (hn : n ≤ q.size) (hc : c + n ≤ 64) (j : Nat) (_ : j < 73) :
    spliced (8 + c) ((q.data.toList.take n).map fun x => Value.int .u8 (x.toNat : Int)) (runF s bt cnt) j = runF s (btSet bt c n q) cnt j := by
  unfold spliced
  have hl : ((q.data.toList.take n).map fun x => Value.int .u8 (x.toNat : Int)).length = n := by simp; omega
  rw [hl]
  by_cases h : 8 + c ≤ j ∧ j < 8 + c + n
  · rw [if_pos h]
    unfold runF btSet
    rw [if_neg (by omega), if_pos (by omega), if_pos (by omega)]
    rw [List.getD_eq_getElem?_getD, List.getElem?_map, List.getElem?_take, if_pos (by omega), List.getElem?_eq_getElem (by rw [size_list]; omega), List.getD_eq_getElem?_getD, List.getElem?_eq_getElem (by rw [size_list]; omega)]
    simp only [Option.map_some, Option.getD_some]
    congr 3
    simp only [show j - (8 + c) = j - 8 - c by omega]
  · rw [if_neg h]
    unfold runF btSet
    by_cases h8 : j < 8
    · rw [if_pos h8, if_pos h8]
    · rw [if_neg h8, if_neg h8]
      by_cases h72 : j < 72
      · rw [if_pos h72, if_pos h72, if_neg (by omega)]
      · rw [if_neg h72, if_neg h72]
theorem runF_count (s : St) (bt : Nat → UInt8) (cnt cnt' : Int) (j : Nat) (h : j < 73) : (if j = 72 then Value.int .u64 cnt' else runF s bt cnt j) = runF s bt cnt' j := by
  unfold runF
  by_cases e : j = 72
  · subst e; simp
  · rw [if_neg e]
    by_cases h8 : j < 8
    · rw [if_pos h8, if_pos h8]
    · rw [if_neg h8, if_neg h8, if_pos (by omega), if_pos (by omega)]

/-- The state of the inner loop: so many bytes are in, the part that is left comes next. -/
structure In (w wr : World) (b : Nat) (L : Nat → UInt8) (M : Nat) (q : ByteArray) (m : Nat) : Prop where
  only : Only w wr b
  run : Run wr b L m
  next : Next L m q
  all : m + q.size = M
  kon : KOn wr

theorem bt_set (L : Nat → UInt8) (bt : Nat → UInt8) (m n : Nat) (q : ByteArray) (_ : n ≤ q.size) (_ : m % 64 + n ≤ 64) (hbt : ∀ j, j < m % 64 → bt j = L (64 * (m / 64) + j)) (hq : Next L m q) (j : Nat) (hj : j < m % 64 + n) :
    btSet bt (m % 64) n q j = L (64 * (m / 64) + j) := by
  unfold btSet
  by_cases h : m % 64 ≤ j ∧ j < m % 64 + n
  · rw [if_pos h, hq (j - m % 64) (by omega)]
    congr 1
    omega
  · rw [if_neg h]
    exact hbt j (by omega)
theorem run_part {w : World} {b : Nat} {L : Nat → UInt8} {bt : Nat → UInt8} {m n : Nat} {q : ByteArray} (hn : n ≤ q.size) (hc : m % 64 + n < 64) (hbt : ∀ j, j < m % 64 → bt j = L (64 * (m / 64) + j)) (hq : Next L m q)
    (hr : w.rowIs b 110 73 (runF (blocks L (m / 64)) (btSet bt (m % 64) n q) ((m + n : Nat) : Int))) : Run w b L (m + n) := by
  refine ⟨btSet bt (m % 64) n q, ?_, fun j hj => ?_⟩
  · rw [show (m + n) / 64 = m / 64 by omega]; exact hr
  · rw [show (m + n) / 64 = m / 64 by omega]; exact bt_set L bt m n q hn (by omega) hbt hq j (by omega)
theorem run_full {w : World} {b : Nat} {L : Nat → UInt8} {bt : Nat → UInt8} {m n : Nat} {q : ByteArray} (hn : n ≤ q.size) (hc : m % 64 + n = 64) (hbt : ∀ j, j < m % 64 → bt j = L (64 * (m / 64) + j)) (hq : Next L m q)
    (hr : w.rowIs b 110 73 (runF (mixed (blocks L (m / 64)) (btSet bt (m % 64) n q)) (btSet bt (m % 64) n q) ((m + n : Nat) : Int))) : Run w b L (m + n) := by
  refine ⟨btSet bt (m % 64) n q, ?_, fun j hj => by omega⟩
  rw [show (m + n) / 64 = m / 64 + 1 by omega]
  have e : mixed (blocks L (m / 64)) (btSet bt (m % 64) n q) = blocks L (m / 64 + 1) := by
    simp only [blocks]
    exact mixed_congr _ _ _ fun j hj => bt_set L bt m n q hn (by omega) hbt hq j (by omega)
  rw [← e]; exact hr
theorem next_rest {L : Nat → UInt8} {m n : Nat} {q : ByteArray} (hq : Next L m q) : Next L (m + n) (q.extract n q.size) := by
  intro i hi
  rw [ByteArray.size_extract] at hi
  have h := hq (n + i) (by omega)
  rw [← Nat.add_assoc] at h
  rw [← h]
  simp only [List.getD_eq_getElem?_getD, ByteArray.data_extract, Array.getElem?_toList]
  rw [Array.getElem?_extract]
  simp only [ByteArray.size] at hi ⊢
  rw [if_pos (by omega)]
theorem copy_step {w wx : World} {b : Nat} {s : St} {bt : Nat → UInt8} {cnt : Int} {c n : Nat} {q : ByteArray} (ho : Only w wx b) (hr : wx.rowIs b 110 73 (runF s bt cnt)) (hk : KOn wx) (hb : 1 ≠ b)
    (hn : n = min q.size (64 - c)) (hc : c < 64) :
    ∃ wy, (∀ ty, (Builtin.copy_ #[59, 9] ty #[.slice (some ⟨b, 8 + c, none⟩) (64 - c) (64 - c), .string q]).run Tryd.prog wx = .ok (goInt n) wy) ∧
      wy.rowIs b 110 73 (runF s (btSet bt c n q) cnt) ∧ Only w wy b ∧ KOn wy := by
  have hl : ((q.data.toList.take n).map fun x => Value.int .u8 (x.toNat : Int)).length = n := by simp; omega
  have hy := Only.setRow (.refl wx b) (g := b) (.inl rfl) (vals 73 (spliced (8 + c) ((q.data.toList.take n).map fun x => Value.int .u8 (x.toNat : Int)) (runF s bt cnt)))
  refine ⟨_, fun ty => run_copy_str wx _ _ ty 5 b (8 + c) (64 - c) (64 - c) q ((q.data.toList.take n).map fun x => Value.int .u8 (x.toNat : Int)) _ 73 _ Tryd.underlying59 (fun _ => by kernel_rfl) hr (by rw [hn]) (by rw [hl]; omega) n hn, ?_, ho.trans hy, hk.only hy hb⟩
  exact (row_setRow hr).congr fun j hj => spliced_run s bt cnt c n q (by omega) (by omega) j hj

/-- All bytes of these texts, one behind the other. -/
def flat (ss : List ByteArray) : List UInt8 := ss.flatMap fun q => q.data.toList
theorem flat_next (ss : List ByteArray) (k : Nat) (h : k < ss.length) : flat (ss.take (k + 1)) = flat (ss.take k) ++ (ss.getD k ByteArray.empty).data.toList := by
  unfold flat
  rw [List.take_succ_eq_append_getElem h, List.flatMap_append]
  simp [List.getD_eq_getElem?_getD, h]
theorem flat_step (ss : List ByteArray) (k : Nat) (h : k < ss.length) : (flat (ss.take (k + 1))).length = (flat (ss.take k)).length + (ss.getD k ByteArray.empty).size := by
  rw [flat_next ss k h, List.length_append]; rfl
theorem flat_take_le (ss : List ByteArray) (k : Nat) : (flat (ss.take k)).length ≤ (flat ss).length := by
  have e : flat ss = flat (ss.take k) ++ flat (ss.drop k) := by unfold flat; rw [← List.flatMap_append, List.take_append_drop]
  rw [e, List.length_append]; omega
/-- The next bytes of L are these texts'. -/
def Feeds (L : Nat → UInt8) (m : Nat) (l : List UInt8) : Prop := ∀ i, i < l.length → l.getD i 0 = L (m + i)
theorem feeds_part {L : Nat → UInt8} {m : Nat} {ss : List ByteArray} (h : Feeds L m (flat ss)) (k : Nat) (hk : k < ss.length) : Next L (m + (flat (ss.take k)).length) (ss.getD k ByteArray.empty) := by
  have e : flat ss = flat (ss.take (k + 1)) ++ flat (ss.drop (k + 1)) := by unfold flat; rw [← List.flatMap_append, List.take_append_drop]
  rw [flat_next ss k hk] at e
  generalize ss.getD k ByteArray.empty = q at e
  intro i hi
  have hl : i < q.data.toList.length := hi
  have h1 := h ((flat (ss.take k)).length + i) (by rw [e]; simp only [List.length_append]; omega)
  have h2 : (flat ss)[(flat (ss.take k)).length + i]? = q.data.toList[i]? := by
    rw [e, List.append_assoc, List.getElem?_append_right (by omega), Nat.add_sub_cancel_left, List.getElem?_append_left hl]
  rw [Nat.add_assoc, ← h1, List.getD_eq_getElem?_getD, List.getD_eq_getElem?_getD, h2]

set_option maxRecDepth 100000 in
set_option maxHeartbeats 1600000 in
theorem add_any (b : Nat) (L : Nat → UInt8) (m0 : Nat) (ss : List ByteArray) (w : World) (A : Option Addr) (n cap : Nat) (hn : n = ss.length) (hnb : n ≤ 1152921504606846976)
    (hA : 0 < n → ∃ pb po, A = some ⟨pb, po, none⟩ ∧ pb ≠ b ∧ ∀ k, k < n → w.cell? ⟨pb, po + k, none⟩ = some (.string (ss.getD k ByteArray.empty)))
    (hrun : Run w b L m0) (hkon : KOn w) (hb : 1 ≠ b) (hM : m0 + (flat ss).length < 1152921504606846976) (hF : Feeds L m0 (flat ss)) :
    Calls Tryd.prog 63 #[.pointer (some ⟨b, 0, none⟩), .slice A n cap] w fun e w' => e = .returned (.tuple #[]) ∧ Run w' b L (m0 + (flat ss).length) ∧ Only w w' b := by
  have HN := Lib.hid hn
  have HA := Lib.hid hA
  have HF := Lib.hid hF
  clear hn hA hF
  go_enter Tryd.func63, Tryd.ntmps63
  go_wp2
  go_loopw [9] (fun i wr => ∃ k : Nat, k ≤ n ∧ i = .int .i64 k ∧ Only w wr b ∧ KOn wr ∧ Run wr b L (m0 + (flat (ss.take k)).length)) (fun i _ => n - (intOf i).toNat)
  case atStart => exact ⟨0, Nat.zero_le _, rfl, .refl _ _, hkon, by simpa [flat] using hrun⟩
  case round =>
    clear hrun hkon
    obtain ⟨k, hk, rfl, ho, hkn, hrun⟩ := hrel
    by_cases hlt1 : k < n
    · obtain ⟨pb, po, rfl, hpb, hcell⟩ := HA.out (by omega)
      have hlt0 : b < wr.heap.size := by obtain ⟨bt, h, _⟩ := hrun; exact h.lt
      have hq := (ho.cell (a := ⟨pb, po + k, none⟩) (block_lt_of_cell (hcell k hlt1)) hpb).trans (hcell k hlt1)
      have hst := flat_step ss k (by have := HN.out; omega)
      have hle := flat_take_le ss (k + 1)
      have hnext := feeds_part HF.out k (by have := HN.out; omega)
      generalize ss.getD k ByteArray.empty = q at hq hst hnext
      have hIn : In w wr b L (m0 + (flat (ss.take (k + 1))).length) q (m0 + (flat (ss.take k)).length) := ⟨ho, hrun, hnext, by omega, hkn⟩
      have hMM : m0 + (flat (ss.take (k + 1))).length < 1152921504606846976 := by omega
      obtain ⟨M, hM2⟩ : ∃ M, M = m0 + (flat (ss.take (k + 1))).length := ⟨_, rfl⟩
      rw [← hM2] at hIn hMM
      have HM := Lib.hid hM2
      clear hM2
      clear hcell hst hle hnext HA
      go_wp2
      go_loopw [5] (fun v wr => ∃ q m, v = .string q ∧ In w wr b L M q m) (fun v _ => strSize v)
      case atStart => exact ⟨q, _, rfl, hIn⟩
      case round =>
        clear ho hkn hq hIn hrun
        obtain ⟨q, m, rfl, hIn⟩ := hrel
        obtain ⟨bt, hrow, hbt⟩ := hIn.run
        by_cases h0 : 0 < q.size
        · obtain ⟨c, hc⟩ : ∃ c, c = m % 64 := ⟨_, rfl⟩
          have hcm : ((m : Int) % 64) = (c : Int) := by omega
          have htm : (m : Int).tmod 64 = (c : Int) := by rw [Int.tmod_eq_emod_of_nonneg (by omega)]; exact hcm
          have hc64 : c < 64 := by omega
          have hn64 : ¬ 64 = c := by omega
          have cc : wr.cell? ⟨b, 72, none⟩ = some (.int .u64 (m : Int)) := hrow.cell (i := 72) (by omega)
          have lm : 0 ≤ (m : Int) := by omega
          have lc : 0 ≤ (c : Int) := by omega
          have lc64 : (c : Int) ≤ 64 := by omega
          have lc65 : (c : Int) < 64 := by omega
          have HC := Lib.hid hc
          clear hc
          go_wp2
          go_still_tail 10, (by kernel_rfl)
          refine gen_list (fun wx => In w wx b L M q m ∧ wx.rowIs b 110 73 (runF (blocks L (m / 64)) bt (m : Int))) ⟨⟨hIn.only.drew, ⟨bt, hrow, hbt⟩, hIn.next, hIn.all, hIn.kon⟩, hrow⟩ ?_
          clear cc hrow hIn lc lc64 lc65 htm hcm
          intro wx hx
          obtain ⟨hIn, hrow⟩ := hx
          obtain ⟨d, hd⟩ : ∃ d, d = min q.size (64 - c) := ⟨_, rfl⟩
          obtain ⟨wy, hcopy, hyrow, hyonly, hykon⟩ := copy_step hIn.only hrow hIn.kon hb hd hc64
          have cy : wy.cell? ⟨b, 72, none⟩ = some (.int .u64 (m : Int)) := hyrow.cell (i := 72) (by omega)
          have fy := hyrow.frozen 72
          have hall := hIn.all
          have d1 : 1 ≤ d := by omega
          have d2 : d ≤ q.size := by omega
          have d3 : c + d ≤ 64 := by omega
          have d4 : m + d ≤ M := by omega
          have HD := Lib.hid hd
          have HA2 := Lib.hid hall
          clear hd hall
          by_cases hB : c + d = 64
          · have ht : (((m : Int) + (d : Int)) % 64 == 0) = true := by have := HC.out; rw [beq_iff_eq]; omega
            have HB := Lib.hid hB
            clear hB
            go_wp2_with (fail)
            have hr2 : (wy.setCell ⟨b, 72, none⟩ (.int .u64 ((m : Int) + (d : Int)))).rowIs b 110 73 (runF (blocks L (m / 64)) (btSet bt c d q) ((m : Int) + (d : Int))) := (hyrow.set 72 _).congr fun j hj => runF_count _ _ _ _ j hj
            have ho2 := hyonly.setCell (a := ⟨b, 72, none⟩) (.inl rfl) (.int .u64 ((m : Int) + (d : Int)))
            have hk2 := hykon.only (Only.setCell (.refl wy b) (a := ⟨b, 72, none⟩) (.inl rfl) (.int .u64 ((m : Int) + (d : Int)))) hb
            refine (mix_any b _ _ _ _ hr2 hk2 hb).mono ?_
            rintro e w3 ⟨rfl, hr3, ho3⟩
            clear hr2 cy fy hcopy hyrow hrow
            go_wp2
            go_roundw
            case rel =>
              have e1 := HC.out
              have e2 := HB.out
              subst e1
              exact ⟨_, m + d, rfl, ho2.trans ho3, run_full d2 (by omega) hbt hIn.next (by rw [Int.natCast_add]; exact hr3), next_rest hIn.next, by have := HA2.out; rw [ByteArray.size_extract]; omega, hk2.only ho3 hb⟩
            case measure => simp [strSize, ByteArray.size_extract]; omega
          · have ht : (((m : Int) + (d : Int)) % 64 == 0) = false := by have := HC.out; rw [beq_eq_false_iff_ne]; omega
            have HB := Lib.hid hB
            clear hB
            have hr2 : (wy.setCell ⟨b, 72, none⟩ (.int .u64 ((m : Int) + (d : Int)))).rowIs b 110 73 (runF (blocks L (m / 64)) (btSet bt c d q) ((m : Int) + (d : Int))) := (hyrow.set 72 _).congr fun j hj => runF_count _ _ _ _ j hj
            have ho2 := hyonly.setCell (a := ⟨b, 72, none⟩) (.inl rfl) (.int .u64 ((m : Int) + (d : Int)))
            have hk2 := hykon.only (Only.setCell (.refl wy b) (a := ⟨b, 72, none⟩) (.inl rfl) (.int .u64 ((m : Int) + (d : Int)))) hb
            clear hyrow hrow
            go_wp2
            go_roundw
            case rel =>
              have e1 := HC.out
              have e2 := HB.out
              subst e1
              exact ⟨_, m + d, rfl, ho2, run_part d2 (by omega) hbt hIn.next (by rw [Int.natCast_add]; exact hr2), next_rest hIn.next, by have := HA2.out; rw [ByteArray.size_extract]; omega, hk2⟩
            case measure => simp [strSize, ByteArray.size_extract]; omega
        · have HZ := Lib.hid (show q.size = 0 by omega)
          go_wp2
          go_roundw
          case rel =>
            have e1 := HZ.out
            have e2 := hIn.all
            have e3 := HM.out
            exact ⟨k + 1, by omega, by go_num, hIn.only, hIn.kon, by rw [← e3, ← e2, e1]; exact hIn.run⟩
          case measure => simp [intOf]; omega
    · go_wp2
      go_end0
      have e1 := HN.out
      have e2 : ss.take k = ss := List.take_of_length_le (by omega)
      rw [e2] at hrun
      exact ⟨rfl, hrun, ho⟩
end Go.Proofs.YtegehfdjchmgcaaDoor
namespace Go.Proofs.YtegehfdjchmgcaaDoor
open Go.ChangeShapes Go.WideShapes Go.ChangeAt Go.RowKit Sh

/-- The j-th byte of words, the highest of each first. -/
def wbyte (W : Nat → BitVec 32) (j : Nat) : UInt8 := UInt8.ofNat ((W (j / 4)).toNat / 2 ^ (24 - 8 * (j % 4)))
/-- A slice of n new bytes. -/
def ByteSlice (w : World) (n : Nat) (f : Nat → UInt8) (e : Ending) (w' : World) : Prop :=
  ∃ g, e = .returned (.slice (some ⟨g, 0, none⟩) n n) ∧ w.heap.size ≤ g ∧ (∀ j, j < n → w'.cell? ⟨g, j, none⟩ = some (.int .u8 ((f j).toNat : Int))) ∧ Below w.heap.size w w'
theorem wbyte_val (W : Nat → BitVec 32) (k i : Nat) (hi : i < 4) : ((wbyte W (4 * k + i)).toNat : Int) = tn (W k) / ((2 ^ (24 - 8 * i) : Nat) : Int) % 256 := by
  unfold wbyte tn
  rw [show (4 * k + i) / 4 = k by omega, show (4 * k + i) % 4 = i by omega, UInt8.toNat_ofNat']
  rw [← Int.natCast_ediv]
  omega
theorem wbyte0 (W : Nat → BitVec 32) (k : Nat) : tn (W k) / 16777216 % 256 = ((wbyte W (4 * k)).toNat : Int) := (wbyte_val W k 0 (by omega)).symm
theorem wbyte1 (W : Nat → BitVec 32) (k : Nat) : tn (W k) / 65536 % 256 = ((wbyte W (4 * k + 1)).toNat : Int) := (wbyte_val W k 1 (by omega)).symm
theorem wbyte2 (W : Nat → BitVec 32) (k : Nat) : tn (W k) / 256 % 256 = ((wbyte W (4 * k + 2)).toNat : Int) := (wbyte_val W k 2 (by omega)).symm
theorem wbyte3 (W : Nat → BitVec 32) (k : Nat) : tn (W k) % 256 = ((wbyte W (4 * k + 3)).toNat : Int) := by
  rw [wbyte_val W k 3 (by omega)]; simp
theorem range_four (f : Nat → Value) (k : Nat) : (List.range (4 * (k + 1))).map f = (List.range (4 * k)).map f ++ [f (4 * k), f (4 * k + 1), f (4 * k + 2), f (4 * k + 3)] := by
  rw [show 4 * (k + 1) = 4 * k + 1 + 1 + 1 + 1 by omega]
  simp [List.range_succ]
theorem info5 : (Tryd.prog.info? 5).map (fun i => (i.zero, i.size, i.bytes)) = some (some (.int .u8 0), 1, 1) := by kernel_rfl

set_option maxRecDepth 100000 in
set_option maxHeartbeats 1000000 in
theorem bytesOf_any (W : Nat → BitVec 32) (pb po n : Nat) (w : World) (hcell : ∀ k, k < n → w.cell? ⟨pb, po + k, none⟩ = some (.int .u32 (tn (W k)))) (hn0 : 0 < n) (hn : n ≤ 1000) (cap : Nat) :
    Calls Tryd.prog 73 #[.slice (some ⟨pb, po, none⟩) n cap] w (ByteSlice w (4 * n) (wbyte W)) := by
  have hlt0 := block_lt_of_cell (hcell 0 hn0)
  have HC := Lib.hid hcell
  clear hcell
  obtain ⟨i0, hi, hz0, hz1, hz2⟩ := info_parts info5
  have HI := Lib.hid hi
  have HZ0 := Lib.hid hz0
  have HZ1 := Lib.hid hz1
  have HZ2 := Lib.hid hz2
  clear hi hz0 hz1 hz2
  go_enter Tryd.func73, Tryd.ntmps73
  go_wp2_with (at_make; refine wpList_make_own _ rfl _ _ 59 rfl w.heap.size 5 i0 _ 1 Tryd.underlying59 HI.out HZ0.out HZ1.out .i64 .i64 _ (4 * n) rfl rfl (by omega) (by rw [HZ2.out]; omega) (by unfold maxLen; omega) (Nat.le_refl _) ?_)
  intro w1 hown hg1
  have hb1 : Below w.heap.size w w1 := (Below.refl _ _).grown hg1 (Nat.le_refl _) (fun k hk => by cases hk)
  clear hg1
  go_wp2
  go_loopw [3, 12] (fun v i wr => ∃ k : Nat, k ≤ n ∧ i = .int .i64 k ∧ v = .slice (some ⟨w.heap.size, 0, none⟩) (4 * k) (4 * n) ∧ wr.ownsRow w.heap.size 5 1 (.slice (some ⟨w.heap.size, 0, none⟩) (4 * k) (4 * n)) (4 * k) ((List.range (4 * k)).map fun j => .int .u8 ((wbyte W j).toNat : Int)) ∧ Below w.heap.size w wr) (fun _ i _ => n - (intOf i).toNat)
  case atStart => exact ⟨0, Nat.zero_le _, rfl, rfl, hown, hb1⟩
  case round =>
    clear hown hb1
    obtain ⟨k, hk, rfl, rfl, hown, hb1⟩ := hrel
    by_cases hlt : k < n
    · have hc := (hb1.cell (p := ⟨pb, po + k, none⟩) hlt0).trans (HC.out k hlt)
      have hs := hb1.size
      go_wp2_with (at_builtin; refine wpList_append_own_spare _ rfl (.tmp 16) (.tmp 28) 59 rfl w.heap.size 5 i0 1 Tryd.underlying59 HI.out HZ1.out w.heap.size (4 * k) (4 * n) _ rfl (hown.alloc _) ⟨wr.heap.size, 0, none⟩ 4 4 [.int .u8 (tn (W k) / 16777216 % 256), .int .u8 (tn (W k) / 65536 % 256), .int .u8 (tn (W k) / 256 % 256), .int .u8 (tn (W k) % 256)] rfl rfl ?c1 ?c2 (by omega) ?_)
      case c1 =>
        intro j u hj
        match j, hj with
        | 0, hj => simp at hj; subst hj; simp [Addr.add]
        | 1, hj => simp at hj; subst hj; simp [Addr.add]
        | 2, hj => simp at hj; subst hj; simp [Addr.add]
        | 3, hj => simp at hj; subst hj; simp [Addr.add]
      case c2 =>
        intro u hu
        simp only [List.mem_cons, List.not_mem_nil, or_false] at hu
        rcases hu with rfl | rfl | rfl | rfl <;> rfl
      intro w2 hown2 hg2
      have hb2 : Below w.heap.size w w2 := (hb1.alloc hs _).grown hg2 (by simp; omega) (fun j hj => by injection hj with hj; omega)
      rw [wbyte0, wbyte1, wbyte2, wbyte3, ← range_four (fun j => Value.int .u8 ((wbyte W j).toNat : Int))] at hown2
      clear hown hb1 hg2 hc
      go_wp2
      go_roundw
      case rel => exact ⟨k + 1, by omega, by go_num, by rw [Nat.mul_succ], by rw [Nat.mul_succ] at hown2 ⊢; exact hown2, hb2⟩
      case measure => simp [intOf]; omega
    · have HK := Lib.hid (show k = n by omega)
      go_wp2
      go_ret
      have e := HK.out
      subst e
      refine ⟨w.heap.size, rfl, Nat.le_refl _, fun j hj => ?_, hb1⟩
      rw [hown.cellAt j (by omega)]
      simp [hj]
end Go.Proofs.YtegehfdjchmgcaaDoor
namespace Go.Proofs
open Go.Shelf
def Tryd.lays105_ren : Go.Shelf.Ren := ⟨fun | 105 => 72 | 212 => 76 | 99 => 77 | 165 => 78 | 166 => 79 | 170 => 80 | 169 => 81 | 263 => 83 | 264 => 84 | 206 => 85 | 240 => 86 | 241 => 87 | 276 => 88 | 277 => 89 | n => n, fun | 9 => 9 | 3 => 3 | 4 => 4 | 20 => 20 | 0 => 0 | 46 => 49 | 109 => 125 | 5 => 5 | 72 => 130 | 76 => 134 | 51 => 106 | 146 => 136 | 53 => 95 | 148 => 138 | 70 => 128 | 37 => 59 | 75 => 133 | 127 => 120 | 164 => 140 | 80 => 41 | n => n, fun | n => n⟩
theorem Tryd.lays105 : Go.Proofs.Lays.n105 Tryd.prog Tryd.lays105_ren := {
  mixed := by kernel_rfl
  f99 := Tryd.func77.trans (congrArg some (by kernel_rfl))
  f105 := Tryd.func72.trans (congrArg some (by kernel_rfl))
  f165 := Tryd.func78.trans (congrArg some (by kernel_rfl))
  f166 := Tryd.func79.trans (congrArg some (by kernel_rfl))
  f169 := Tryd.func81.trans (congrArg some (by kernel_rfl))
  f170 := Tryd.func80.trans (congrArg some (by kernel_rfl))
  f206 := Tryd.func85.trans (congrArg some (by kernel_rfl))
  f212 := Tryd.func76.trans (congrArg some (by kernel_rfl))
  f240 := Tryd.func86.trans (congrArg some (by kernel_rfl))
  f241 := Tryd.func87.trans (congrArg some (by kernel_rfl))
  f263 := Tryd.func83.trans (congrArg some (by kernel_rfl))
  f264 := Tryd.func84.trans (congrArg some (by kernel_rfl))
  f276 := Tryd.func88.trans (congrArg some (by kernel_rfl))
  f277 := Tryd.func89.trans (congrArg some (by kernel_rfl))
  t0 := Tryd.underlying0
  a0 := Tryd.isAgg0
  z0 := Tryd.sizeOf0
  v0 := Tryd.zeroValue0
  t3 := Tryd.underlying3
  a3 := Tryd.isAgg3
  z3 := Tryd.sizeOf3
  v3 := Tryd.zeroValue3
  t4 := Tryd.underlying4
  a4 := Tryd.isAgg4
  z4 := Tryd.sizeOf4
  v4 := Tryd.zeroValue4
  t5 := Tryd.underlying5
  a5 := Tryd.isAgg5
  z5 := Tryd.sizeOf5
  v5 := Tryd.zeroValue5
  t9 := Tryd.underlying9
  a9 := Tryd.isAgg9
  z9 := Tryd.sizeOf9
  v9 := Tryd.zeroValue9
  t20 := Tryd.underlying20
  a20 := Tryd.isAgg20
  z20 := Tryd.sizeOf20
  v20 := Tryd.zeroValue20
  t37 := Tryd.underlying59
  a37 := Tryd.isAgg59
  z37 := Tryd.sizeOf59
  v37 := Tryd.zeroValue59
  t46 := Tryd.underlying49
  a46 := Tryd.isAgg49
  z46 := Tryd.sizeOf49
  v46 := Tryd.zeroValue49
  t51 := Tryd.underlying106
  a51 := Tryd.isAgg106
  z51 := Tryd.sizeOf106
  v51 := Tryd.zeroValue106
  t53 := Tryd.underlying95
  a53 := Tryd.isAgg95
  z53 := Tryd.sizeOf95
  v53 := Tryd.zeroValue95
  t70 := Tryd.underlying128
  a70 := Tryd.isAgg128
  z70 := Tryd.sizeOf128
  v70 := Tryd.zeroValue128
  t72 := Tryd.underlying130
  a72 := Tryd.isAgg130
  z72 := Tryd.sizeOf130
  v72 := Tryd.zeroValue130
  t75 := Tryd.underlying133
  a75 := Tryd.isAgg133
  z75 := Tryd.sizeOf133
  v75 := Tryd.zeroValue133
  t76 := Tryd.underlying134
  a76 := Tryd.isAgg134
  z76 := Tryd.sizeOf134
  v76 := Tryd.zeroValue134
  t109 := Tryd.underlying125
  a109 := Tryd.isAgg125
  z109 := Tryd.sizeOf125
  v109 := Tryd.zeroValue125
  t127 := Tryd.underlying120
  a127 := Tryd.isAgg120
  z127 := Tryd.sizeOf120
  v127 := Tryd.zeroValue120
  t146 := Tryd.underlying136
  a146 := Tryd.isAgg136
  z146 := Tryd.sizeOf136
  v146 := Tryd.zeroValue136
  t148 := Tryd.underlying138
  a148 := Tryd.isAgg138
  z148 := Tryd.sizeOf138
  v148 := Tryd.zeroValue138
  t164 := Tryd.underlying140
  a164 := Tryd.isAgg140
  z164 := Tryd.sizeOf140
  v164 := Tryd.zeroValue140 }
theorem Tryd.Builder_Extra_105 : Builder.Extra Tryd.prog Tryd.lays105_ren := {
  sizeBuilder := by kernel_rfl
  liesBuilder := by kernel_rfl
  t5 := Tryd.underlying5
  a5 := Tryd.isAgg5
  z5 := Tryd.sizeOf5
  v5 := Tryd.zeroValue5
  infoByte := by kernel_rfl
  cellsByte := by kernel_rfl
  sizeByte := by kernel_rfl
  neB5 := by decide }
open Go.RowKit Go.Lib in
theorem Tryd.strings_Repeat (s : ByteArray) (c : Nat) (w : World) (hc : c ≤ 9223372036854775807) (hlen : s.size * c ≤ 140737488355328) :
    Calls Tryd.prog 72 #[.string s, .int .i64 c] w fun e w' => e = .returned (.string ⟨(Lib.repeatL s.data.toList c).toArray⟩) ∧ Below w.heap.size w w' := Any.strings_Repeat Tryd.lays105 Tryd.Builder_Extra_105 s c w hc hlen
end Go.Proofs
