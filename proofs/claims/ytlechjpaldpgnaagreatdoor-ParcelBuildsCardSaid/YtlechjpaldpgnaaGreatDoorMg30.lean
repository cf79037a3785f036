/-
  Where deeds lie, and rows of bytes of one's own that grow. No program's function here. No conditions.
  Package patch: do, and what Apply answers. Conditions: what came stands in a row of its own; the deed can be, and all bytes are 8192 at most.
  Package patch: what Apply answers. Conditions: the deeds stand where it looks, a million at most; the base has 2^30 bytes at most.
  Package patch: write, Bytes, Cost. Conditions: a pen stands in a block of its own; the deeds stand where it looks.
  Package patch: read. Conditions: an eye stands in a block of its own; fewer than 2^48 bytes are left.
  A row of deeds of one's own that grows. No program's function here. No conditions.
  Package patch: Parse. Condition: fewer than 2^47 bytes.
  Layer 19's law: great, and the document's examples. Condition of great: each deed's bytes are no more than a machine holds.
-/
import Derived.Test.YtlechjpaldpgnaaGreatDoorMg15
import Derived.Test.YtlechjpaldpgnaaGreatDoorMg3
import Derived.Test.YtlechjpaldpgnaaGreatDoorMg29
import Derived.Test.YtlechjpaldpgnaaGreatDoorMg11
import Derived.Test.YtlechjpaldpgnaaGreatDoorMg19
import Derived.Test.YtlechjpaldpgnaaGreatDoorMg27
import Derived.Deep.AppendLies
import Derived.OwnWalk
import Derived.Laws.OwnMore
import Derived.Great.Walk
set_option maxRecDepth 100000
namespace Go.Proofs.YtlechjpaldpgnaaGreatDoor
open Go.ChangeShapes Go.WideShapes Go.ChangeAt Go.RowKit Pn Pt
namespace Pt

/-- A deed's four cells from a place on. -/
structure At4 (w : World) (b o : Nat) (x : Deed) : Prop where
  k : w.cell? ⟨b, o, none⟩ = some (.int .i64 x.k)
  f : w.cell? ⟨b, o + 1, none⟩ = some (.int .i64 x.f)
  s : w.cell? ⟨b, o + 2, none⟩ = some (.int .i64 x.s)
  d : w.cell? ⟨b, o + 3, none⟩ = some (.string x.d)
theorem At4.below {w w' : World} {B b o : Nat} {x : Deed} (h : At4 w b o x) (hb : Below B w w') (hB : w.heap.size ≤ B) : At4 w' b o x := by
  have hl := block_lt_of_cell h.k
  have e : ∀ i, w'.cell? ⟨b, i, none⟩ = w.cell? ⟨b, i, none⟩ := fun i => World.cell?_of_block (hb.block b (Nat.lt_of_lt_of_le hl hB))
  exact ⟨(e _).trans h.k, (e _).trans h.f, (e _).trans h.s, (e _).trans h.d⟩
/-- Deeds behind a slice. -/
def DIn (w : World) (A : Option Addr) (L : List Deed) : Prop := 0 < L.length → ∃ pb po, A = some ⟨pb, po, none⟩ ∧ ∀ (i : Nat) (o : Deed), L[i]? = some o → At4 w pb (po + i * 4) o
theorem DIn.below {w w' : World} {B : Nat} {A : Option Addr} {L : List Deed} (h : DIn w A L) (hb : Below B w w') (hB : w.heap.size ≤ B) : DIn w' A L := fun h0 => by
  obtain ⟨pb, po, e, hc⟩ := h h0
  exact ⟨pb, po, e, fun i o ho => (hc i o ho).below hb hB⟩
theorem DIn.nil (w : World) (A : Option Addr) : DIn w A [] := fun h => absurd h (by simp)
theorem DIn.news {w : World} {A : Option Addr} {L : List Deed} (h : DIn w A L) : 0 < L.length → ∃ ad, A = some ad ∧ ∀ j u, (dsL L)[j]? = some u → w.cell? (ad.add j) = some u := fun h0 => by
  obtain ⟨pb, po, e, hc⟩ := h h0
  refine ⟨_, e, fun j u hj => ?_⟩
  have hjl := (List.getElem?_eq_some_iff.1 hj).1
  rw [dsL_length] at hjl
  have hi : j / 4 < L.length := by omega
  obtain ⟨o, ho⟩ : ∃ o, L[j / 4]? = some o := ⟨_, List.getElem?_eq_getElem hi⟩
  have hat := dsL_at L _ o ho (j % 4) (by omega)
  rw [show j / 4 * 4 + j % 4 = j by omega, hj] at hat
  have h4 := hc _ o ho
  rw [Addr.add_lit]
  have hm : j % 4 < 4 := by omega
  have hd : j / 4 * 4 + j % 4 = j := by omega
  generalize j % 4 = m at hat hm hd
  match m, hm with
  | 0, _ => rw [← hd, ← Nat.add_assoc]; exact h4.k.trans hat.symm
  | 1, _ => rw [← hd, ← Nat.add_assoc]; exact h4.f.trans hat.symm
  | 2, _ => rw [← hd, ← Nat.add_assoc]; exact h4.s.trans hat.symm
  | 3, _ => rw [← hd, ← Nat.add_assoc]; exact h4.d.trans hat.symm
/-- A struct of a deed in a block of its own. -/
def boxD (t : TypeId) (o : Deed) : Obj := .cells #[.int .i64 o.k, .int .i64 o.f, .int .i64 o.s, .string o.d] t (0, 0)
theorem box_at {w : World} {b : Nat} {t : TypeId} {o : Deed} (h : w.heap[b]? = some (boxD t o)) : At4 w b 0 o :=
  ⟨cell_of_row w b 0 _ _ _ h, cell_of_row w b 1 _ _ _ h, cell_of_row w b 2 _ _ _ h, cell_of_row w b 3 _ _ _ h⟩
/-- Bytes in a row of one's own, of the blocks from base on. -/
def OwnT (w : World) (base : Nat) (v : Value) (l : List UInt8) : Prop := w.ownsRow base 5 1 v l.length (bcells l)
theorem OwnT.below {w w' : World} {B base : Nat} {v : Value} {l : List UInt8} (h : OwnT w base v l) (hb : Below B w w') (hB : w.heap.size ≤ B) : OwnT w' base v l := by
  refine ⟨h.1, ?_⟩
  rcases h.2 with hn | ⟨g, cap, cur, hv, h1, hg, r⟩
  · exact .inl hn
  · exact .inr ⟨g, cap, cur, hv, h1, (hb.block g (by have := (Array.getElem?_eq_some_iff.1 hg).1; omega)).trans hg, r⟩
theorem OwnT.slice {w : World} {base : Nat} {v : Value} {l : List UInt8} (h : OwnT w base v l) : ∃ A cap, v = .slice A l.length cap := by
  rcases h.2 with ⟨hn, h0⟩ | ⟨g, cap, cur, rfl, hb, _⟩
  · exact ⟨none, 0, by rw [hn, h0]⟩
  · exact ⟨_, cap, rfl⟩
theorem OwnT.lt {w : World} {base : Nat} {v : Value} {l : List UInt8} (h : OwnT w base v l) : ∀ g, v.ownBlock = some g → base ≤ g ∧ g < w.heap.size := fun g hg => World.ownsRow.lt h g hg
theorem OwnT.text {w : World} {base : Nat} {v : Value} {l : List UInt8} (h : OwnT w base v l) : ∀ W : World, W.heap = w.heap → (convert 92 9 v).run Tryz.prog W = .ok (.string ⟨l.toArray⟩) W := by
  rcases h.2 with ⟨hv, h0⟩ | ⟨g, cap, cur, hv, _⟩
  · subst hv
    have : l = [] := List.eq_nil_of_length_eq_zero h0
    subst this
    exact fun W _ => run_text_nil W
  · have := own_text (v := v) (g := g) (n := l.length) (cap := cap) h hv
    rw [hv]
    exact this
theorem OwnT.nil (w : World) (base : Nat) : OwnT w base (.slice none 0 0) [] := World.ownsRow_nil w base _ 1
/-- What is made by an append, of blocks from B on. -/
theorem below_grewT {w0 w wz : World} {B : Nat} {v : Value} {l : List UInt8} (hb : Below B w0 w) (hB : w0.heap.size = B) (ho : OwnT w B v l) (o : Obj) (hg : (w.alloc o).grownBy wz v.ownBlock) : Below B w0 wz :=
  (hb.alloc (by have := hb.size; omega) o).grown hg (by have := hb.size; simp; omega) (fun i hi => (ho.lt i hi).1)
theorem one_srcT (w : World) (c : Int) : ∀ j u, ([.int .u8 c] : List Value)[j]? = some u → (w.alloc (.cells #[.int .u8 c] 5)).cell? ((⟨w.heap.size, 0, none⟩ : Addr).add j) = some u := fun j u hj => by
  rw [Addr.add_lit, Nat.zero_add, cell_of_row _ _ _ _ _ _ (heap_alloc_new w _), ← hj]
  exact List.getElem?_toArray
theorem one_oneT (c : Int) : ∀ u ∈ ([.int .u8 c] : List Value), u.oneCell' = true := fun u hu => by
  obtain rfl := List.mem_singleton.1 hu
  rfl
end Pt
end Go.Proofs.YtlechjpaldpgnaaGreatDoor
namespace Go.Proofs.YtlechjpaldpgnaaGreatDoor
open Go.ChangeShapes Go.WideShapes Go.ChangeAt Go.RowKit Pn Pt
namespace Pt

/-- The byte that comes at a place of a deed's own. -/
def atB (b : ByteArray) (o : Deed) (i : Nat) : UInt8 := if o.k = 3 then byAt o.d i + byAt b (o.f.toNat + i) else byAt o.d i
def atL (b : ByteArray) (o : Deed) (n : Nat) : List UInt8 := (List.range n).map (atB b o)
theorem atL_length (b : ByteArray) (o : Deed) (n : Nat) : (atL b o n).length = n := by unfold atL; simp
theorem atL_next (b : ByteArray) (o : Deed) (n : Nat) : atL b o (n + 1) = atL b o n ++ [atB b o n] := by unfold atL; rw [List.range_succ, List.map_append]; rfl
theorem bytes_map (d : ByteArray) : (List.range d.size).map (byAt d) = d.data.toList := by
  have hd : d.data.toList.length = d.size := rfl
  apply List.ext_getElem?
  intro i
  rw [List.getElem?_map]
  by_cases h : i < d.size
  · rw [List.getElem?_range h]
    unfold byAt
    have hl : i < d.data.toList.length := h
    rw [Option.map_some, List.getD_eq_getElem?_getD, List.getElem?_eq_getElem hl]
    rfl
  · rw [List.getElem?_eq_none (by simp; omega), List.getElem?_eq_none (by rw [hd]; omega)]
    rfl
theorem atL_all {b : ByteArray} {o : Deed} (h : o.k ≠ 1) : atL b o o.d.size = comeL b o := by
  unfold comeL atL
  rw [if_neg h]
  by_cases h3 : o.k = 3
  · rw [if_pos h3]
    apply List.map_congr_left
    intro i _
    unfold atB
    rw [if_pos h3]
  · rw [if_neg h3, ← bytes_map]
    apply List.map_congr_left
    intro i _
    unfold atB
    rw [if_neg h3]
theorem pt_less (j m : Nat) (h : j + 1 ≤ m) : (match Value.int .i64 ((j : Int) + 1) with | .int _ k => m - k.toNat | _ => 0) < (match Value.int .i64 (j : Int) with | .int _ k => m - k.toNat | _ => 0) := by
  show m - ((j : Int) + 1).toNat < m - (j : Int).toNat
  omega
theorem add_u8 (x y : UInt8) : ((x.toNat : Int) + (y.toNat : Int)) % 256 = ((x + y).toNat : Int) := by
  have h1 := x.toNat_lt
  have h2 := y.toNat_lt
  rw [UInt8.toNat_add]
  omega
theorem cut_cells (b : ByteArray) (f s : Nat) : Lib.strCells (b.extract f (f + s)) = bcells ((b.data.toList.drop f).take s) := by
  rw [bcells_text]
  congr 1
  rw [ByteArray.data_extract, Array.toList_extract, List.extract_eq_take_drop]
  congr 1
  omega
/-- While a deed is done: what came, the deed, its bytes. -/
structure Dg (w : World) (base : Nat) (o : Deed) (wr : World) (v : Value) (l : List UInt8) : Prop where
  own : OwnT wr base v l
  box : wr.heap[w.heap.size]? = some (boxD 72 o)
  row : Tx.TRow wr (w.heap.size + 1) o.d.data.toList
  ne1 : v.ownBlock ≠ some w.heap.size
  ne2 : v.ownBlock ≠ some (w.heap.size + 1)
  below : Below base w wr
theorem Dg.next {w wr wz : World} {base g cap j : Nat} {o : Deed} {v : Value} {l : List UInt8} {z : UInt8} {ob : Obj} (h : Dg w base o wr v l) (hb : base ≤ w.heap.size) (hl : l.length = j)
    (hown : wz.ownsRow base 5 1 (.slice (some ⟨g, 0, none⟩) (j + 1) cap) (j + 1) (bcells l ++ [.int .u8 (z.toNat : Int)])) (hg : (wr.alloc ob).grownBy wz v.ownBlock) (hat : v.ownBlock = some g ∨ g = (wr.alloc ob).heap.size) :
    Dg w base o wz (.slice (some ⟨g, 0, none⟩) (j + 1) cap) (l ++ [z]) := by
  have hlt := h.row.lt
  have e1 : wz.heap[w.heap.size]? = wr.heap[w.heap.size]? := (hg.block _ (by simp; omega) (fun e => h.ne1 e.symm)).trans (heap_alloc_old _ _ (by omega))
  have e2 : wz.heap[w.heap.size + 1]? = wr.heap[w.heap.size + 1]? := (hg.block _ (by simp; omega) (fun e => h.ne2 e.symm)).trans (heap_alloc_old _ _ hlt)
  have hs : wr.heap.size < (wr.alloc ob).heap.size := by simp
  refine ⟨?_, e1.trans h.box, ?_, ?_, ?_, ?_⟩
  · unfold OwnT
    rw [bcells_append, List.length_append, hl]
    exact hown
  · obtain ⟨cs, lo, hi, hc, r⟩ := h.row
    exact ⟨cs, lo, hi, e2.trans hc, r⟩
  · intro e
    injection e with e
    have e' : g = w.heap.size := e
    rcases hat with hat | hat
    · exact h.ne1 (by rw [hat, e'])
    · omega
  · intro e
    injection e with e
    have e' : g = w.heap.size + 1 := e
    rcases hat with hat | hat
    · exact h.ne2 (by rw [hat, e'])
    · omega
  · have hbs := h.below.size
    exact (h.below.alloc (by omega) ob).grown hg (by simp; omega) (fun i hi => (h.own.lt i hi).1)
end Pt
set_option maxRecDepth 100000 in
set_option maxHeartbeats 6400000 in
theorem pt_do (w : World) (base : Nat) (hbase : base ≤ w.heap.size) (v : Value) (l : List UInt8) (h : OwnT w base v l) (b : ByteArray) (hbs : b.size ≤ 1073741824) (o : Deed) (hg : okD (b.size : Int) o = true) (hl : l.length + numD o ≤ 8192) :
    Calls Tryz.prog 102 #[v, .string b, dv o] w fun e w' => ∃ v', e = .returned v' ∧ OwnT w' base v' (l ++ comeL b o) ∧ Below base w w' := by
  obtain ⟨i0, hi, hz0, hz1, hz2⟩ := info_parts infoB
  have HI := Lib.hid hi
  have HZ0 := Lib.hid hz0
  have HZ1 := Lib.hid hz1
  have HZ2 := Lib.hid hz2
  have HB0 := Lib.hid hbase
  have HO := Lib.hid h
  have HWY := Lib.hid (way hg)
  have HBB := Lib.hid (show Below base w (w.alloc (boxD 72 o)) from (Below.refl _ _).alloc hbase _)
  have HHB := Lib.hid (show (w.alloc (boxD 72 o)).heap[w.heap.size]? = some (boxD 72 o) from heap_alloc_new w _)
  have HL := Lib.hid hl
  clear hi hz0 hz1 hz2 hbase h hl
  by_cases hk : o.k = 1
  · obtain ⟨hd, hin⟩ : o.d.size = 0 ∧ insZ (b.size : Int) o.f o.s = true := by
      cases HWY.out with
      | copy k d i => exact ⟨d, i⟩
      | lay k f s t => omega
      | add k s t i => omega
    obtain ⟨i1, i2, i3, i4⟩ := ins_iff.1 hin
    have HC := Lib.hid (show comeL b o = (b.data.toList.drop o.f.toNat).take o.s.toNat from if_pos hk)
    have HN := Lib.hid (show numD o = o.s.toNat from by unfold numD; omega)
    have hat := box_at HHB.out
    have HOA := Lib.hid (show OwnT (w.alloc (boxD 72 o)) base v l from HO.out.below ((Below.refl w.heap.size w).alloc (Nat.le_refl _) _) (Nat.le_refl _))
    obtain ⟨k, f, s, d⟩ := o
    simp only at hk i1 i2 i3 i4 HC HN
    subst hk
    obtain ⟨F, rfl⟩ : ∃ F : Nat, f = (F : Int) := ⟨f.toNat, by omega⟩
    obtain ⟨n, rfl⟩ : ∃ n : Nat, s = (n : Int) := ⟨s.toNat, by omega⟩
    have hcut := str_cut b F (F + n) (F : Int) ((F : Int) + (n : Int)) rfl (by omega) (by omega) (by omega)
    have e1 : IntKind.i64.wrap ((F : Int) + (n : Int)) = (F : Int) + (n : Int) := IntWalk.i64_in _ (by omega)
    have HCC := Lib.hid (cut_cells b F n)
    have hsz : (b.extract F (F + n)).size = n := by rw [extract_size _ _ _ (by omega)]; omega
    have HLN := Lib.hid (show l.length + n ≤ 8192 by have := HL.out; have := HN.out; rw [Int.toNat_natCast] at this; omega)
    simp only [Int.toNat_natCast] at HC
    generalize b.extract F (F + n) = q at hcut HCC hsz
    have HSZ := Lib.hid hsz
    obtain ⟨c0, c1, c2, c3⟩ := hat
    unfold dv
    clear hsz hin hg
    go_enter Tryz.func102, Tryz.ntmps102
    go_wp2_with (at_builtin; refine Lib.wpList_append_own_string _ rfl (.tmp 12) (.tmp 21) 92 9 rfl base 5 i0 Tryz.underlying92 Tryz.underlying9 HI.out HZ0.out HZ1.out HZ2.out v l.length (bcells l) rfl HOA.out q rfl (by have := HLN.out; rw [HSZ.out]; unfold maxLen; omega) (by have := HLN.out; rw [HSZ.out]; omega) (by have := HB0.out; simp; omega) ?_; intro v' w2 hown hgr _; have HOW := Lib.hid hown; have HGR := Lib.hid hgr; clear hown hgr)
    refine bodyPost_ret (results_tmp rfl _ _ _) rfl ?_
    refine ⟨v', rfl, ?_, HBB.out.grown HGR.out (by have := HB0.out; simp; omega) (fun i hi => (HOA.out.lt i hi).1)⟩
    have := HOW.out
    rw [HCC.out, ← bcells_append, HSZ.out] at this
    have hlc : (l ++ ((b.data.toList.drop F).take n)).length = l.length + n := by
      rw [List.length_append, ← bcells_length ((b.data.toList.drop F).take n), ← HCC.out, Lib.strCells_length, HSZ.out]
    rw [HC.out]
    unfold OwnT
    rw [hlc]
    exact this
  · have hs0 : o.s = 0 := by
      cases HWY.out with
      | copy k d i => exact absurd k hk
      | lay k f s t => exact s
      | add k s t i => exact s
    have HD := Lib.hid (show o.d.size ≤ 8192 by
      cases HWY.out with
      | copy k d i => omega
      | lay k f s t => exact (tel_iff.1 t).2
      | add k s t i => exact (tel_iff.1 t).2)
    have HIN := Lib.hid (show o.k = 3 → 0 ≤ o.f ∧ o.f + (o.d.size : Int) ≤ (b.size : Int) from fun h3 => by
      cases HWY.out with
      | copy k d i => omega
      | lay k f s t => omega
      | add k s t i =>
        have := ins_iff.1 i
        omega)
    have HALL := Lib.hid (atL_all (b := b) hk)
    have HLN := Lib.hid (show l.length + o.d.size ≤ 8192 by have := HL.out; unfold numD at this; omega)
    have HFX := Lib.hid (show ∀ W v', Tx.TRow W (w.heap.size + 1) o.d.data.toList → (w.alloc (boxD 72 o)).grownBy W none → v' = v → Dg w base o W v' (l ++ atL b o 0) from fun W v' hr hgr hv => by
      subst hv
      have hb1 : Below (w.alloc (boxD 72 o)).heap.size (w.alloc (boxD 72 o)) W := (Below.refl _ _).grown hgr (Nat.le_refl _) (fun k hk => by cases hk)
      have hlt := HO.out.lt
      refine ⟨?_, (hb1.block _ (by simp)).trans HHB.out, hr, fun e => ?_, fun e => ?_, HBB.out.trans (hb1.mono (by have := HB0.out; simp; omega))⟩
      · rw [show atL b o 0 = [] from rfl, List.append_nil]
        exact (HO.out.below ((Below.refl w.heap.size w).alloc (Nat.le_refl _) _) (Nat.le_refl _)).below hb1 (Nat.le_refl _)
      · have := (hlt _ e).2; omega
      · have := (hlt _ e).2; omega)
    have hat := box_at HHB.out
    obtain ⟨c0, c1, c2, c3⟩ := hat
    have k1 : (o.k == 1) = false := beq_eq_false_iff_ne.2 hk
    have HL8 := Lib.hid (show o.d.data.toList.length = o.d.size from rfl)
    have HBY := Lib.hid (fun j => show byAt o.d j = o.d.data.toList.getD j 0 from rfl)
    have HAT := Lib.hid (fun j (hn : ¬ o.k = 3) => show atB b o j = byAt o.d j from if_neg hn)
    have HAT3 := Lib.hid (fun j (hn : o.k = 3) => show atB b o j = byAt o.d j + byAt b (o.f.toNat + j) from if_pos hn)
    unfold dv
    clear hg hs0
    generalize hL8 : o.d.data.toList = L8 at HL8 HBY HFX
    have HQ8 := Lib.hid hL8
    go_enter Tryz.func102, Tryz.ntmps102
    go_wp2_with (refine Tx.wpList_bytes rfl (.tmp 24) rfl o.d rfl L8 HQ8.out ?_; intro cap w2 hrow hgr; have HRW := Lib.hid hrow; have HGR := Lib.hid hgr; clear hrow hgr)
    clear c0 c1 c2 c3 hL8
    have HS := Lib.hid (HFX.out _ _ (by simpa using HRW.out) HGR.out rfl)
    go_loopw [0, 27] (fun x i wr => ∃ (j : Nat) (G : Option Addr) (cg : Nat), i = .int .i64 (j : Int) ∧ j ≤ o.d.size ∧ x = .slice G (l.length + j) cg ∧ Dg w base o wr x (l ++ atL b o j)) (fun _ i _ => match i with | .int _ k => o.d.size - k.toNat | _ => 0)
    case atStart =>
      obtain ⟨G, cg, hv⟩ := HO.out.slice
      exact ⟨0, G, cg, rfl, Nat.zero_le _, hv, HS.out⟩
    case round =>
      clear HS HFX
      obtain ⟨j, G, cg, rfl, hj, rfl, hdg⟩ := hrel
      have HDG := Lib.hid hdg
      have hat := box_at hdg.box
      obtain ⟨c0, c1, c2, c3⟩ := hat
      have HJL := Lib.hid (show (l ++ atL b o j).length = l.length + j by rw [List.length_append, atL_length])
      have x2 : 0 ≤ (j : Int) := by omega
      by_cases hlt : j < o.d.size
      · have x0 : (j : Int) < (L8.length : Int) := by have := HL8.out; omega
        have x1 : decide ((j : Int) < (L8.length : Int)) = true := decide_eq_true x0
        have c8 := hdg.row.cell (j := j) (by have := HL8.out; rw [HQ8.out]; omega)
        rw [HQ8.out, ← HBY.out] at c8
        have HJ := Lib.hid (show j + 1 ≤ o.d.size by omega)
        have HNX := Lib.hid (show ∀ (wz : World) (g cap : Nat), wz.ownsRow base 5 1 (.slice (some ⟨g, 0, none⟩) (l.length + j + 1) cap) (l.length + j + 1) (bcells (l ++ atL b o j) ++ [.int .u8 ((atB b o j).toNat : Int)]) → ∀ ob, (wr.alloc ob).grownBy wz (Value.slice G (l.length + j) cg).ownBlock → ((Value.slice G (l.length + j) cg).ownBlock = some g ∨ g = (wr.alloc ob).heap.size) → Dg w base o wz (.slice (some ⟨g, 0, none⟩) (l.length + j + 1) cap) (l ++ atL b o (j + 1)) from fun wz g cap h1 ob h2 h3 => by
          rw [atL_next, ← List.append_assoc]
          exact Dg.next HDG.out HB0.out HJL.out h1 h2 h3)
        have HOW := Lib.hid (show wr.ownsRow base 5 1 (.slice G (l.length + j) cg) (l.length + j) (bcells (l ++ atL b o j)) from by
          have := HDG.out.own
          unfold OwnT at this
          rw [HJL.out] at this
          exact this)
        clear hdg hj
        by_cases hk3 : o.k = 3
        · have k3 : (o.k == 3) = true := beq_iff_eq.2 hk3
          obtain ⟨h0, h1⟩ := HIN.out hk3
          have e1 := IntWalk.wrap64_in (o.f + (j : Int)) (by omega)
          have hx := fun W => index_by b (o.f.toNat + j) (by omega) (o.f + (j : Int)) (by omega) W
          have HZ := Lib.hid (HAT3.out j hk3)
          have e8 := add_u8 (byAt o.d j) (byAt b (o.f.toNat + j))
          rw [← HZ.out] at e8
          generalize atB b o j = z at HNX e8
          generalize byAt b (o.f.toNat + j) = z2 at hx e8
          generalize byAt o.d j = z1 at c8 e8
          clear h0 h1 hk3
          go_wp2_with (at_builtin; refine wpList_append_lies _ rfl (.tmp 43) (.tmp 45) 92 rfl base 5 i0 _ 1 1 Tryz.underlying92 HI.out HZ0.out HZ1.out HZ2.out rfl (by omega) (.slice G (l.length + j) cg) (l.length + j) _ rfl (HOW.out.alloc _) ⟨wr.heap.size, 0, none⟩ 1 1 [.int .u8 (z.toNat : Int)] rfl rfl (one_srcT wr z.toNat) (one_oneT z.toNat) (by omega) (by have := HLN.out; unfold maxLen; omega) (by have := HLN.out; omega) (by have h1 := HDG.out.below.size; have h2 := HB0.out; simp; omega) _ rfl ?_; intro gz cap2 wz hownz hgrow hatz hltz; have HND := Lib.hid (HNX.out wz gz cap2 hownz _ hgrow hatz); clear hownz hgrow hatz hltz)
          try rw [IntWalk.wrap64_in ((j : Int) + 1) (by have := HD.out; have := HJ.out; omega)]
          exact ⟨⟨j + 1, _, cap2, rfl, HJ.out, rfl, HND.out⟩, pt_less j o.d.size HJ.out⟩
        · have k3 : (o.k == 3) = false := beq_eq_false_iff_ne.2 hk3
          have HZ := Lib.hid (HAT.out j hk3)
          rw [← HZ.out] at c8
          generalize atB b o j = z at HNX c8
          go_wp2_with (at_builtin; refine wpList_append_lies _ rfl (.tmp 43) (.tmp 45) 92 rfl base 5 i0 _ 1 1 Tryz.underlying92 HI.out HZ0.out HZ1.out HZ2.out rfl (by omega) (.slice G (l.length + j) cg) (l.length + j) _ rfl (HOW.out.alloc _) ⟨wr.heap.size, 0, none⟩ 1 1 [.int .u8 (z.toNat : Int)] rfl rfl (one_srcT wr z.toNat) (one_oneT z.toNat) (by omega) (by have := HLN.out; unfold maxLen; omega) (by have := HLN.out; omega) (by have h1 := HDG.out.below.size; have h2 := HB0.out; simp; omega) _ rfl ?_; intro gz cap2 wz hownz hgrow hatz hltz; have HND := Lib.hid (HNX.out wz gz cap2 hownz _ hgrow hatz); clear hownz hgrow hatz hltz)
          try rw [IntWalk.wrap64_in ((j : Int) + 1) (by have := HD.out; have := HJ.out; omega)]
          exact ⟨⟨j + 1, _, cap2, rfl, HJ.out, rfl, HND.out⟩, pt_less j o.d.size HJ.out⟩
      · have hje : j = o.d.size := by omega
        subst hje
        have x0 : ¬ ((o.d.size : Nat) : Int) < (L8.length : Int) := by have := HL8.out; omega
        have x1 : decide (((o.d.size : Nat) : Int) < (L8.length : Int)) = false := decide_eq_false x0
        go_wp2_with (fail)
        refine bodyPost_ret (results_tmp rfl _ _ _) rfl ?_
        refine ⟨_, rfl, ?_, HDG.out.below⟩
        rw [← HALL.out]
        exact HDG.out.own
end Go.Proofs.YtlechjpaldpgnaaGreatDoor
namespace Go.Proofs.YtlechjpaldpgnaaGreatDoor
open Go.ChangeShapes Go.WideShapes Go.ChangeAt Go.RowKit Pn Pt
namespace Pt
theorem deeds_at {L : List Deed} {j : Nat} (h : j < L.length) : L.drop j = L.getD j dz :: L.drop (j + 1) := by
  rw [List.drop_eq_getElem_cons h, List.getD_eq_getElem?_getD, List.getElem?_eq_getElem h]
  rfl
theorem deed_at {L : List Deed} {j : Nat} (h : j < L.length) : L[j]? = some (L.getD j dz) := by
  rw [List.getD_eq_getElem?_getD, List.getElem?_eq_getElem h]
  rfl
theorem ok_size {n : Int} {o : Deed} (h : okD n o = true) : 0 ≤ o.s ∧ o.s ≤ n ∨ o.s = 0 := by
  cases way h with
  | copy k d i => have := ins_iff.1 i; omega
  | lay k f s t => omega
  | add k s t i => omega
theorem ok_data {n : Int} {o : Deed} (h : okD n o = true) : o.d.size ≤ 8192 := by
  cases way h with
  | copy k d i => omega
  | lay k f s t => exact (tel_iff.1 t).2
  | add k s t i => exact (tel_iff.1 t).2
end Pt
set_option maxRecDepth 100000 in
set_option maxHeartbeats 6400000 in
theorem pt_apply (w : World) (b : ByteArray) (hbs : b.size ≤ 1073741824) (A : Option Addr) (n c : Nat) (L : List Deed) (hL : L.length = n) (hn : n ≤ 1000000) (hA : DIn w A L) :
    Calls Tryz.prog 76 #[.string b, .slice A n c] w fun e w' => e = .returned (.tuple #[.string ⟨(appD b [] L).1.toArray⟩, .int .i64 (appD b [] L).2]) ∧ Below w.heap.size w w' := by
  have HL := Lib.hid hL
  have HN := Lib.hid hn
  have HA := Lib.hid hA
  have HG := Lib.hid (fun o W => pt_good (b.size : Int) (by omega) (by omega) o W)
  have HBS := Lib.hid hbs
  generalize hR : appD b [] L = R
  have HR := Lib.hid hR
  have HS0 := Lib.hid (OwnT.nil w w.heap.size)
  clear hL hn hA hR hbs
  go_enter Tryz.func76, Tryz.ntmps76
  go_wp2_with (fail)
  go_loopw [6, 11] (fun x i wr => ∃ (j : Nat) (G : Option Addr) (cg : Nat) (l : List UInt8), i = .int .i64 (j : Int) ∧ j ≤ n ∧ x = .slice G l.length cg ∧ l.length ≤ 8192 ∧ appD b l (L.drop j) = R ∧ OwnT wr w.heap.size x l ∧ Below w.heap.size w wr) (fun _ i _ => match i with | .int _ k => n - k.toNat | _ => 0)
  case atStart => exact ⟨0, none, 0, [], rfl, Nat.zero_le _, rfl, Nat.zero_le _, HR.out, HS0.out, Below.refl _ _⟩
  case round =>
    clear HS0
    obtain ⟨j, G, cg, l, rfl, hj, rfl, hll, hap, ho, hb⟩ := hrel
    have HLL := Lib.hid hll
    have HAP := Lib.hid hap
    have HO := Lib.hid ho
    have HB := Lib.hid hb
    clear hll hap ho hb
    have x2 : 0 ≤ (j : Int) := by omega
    by_cases hlt : j < n
    · have x0 : (j : Int) < (n : Int) := by omega
      have x1 : decide ((j : Int) < (n : Int)) = true := decide_eq_true x0
      have hjl : j < L.length := by rw [HL.out]; exact hlt
      obtain ⟨pb, po, rfl, hc⟩ := (HA.out.below HB.out (Nat.le_refl _)) (by omega)
      obtain ⟨c0, c1, c2, c3⟩ := hc j _ (deed_at hjl)
      have hap := HAP.out
      rw [deeds_at hjl] at hap
      have HJ := Lib.hid (show j + 1 ≤ n by omega)
      generalize L.getD j dz = o at c0 c1 c2 c3 hap
      have HAN := Lib.hid hap
      have hw1 := IntWalk.wrap64_in ((j : Int) + 1) (by have := HN.out; omega)
      have HW1 := Lib.hid hw1
      have HGO := Lib.hid (HG.out o)
      unfold dv at HGO
      clear hc hap hjl hlt HAP HG hw1
      cases hgd : okD (b.size : Int) o with
      | false =>
        rw [hgd] at HGO
        have HE := Lib.hid (HAN.out.symm.trans (app_not hgd))
        clear hgd
        go_wp2_with (go_at_call 57; refine (HGO.out _).mono ?_; rintro e w2 ⟨rfl, b2⟩; have HB2 := Lib.hid b2; clear b2)
        refine bodyPost_ret (results_tmp2 rfl _ _ _) rfl ?_
        rw [HE.out]
        exact ⟨rfl, (HB.out.alloc HB.out.size _).trans (HB2.out.mono (by have := HB.out.size; simp; omega))⟩
      | true =>
        rw [hgd] at HGO
        have HSZ := Lib.hid (ok_size hgd)
        have HDT := Lib.hid (ok_data hgd)
        have HGD := Lib.hid hgd
        obtain ⟨z, hz⟩ : ∃ z : Nat, o.s = (z : Int) := ⟨o.s.toNat, by have := HSZ.out; omega⟩
        have HZZ := Lib.hid (show numD o = z + o.d.size by unfold numD; omega)
        have HZL := Lib.hid (show z ≤ 1073741824 by have := HSZ.out; have := HBS.out; omega)
        have hw2 := IntWalk.wrap64_in ((l.length : Int) + (z : Int)) (by have := HLL.out; have := HZL.out; omega)
        have hw3 := IntWalk.wrap64_in ((l.length : Int) + (z : Int) + (o.d.size : Int)) (by have := HLL.out; have := HZL.out; have := HDT.out; omega)
        have HDO := Lib.hid (show l.length + numD o ≤ 8192 → ∀ (W : World) (v : Value), Below w.heap.size w W → OwnT W w.heap.size v l → Calls Tryz.prog 102 #[v, .string b, dv o] W fun e w' => ∃ v', e = .returned v' ∧ OwnT w' w.heap.size v' (l ++ comeL b o) ∧ Below w.heap.size W w' from
          fun h W v hW hv => pt_do W w.heap.size hW.size v l hv b HBS.out o HGD.out h)
        have HCL := Lib.hid (come_length hgd)
        unfold dv at HDO
        rw [hz] at c2 HGO HDO
        clear hgd
        by_cases hlen : l.length + numD o ≤ 8192
        · have y0 : ¬ 8192 < (l.length : Int) + (z : Int) + (o.d.size : Int) := by have := HZZ.out; omega
          have y1 : decide (8192 < (l.length : Int) + (z : Int) + (o.d.size : Int)) = false := decide_eq_false y0
          have HNX := Lib.hid ((app_yes HGD.out hlen).symm.trans HAN.out)
          have HLL2 := Lib.hid (show (l ++ comeL b o).length ≤ 8192 by rw [List.length_append, HCL.out]; exact hlen)
          have HDD := Lib.hid (HDO.out hlen)
          clear hlen HDO HAN
          generalize l ++ comeL b o = l2 at HNX HLL2 HDD
          go_wp2_with (first | (go_at_call 57; refine (HGO.out _).mono ?_; rintro e w2 ⟨rfl, b2⟩; have HB2 := Lib.hid (show Below w.heap.size w w2 from (HB.out.alloc HB.out.size _).trans (b2.mono (by have := HB.out.size; simp; omega))); obtain ⟨d0, d1, d2, d3⟩ := box_at (t := 72) (o := o) ((b2.block wr.heap.size (by simp)).trans (by unfold boxD; rw [hz]; exact heap_alloc_new wr _)); rw [hz] at d2; have HO2 := Lib.hid (OwnT.below (HO.out.below ((Below.refl wr.heap.size wr).alloc (Nat.le_refl _) _) (Nat.le_refl _)) b2 (Nat.le_refl _)); clear b2) | (go_at_call 102; refine (HDD.out _ _ HB2.out HO2.out).mono ?_; rintro e w3 ⟨v', rfl, ho3, b3⟩; obtain ⟨G3, c3', rfl⟩ := ho3.slice; have HO3 := Lib.hid ho3; have HB3 := Lib.hid (HB2.out.trans b3); clear ho3 b3))
          try rw [HW1.out]
          exact ⟨⟨j + 1, _, _, l2, rfl, HJ.out, rfl, HLL2.out, HNX.out, HO3.out, HB3.out⟩, pt_less j n HJ.out⟩
        · have y0 : 8192 < (l.length : Int) + (z : Int) + (o.d.size : Int) := by have := HZZ.out; omega
          have y1 : decide (8192 < (l.length : Int) + (z : Int) + (o.d.size : Int)) = true := decide_eq_true y0
          have HE := Lib.hid (HAN.out.symm.trans (app_long HGD.out hlen))
          clear hlen HDO
          go_wp2_with (first | (go_at_call 57; refine (HGO.out _).mono ?_; rintro e w2 ⟨rfl, b2⟩; have HB2 := Lib.hid (show Below w.heap.size w w2 from (HB.out.alloc HB.out.size _).trans (b2.mono (by have := HB.out.size; simp; omega))); obtain ⟨d0, d1, d2, d3⟩ := box_at (t := 72) (o := o) ((b2.block wr.heap.size (by simp)).trans (by unfold boxD; rw [hz]; exact heap_alloc_new wr _)); rw [hz] at d2; have HO2 := Lib.hid (OwnT.below (HO.out.below ((Below.refl wr.heap.size wr).alloc (Nat.le_refl _) _) (Nat.le_refl _)) b2 (Nat.le_refl _)); clear b2))
          refine bodyPost_ret (results_tmp2 rfl _ _ _) rfl ?_
          rw [HE.out]
          exact ⟨rfl, HB2.out⟩
    · have hje : j = n := by omega
      subst hje
      have x0 : ¬ (j : Int) < (j : Int) := by omega
      have x1 : decide ((j : Int) < (j : Int)) = false := decide_eq_false x0
      have hap := HAP.out
      rw [List.drop_eq_nil_of_le (by rw [HL.out]; exact Nat.le_refl _)] at hap
      have HE := Lib.hid (hap.symm.trans (show appD b l [] = (l, 0) from rfl))
      have hcv := HO.out.text wr rfl
      clear hap
      go_wp2_with (fail)
      refine bodyPost_ret (results_tmp2 rfl _ _ _) rfl ?_
      rw [HE.out]
      exact ⟨rfl, HB.out⟩
end Go.Proofs.YtlechjpaldpgnaaGreatDoor
namespace Go.Proofs.YtlechjpaldpgnaaGreatDoor
open Go.ChangeShapes Go.WideShapes Go.ChangeAt Go.RowKit Pn Pt
namespace Pt
/-- What a pen in block p wrote; no number of it was too great. -/
def PenL (w : World) (p : Nat) (m : List UInt8) : Prop := ∃ l, PenAt w p l false ∧ penL l = m
theorem PenL.lt {w : World} {p : Nat} {m : List UInt8} (h : PenL w p m) : p < w.heap.size := by obtain ⟨l, h, _⟩ := h; exact h.lt
theorem PenL.below {w w' : World} {p : Nat} {m : List UInt8} (h : PenL w p m) (hb : Below w.heap.size w w') : PenL w' p m := by
  obtain ⟨l, h1, h2⟩ := h
  exact ⟨l, h1.below hb, h2⟩
theorem PenL.alloc {w : World} {p : Nat} {m : List UInt8} (h : PenL w p m) (o : Obj) : PenL (w.alloc o) p m := h.below ((Below.refl _ _).alloc (Nat.le_refl _) o)
def LSays (w : World) (p : Nat) (m : List UInt8) (e : Ending) (w' : World) : Prop := e = .returned (.tuple #[]) ∧ PenL w' p m ∧ Only w w' p
theorem total_of {l : List ByteArray} {m : List UInt8} (h : penL l = m) : total l = m.length := by rw [← h, penL_length]
theorem numsL_one (x : Int) : numsL (fun k => [x].getD k 0) 1 = numL x := by simp [numsL, List.range, List.range.loop]
theorem numsL_two (x y : Int) : numsL (fun k => [x, y].getD k 0) 2 = numL x ++ numL y := by simp [numsL, List.range, List.range.loop]
theorem textsL_one (s : ByteArray) : textsL (fun _ => s) 1 = textL s := by simp [textsL, List.range, List.range.loop]
theorem num_ok {x : Int} (h0 : 0 ≤ x) (h1 : x ≤ 2147483647) : numOk x = true := by unfold numOk; rw [decide_eq_true h0, decide_eq_true (by omega)]; rfl
end Pt
section
variable (w : World) (p : Nat) (m : List UInt8) (h : PenL w p m) (hm : m.length ≤ 100000000) (g cap : Nat) (hne : g ≠ p)
include h hm hne
theorem penl_num1 (x : Int) (h0 : 0 ≤ x) (h1 : x ≤ 2147483647) (hc : w.cell? ⟨g, 0, none⟩ = some (.int .i64 x)) :
    Calls Tryz.prog 56 #[.pointer (some ⟨p, 0, none⟩), .slice (some ⟨g, 0, none⟩) 1 cap] w (LSays w p (m ++ numL x)) := by
  obtain ⟨l, hl, he⟩ := h
  refine (pen_num w p l false hl (some ⟨g, 0, none⟩) 1 cap (fun k => [x].getD k 0) (by omega) (fun _ => ⟨g, 0, rfl, hne, fun k hk => ?_⟩) (by rw [total_of he]; omega)).mono ?_
  · obtain rfl : k = 0 := by omega
    exact hc
  · rintro e w' ⟨rfl, h1', h2⟩
    have hb : (false || !numsOk (fun k => [x].getD k 0) 1) = false := by
      have := num_ok h0 h1
      simp [numsOk, List.range, List.range.loop, this]
    rw [hb] at h1'
    exact ⟨rfl, ⟨_, h1', by rw [penL, he, numsL_one]⟩, h2⟩
theorem penl_num2 (x y : Int) (h0 : 0 ≤ x) (h1 : x ≤ 2147483647) (h2 : 0 ≤ y) (h3 : y ≤ 2147483647) (hc : w.cell? ⟨g, 0, none⟩ = some (.int .i64 x)) (hd : w.cell? ⟨g, 1, none⟩ = some (.int .i64 y)) :
    Calls Tryz.prog 56 #[.pointer (some ⟨p, 0, none⟩), .slice (some ⟨g, 0, none⟩) 2 cap] w (LSays w p (m ++ (numL x ++ numL y))) := by
  obtain ⟨l, hl, he⟩ := h
  refine (pen_num w p l false hl (some ⟨g, 0, none⟩) 2 cap (fun k => [x, y].getD k 0) (by omega) (fun _ => ⟨g, 0, rfl, hne, fun k hk => ?_⟩) (by rw [total_of he]; omega)).mono ?_
  · match k, hk with
    | 0, _ => exact hc
    | 1, _ => exact hd
  · rintro e w' ⟨rfl, h1', h2'⟩
    have hb : (false || !numsOk (fun k => [x, y].getD k 0) 2) = false := by
      have a := num_ok h0 h1
      have b := num_ok h2 h3
      simp [numsOk, List.range, List.range.loop, a, b]
    rw [hb] at h1'
    exact ⟨rfl, ⟨_, h1', by rw [penL, he, numsL_two]⟩, h2'⟩
theorem penl_text (s : ByteArray) (hs : s.size ≤ 8192) (hc : w.cell? ⟨g, 0, none⟩ = some (.string s)) :
    Calls Tryz.prog 91 #[.pointer (some ⟨p, 0, none⟩), .slice (some ⟨g, 0, none⟩) 1 cap] w (LSays w p (m ++ textL s)) := by
  obtain ⟨l, hl, he⟩ := h
  refine (pen_text w p l false hl (some ⟨g, 0, none⟩) 1 cap (fun _ => s) (by omega) (fun _ _ => by omega) (fun _ => ⟨g, 0, rfl, hne, fun k hk => ?_⟩) (by rw [total_of he]; omega)).mono ?_
  · obtain rfl : k = 0 := by omega
    exact hc
  · rintro e w' ⟨rfl, h1', h2⟩
    exact ⟨rfl, ⟨_, h1', by rw [penL, he, textsL_one]⟩, h2⟩
omit hne in
theorem penl_byte (x : UInt8) (hc : w.cell? ⟨g, 0, none⟩ = some (.int .u8 (x.toNat : Int))) :
    Calls Tryz.prog 90 #[.pointer (some ⟨p, 0, none⟩), .slice (some ⟨g, 0, none⟩) 1 cap] w (LSays w p (m ++ [x])) := by
  obtain ⟨l, hl, he⟩ := h
  refine (pen_byte w p l false hl (some ⟨g, 0, none⟩) 1 cap ⟨#[x]⟩ rfl (by show 1 + total l < _; rw [total_of he]; omega) (fun W hW => run_text W _ 1 cap [x] rfl fun j u hj => ?_)).mono ?_
  · have hj0 : j = 0 := by have := (List.getElem?_eq_some_iff.1 hj).1; rw [bcells_length] at this; simp at this; exact this
    subst hj0
    have hu : u = .int .u8 (x.toNat : Int) := (Option.some.inj hj).symm
    rw [hu, Addr.add_lit, World.cell?_of_block (w := w) (by rw [hW])]
    exact hc
  · rintro e w' ⟨rfl, h1', h2⟩
    exact ⟨rfl, ⟨_, h1', by rw [penL, he]⟩, h2⟩
end
theorem only_drop {w w2 : World} {o : Obj} {p : Nat} (h : Only (w.alloc o) w2 p) : Only w w2 p := (Only.of_below ((Below.refl _ _).alloc (Nat.le_refl _) o) p).trans h
theorem only_box {w w2 : World} {p g : Nat} {o : Obj} (h : w.heap[g]? = some o) (ho : Only w w2 p) (hne : g ≠ p) : w2.heap[g]? = some o := (ho.block g (Array.getElem?_eq_some_iff.1 h).1 hne).trans h
theorem bytL_copy (f s : Int) (d : ByteArray) : bytL ⟨1, f, s, d⟩ = [1] ++ (numL f ++ numL s) := by
  unfold bytL
  rw [if_pos rfl]
  rfl
theorem bytL_lay (f s : Int) (d : ByteArray) : bytL ⟨2, f, s, d⟩ = [2] ++ textL d := by
  unfold bytL
  rw [if_neg (show ¬ (2 : Int) = 1 by decide), if_pos rfl]
  rfl
theorem bytL_add (f s : Int) (d : ByteArray) : bytL ⟨3, f, s, d⟩ = [3] ++ (numL f ++ textL d) := by
  unfold bytL
  rw [if_neg (show ¬ (3 : Int) = 1 by decide), if_neg (show ¬ (3 : Int) = 2 by decide)]
  rfl
theorem one_cell (w : World) (v : Value) (t : TypeId) : (w.alloc (.cells #[v] t)).cell? ⟨w.heap.size, 0, none⟩ = some v := cell_of_row _ _ 0 _ _ _ (heap_alloc_new w _)
theorem two_cell (w : World) (u v : Value) (t : TypeId) : (w.alloc (.cells #[u, v] t)).cell? ⟨w.heap.size, 0, none⟩ = some u ∧ (w.alloc (.cells #[u, v] t)).cell? ⟨w.heap.size, 1, none⟩ = some v := ⟨cell_of_row _ _ 0 _ _ _ (heap_alloc_new w _), cell_of_row _ _ 1 _ _ _ (heap_alloc_new w _)⟩
/-- Behind the kind's byte. -/
theorem wr_byte {w W w2 : World} {o : Deed} {p : Nat} (hp : p < w.heap.size) (hW : W = (w.alloc (boxD 72 o)).alloc (.cells #[.int .u8 (o.k % 256)] 5)) (ho : Only W w2 p) : Only w w2 p ∧ w2.heap[w.heap.size]? = some (boxD 72 o) := by
  subst hW
  exact ⟨only_drop (only_drop ho), only_box ((heap_alloc_old _ _ (by simp)).trans (heap_alloc_new w _)) ho (by omega)⟩
set_option maxRecDepth 100000 in
set_option maxHeartbeats 6400000 in
theorem pt_write (w : World) (p : Nat) (m : List UInt8) (h : PenL w p m) (hm : m.length ≤ 50000000) (o : Deed) (hg : okD mxB o = true) :
    Calls Tryz.prog 58 #[.pointer (some ⟨p, 0, none⟩), dv o] w (LSays w p (m ++ bytL o)) := by
  have hp := h.lt
  have HP := Lib.hid hp
  have HM := Lib.hid hm
  have HY := Lib.hid h
  have H1 := Lib.hid (fun (x : UInt8) (W : World) (v : Value) (hv : v = .int .u8 (x.toNat : Int)) (hW : W = (w.alloc (boxD 72 o)).alloc (.cells #[v] 5)) => show Calls Tryz.prog 90 #[.pointer (some ⟨p, 0, none⟩), .slice (some ⟨w.heap.size + 1, 0, none⟩) 1 1] W (LSays W p (m ++ [x])) from by
    subst hW hv
    have := one_cell (w.alloc (boxD 72 o)) (.int .u8 (x.toNat : Int)) 5
    rw [World.size_alloc] at this
    exact penl_byte _ p m ((h.alloc _).alloc _) (by omega) (w.heap.size + 1) 1 x this)
  have HWY := Lib.hid (way hg)
  clear h hm hg hp
  obtain ⟨k, f, s, d⟩ := o
  unfold dv
  unfold boxD at H1
  simp only at H1 ⊢
  rcases HWY.out with ⟨hk, hd, hi⟩ | ⟨hk, hf, hs, ht⟩ | ⟨hk, hs, ht, hi⟩
  · simp only at hk hd hi
    subst hk
    have hins := ins_iff.1 hi
    rw [bytL_copy]
    have HQ := Lib.hid hins
    have HA := Lib.hid (H1.out 1)
    have HX := Lib.hid (fun (W w2 : World) (hW : W = _) (ho : Only W w2 p) => wr_byte (o := ⟨1, f, s, d⟩) HP.out hW ho)
    clear hins hd hi H1 HWY
    go_enter Tryz.func58, Tryz.ntmps58
    go_wp2_with (fail)
    refine (HA.out _ _ rfl rfl).mono ?_
    rintro e w2 ⟨rfl, p2, o2⟩
    have HO := Lib.hid (HX.out _ _ rfl o2)
    have HP2 := Lib.hid p2
    obtain ⟨d0, d1, d2, d3⟩ := box_at HO.out.2
    have HB := Lib.hid (show Calls Tryz.prog 56 #[.pointer (some ⟨p, 0, none⟩), .slice (some ⟨w2.heap.size, 0, none⟩) 2 2] (w2.alloc (.cells #[.int .i64 f, .int .i64 s] 3)) (LSays (w2.alloc (.cells #[.int .i64 f, .int .i64 s] 3)) p (m ++ [1] ++ (numL f ++ numL s))) from
      penl_num2 _ p (m ++ [1]) (HP2.out.alloc _) (by have := HM.out; simp; omega) w2.heap.size 2 (by have := HP2.out.lt; omega) f s (by have := HQ.out; omega) (by have := HQ.out; unfold mxB at this; omega) (by have := HQ.out; omega) (by have := HQ.out; unfold mxB at this; omega) (two_cell w2 _ _ _).1 (two_cell w2 _ _ _).2)
    clear p2 o2
    go_wp2_with (fail)
    refine HB.out.mono ?_
    rintro e w3 ⟨rfl, p3, o3⟩
    have HP3 := Lib.hid p3
    clear p3
    go_wp2
    go_end0
    exact ⟨rfl, by have := HP3.out; rw [List.append_assoc] at this; exact this, HO.out.1.trans (only_drop o3)⟩
  · simp only at hk hf hs ht
    subst hk
    have htl := tel_iff.1 ht
    rw [bytL_lay]
    have HQ := Lib.hid htl
    have HA := Lib.hid (H1.out 2)
    have HX := Lib.hid (fun (W w2 : World) (hW : W = _) (ho : Only W w2 p) => wr_byte (o := ⟨2, f, s, d⟩) HP.out hW ho)
    clear htl ht hf hs H1 HWY
    go_enter Tryz.func58, Tryz.ntmps58
    go_wp2_with (fail)
    refine (HA.out _ _ rfl rfl).mono ?_
    rintro e w2 ⟨rfl, p2, o2⟩
    have HO := Lib.hid (HX.out _ _ rfl o2)
    have HP2 := Lib.hid p2
    obtain ⟨d0, d1, d2, d3⟩ := box_at HO.out.2
    have HB := Lib.hid (show Calls Tryz.prog 91 #[.pointer (some ⟨p, 0, none⟩), .slice (some ⟨w2.heap.size, 0, none⟩) 1 1] (w2.alloc (.cells #[.string d] 9)) (LSays (w2.alloc (.cells #[.string d] 9)) p (m ++ [2] ++ textL d)) from
      penl_text _ p (m ++ [2]) (HP2.out.alloc _) (by have := HM.out; simp; omega) w2.heap.size 1 (by have := HP2.out.lt; omega) d HQ.out.2 (one_cell w2 _ _))
    clear p2 o2
    go_wp2_with (fail)
    refine HB.out.mono ?_
    rintro e w3 ⟨rfl, p3, o3⟩
    have HP3 := Lib.hid p3
    clear p3
    go_wp2
    go_end0
    exact ⟨rfl, by have := HP3.out; rw [List.append_assoc] at this; exact this, HO.out.1.trans (only_drop o3)⟩
  · simp only at hk hs ht hi
    subst hk
    have htl := tel_iff.1 ht
    have hins := ins_iff.1 hi
    rw [bytL_add]
    have HQ := Lib.hid htl
    have HQ2 := Lib.hid hins
    have HA := Lib.hid (H1.out 3)
    have HX := Lib.hid (fun (W w2 : World) (hW : W = _) (ho : Only W w2 p) => wr_byte (o := ⟨3, f, s, d⟩) HP.out hW ho)
    clear htl hins ht hi hs H1 HWY
    go_enter Tryz.func58, Tryz.ntmps58
    go_wp2_with (fail)
    refine (HA.out _ _ rfl rfl).mono ?_
    rintro e w2 ⟨rfl, p2, o2⟩
    have HO := Lib.hid (HX.out _ _ rfl o2)
    have HP2 := Lib.hid p2
    obtain ⟨d0, d1, d2, d3⟩ := box_at HO.out.2
    have HB := Lib.hid (show Calls Tryz.prog 56 #[.pointer (some ⟨p, 0, none⟩), .slice (some ⟨w2.heap.size, 0, none⟩) 1 1] (w2.alloc (.cells #[.int .i64 f] 3)) (LSays (w2.alloc (.cells #[.int .i64 f] 3)) p (m ++ [3] ++ numL f)) from
      penl_num1 _ p (m ++ [3]) (HP2.out.alloc _) (by have := HM.out; simp; omega) w2.heap.size 1 (by have := HP2.out.lt; omega) f (by have := HQ2.out; omega) (by have := HQ2.out; unfold mxB at this; omega) (one_cell w2 _ _))
    have HZ2 := Lib.hid (HP2.out.lt)
    clear p2 o2 d2
    go_wp2_with (fail)
    refine HB.out.mono ?_
    rintro e w3 ⟨rfl, p3, o3⟩
    have HP3 := Lib.hid p3
    have hb3 := only_box ((heap_alloc_old _ _ (by have := (Array.getElem?_eq_some_iff.1 HO.out.2).1; omega)).trans HO.out.2) o3 (by have := HP.out; omega)
    have HB3 := Lib.hid hb3
    obtain ⟨e0, e1, e2, e3⟩ := box_at HB3.out
    have HO3 := Lib.hid (HO.out.1.trans (only_drop o3))
    have HC := Lib.hid (show Calls Tryz.prog 91 #[.pointer (some ⟨p, 0, none⟩), .slice (some ⟨w3.heap.size, 0, none⟩) 1 1] (w3.alloc (.cells #[.string d] 9)) (LSays (w3.alloc (.cells #[.string d] 9)) p (m ++ [3] ++ numL f ++ textL d)) from
      penl_text _ p (m ++ [3] ++ numL f) (HP3.out.alloc _) (by have := HM.out; have := numL_length f; simp; omega) w3.heap.size 1 (by have := HP3.out.lt; omega) d HQ.out.2 (one_cell w3 _ _))
    clear p3 o3 d1 d3 hb3
    go_wp2_with (fail)
    refine HC.out.mono ?_
    rintro e w4 ⟨rfl, p4, o4⟩
    have HP4 := Lib.hid p4
    clear p4
    go_wp2
    go_end0
    exact ⟨rfl, by have := HP4.out; rw [List.append_assoc, List.append_assoc] at this; exact this, HO3.out.trans (only_drop o4)⟩
set_option maxRecDepth 100000 in
set_option maxHeartbeats 6400000 in
theorem pt_bytes (w : World) (A : Option Addr) (n c : Nat) (L : List Deed) (hL : L.length = n) (hA : DIn w A L) :
    Calls Tryz.prog 26 #[.slice A n c] w fun e w' => e = .returned (if canD L = true then .tuple #[.string ⟨(allL L).toArray⟩, .int .i64 0] else .tuple #[.string ⟨#[]⟩, .int .i64 1]) ∧ Below w.heap.size w w' := by
  have HL := Lib.hid hL
  have HA := Lib.hid hA
  generalize hV : (if canD L = true then Value.tuple #[.string ⟨(allL L).toArray⟩, .int .i64 0] else .tuple #[.string ⟨#[]⟩, .int .i64 1]) = V
  have HVY := Lib.hid (show canD L = true → V = Value.tuple #[.string ⟨(allL L).toArray⟩, .int .i64 0] from fun h => by rw [← hV, if_pos h])
  have HVN := Lib.hid (show canD L = false → V = Value.tuple #[.string ⟨#[]⟩, .int .i64 1] from fun h => by rw [← hV, if_neg (by rw [h]; exact Bool.false_ne_true)])
  clear hL hA hV
  by_cases hn : 256 < n
  · have x0 : 256 < (n : Int) := by omega
    have x1 : decide (256 < (n : Int)) = true := decide_eq_true x0
    have HC := Lib.hid (show canD L = false by unfold canD; rw [decide_eq_false (by have := HL.out; omega), Bool.false_and])
    go_enter Tryz.func26, Tryz.ntmps26
    go_wp2_with (fail)
    refine bodyPost_ret (results_tmp2 rfl _ _ _) rfl ?_
    rw [HVN.out HC.out]
    exact ⟨rfl, Below.refl _ _⟩
  have x0 : ¬ 256 < (n : Int) := by omega
  have x1 : decide (256 < (n : Int)) = false := decide_eq_false x0
  have HN := Lib.hid (show n ≤ 256 by omega)
  have HCN := Lib.hid (show canD L = L.all (okD mxB) by unfold canD; rw [decide_eq_true (by have := HL.out; omega), Bool.true_and])
  have HG := Lib.hid (fun o W => pt_good mxB (by decide) (by decide) o W)
  have HW := Lib.hid (fun W p m h hm o hg => pt_write W p m h hm o hg)
  have HP := Lib.hid (show PenL (w.alloc (.cells #[.pointer none, .bool false] 117)) w.heap.size [] from ⟨[], pen_new _ _ (heap_alloc_new w _), rfl⟩)
  have HB0 := Lib.hid (show Calls Tryz.prog 56 #[.pointer (some ⟨w.heap.size, 0, none⟩), .slice (some ⟨w.heap.size + 1, 0, none⟩) 1 1] ((w.alloc (.cells #[.pointer none, .bool false] 117)).alloc (.cells #[.int .i64 (n : Int)] 3)) (LSays ((w.alloc (.cells #[.pointer none, .bool false] 117)).alloc (.cells #[.int .i64 (n : Int)] 3)) w.heap.size ([] ++ numL (n : Int))) from by
    have := one_cell (w.alloc (.cells #[.pointer none, .bool false] 117)) (.int .i64 (n : Int)) 3
    rw [World.size_alloc] at this
    exact penl_num1 _ w.heap.size [] (HP.out.alloc _) (by simp) (w.heap.size + 1) 1 (by omega) (n : Int) (by omega) (by omega) this)
  clear hn
  go_enter Tryz.func26, Tryz.ntmps26
  go_wp2_with (fail)
  refine HB0.out.mono ?_
  rintro e w1 ⟨rfl, p1, o1⟩
  have HP1 := Lib.hid p1
  have HB1 := Lib.hid (show Below w.heap.size w w1 from (((Below.refl w.heap.size w).alloc (Nat.le_refl _) _).alloc (by simp) _).trans (o1.below (Nat.le_refl _) (by simp; omega)))
  clear p1 o1 HB0 HP
  go_wp2_with (fail)
  go_loopw [16] (fun i wr => ∃ j : Nat, i = .int .i64 (j : Int) ∧ j ≤ n ∧ (L.take j).all (okD mxB) = true ∧ PenL wr w.heap.size (numL (n : Int) ++ bodL (L.take j)) ∧ Below w.heap.size w wr) (fun i _ => match i with | .int _ k => n - k.toNat | _ => 0)
  case atStart => exact ⟨0, rfl, Nat.zero_le _, rfl, by have := HP1.out; exact (List.append_nil (numL (n : Int))).symm ▸ this, HB1.out⟩
  case round =>
    clear HP1 HB1
    obtain ⟨j, rfl, hj, hall, hpl, hb⟩ := hrel
    have HALL := Lib.hid hall
    have HPL := Lib.hid hpl
    have HB := Lib.hid hb
    clear hall hpl hb
    have x2 : 0 ≤ (j : Int) := by omega
    by_cases hlt : j < n
    · have y0 : (j : Int) < (n : Int) := by omega
      have y1 : decide ((j : Int) < (n : Int)) = true := decide_eq_true y0
      have hjl : j < L.length := by rw [HL.out]; exact hlt
      obtain ⟨pb, po, rfl, hc⟩ := (HA.out.below HB.out (Nat.le_refl _)) (by omega)
      obtain ⟨c0, c1, c2, c3⟩ := hc j _ (deed_at hjl)
      have htk : L.take (j + 1) = L.take j ++ [L.getD j dz] := by
        rw [List.take_add_one, deed_at hjl]
        rfl
      have HMM := Lib.hid (show L.getD j dz ∈ L from by rw [List.getD_eq_getElem?_getD, List.getElem?_eq_getElem hjl]; exact List.getElem_mem hjl)
      have HJ := Lib.hid (show j + 1 ≤ n by omega)
      generalize L.getD j dz = o at c0 c1 c2 c3 htk HMM
      have HTK := Lib.hid htk
      have HGO := Lib.hid (HG.out o)
      have hw1 := IntWalk.wrap64_in ((j : Int) + 1) (by have := HN.out; omega)
      have HW1 := Lib.hid hw1
      have HLE := Lib.hid (show (numL (n : Int) ++ bodL (L.take j)).length ≤ 50000000 from by
        have h1 := bodL_le _ HALL.out
        rw [List.length_append, numL_length]
        rw [List.length_take, HL.out, Nat.min_eq_left (by omega)] at h1
        have := HN.out
        omega)
      unfold dv mxB at HGO
      clear hc hjl hlt htk hw1
      cases hgd : okD mxB o with
      | false =>
        unfold mxB at hgd
        rw [hgd] at HGO
        have HE := Lib.hid (HVN.out (HCN.out.trans (by
          rw [Bool.eq_false_iff]
          intro h
          have := List.all_eq_true.1 h o HMM.out
          unfold mxB at this
          rw [hgd] at this
          cases this)))
        clear hgd
        go_wp2_with (go_at_call 57; refine (HGO.out _).mono ?_; rintro e w2 ⟨rfl, b2⟩; have HB2 := Lib.hid b2; clear b2)
        refine bodyPost_ret (results_tmp2 rfl _ _ _) rfl ?_
        rw [HE.out]
        exact ⟨rfl, (HB.out.alloc HB.out.size _).trans (HB2.out.mono (by have := HB.out.size; simp; omega))⟩
      | true =>
        have HGD := Lib.hid hgd
        have HWO := Lib.hid (fun W (h : PenL W w.heap.size (numL (n : Int) ++ bodL (L.take j))) => show Calls Tryz.prog 58 #[.pointer (some ⟨w.heap.size, 0, none⟩), dv o] W (LSays W w.heap.size (numL (n : Int) ++ bodL (L.take (j + 1)))) from by
          have := HW.out W _ _ h HLE.out o HGD.out
          rw [HTK.out, bodL_next, ← List.append_assoc]
          exact this)
        have HAL2 := Lib.hid (show (L.take (j + 1)).all (okD mxB) = true from by
          rw [HTK.out, List.all_append, HALL.out]
          simp [HGD.out])
        unfold mxB at hgd
        rw [hgd] at HGO
        unfold dv at HWO
        clear hgd HW HG
        go_wp2_with (first | (go_at_call 57; refine (HGO.out _).mono ?_; rintro e w2 ⟨rfl, b2⟩; have HB2 := Lib.hid (show Below w.heap.size w w2 from (HB.out.alloc HB.out.size _).trans (b2.mono (by have := HB.out.size; simp; omega))); obtain ⟨d0, d1, d2, d3⟩ := box_at (t := 72) (o := o) ((b2.block wr.heap.size (by simp)).trans (by unfold boxD; exact heap_alloc_new wr _)); have HP2 := Lib.hid (PenL.below (HPL.out.alloc _) b2); clear b2) | (go_at_call 58; refine (HWO.out _ HP2.out).mono ?_; rintro e w3 ⟨rfl, p3, o3⟩; have HP3 := Lib.hid p3; have HB3 := Lib.hid (HB2.out.trans (o3.below (Nat.le_refl _) (by have := HB2.out.size; omega))); clear p3 o3))
        try rw [HW1.out]
        exact ⟨⟨j + 1, rfl, HJ.out, HAL2.out, HP3.out, HB3.out⟩, pt_less j n HJ.out⟩
    · have hje : j = n := by omega
      subst hje
      have y0 : ¬ (j : Int) < (j : Int) := by omega
      have y1 : decide ((j : Int) < (j : Int)) = false := decide_eq_false y0
      have htl : L.take j = L := List.take_of_length_le (by rw [HL.out]; exact Nat.le_refl _)
      have hpl := HPL.out
      have hall := HALL.out
      rw [htl] at hpl hall
      have HE := Lib.hid (HVY.out (HCN.out.trans hall))
      have HBY := Lib.hid (show Calls Tryz.prog 59 #[.pointer (some ⟨w.heap.size, 0, none⟩)] wr fun e w' => e = .returned (.string ⟨(allL L).toArray⟩) ∧ Below wr.heap.size wr w' from by
        obtain ⟨l, h1, h2⟩ := hpl
        have := pen_bytes wr w.heap.size l false h1 (by
          rw [total_of h2]
          have h3 := bodL_le _ hall
          rw [List.length_append, numL_length]
          rw [HL.out] at h3
          have := HN.out
          omega)
        rw [h2, ← HL.out] at this
        exact this)
      clear htl hpl hall
      go_wp2_with (fail)
      refine HBY.out.mono ?_
      rintro e w2 ⟨rfl, b2⟩
      go_wp2_with (fail)
      refine bodyPost_ret (results_tmp2 rfl _ _ _) rfl ?_
      rw [HE.out]
      exact ⟨rfl, HB.out.trans (b2.mono HB.out.size)⟩
/-- How many bytes deeds have. -/
def Pt.costD (L : List Deed) : Nat := if canD L = true then (allL L).length else 0
end Go.Proofs.YtlechjpaldpgnaaGreatDoor
namespace Go.Proofs.YtlechjpaldpgnaaGreatDoor
open Go.ChangeShapes Go.WideShapes Go.ChangeAt Go.RowKit Pn Pt
namespace Pt
theorem box_fz {W : World} {b : Nat} {t : TypeId} {o : Deed} (h : W.heap[b]? = some (boxD t o)) (i : Nat) : W.frozen? ⟨b, i, none⟩ = false := frozen_of_row W b i _ _ h
theorem box_setF {W : World} {b : Nat} {t : TypeId} {o : Deed} (h : W.heap[b]? = some (boxD t o)) (f : Int) : (W.setCell ⟨b, 1, none⟩ (.int .i64 f)).heap[b]? = some (boxD t ⟨o.k, f, o.s, o.d⟩) := heap_setCell_same _ b 1 _ _ _ h
theorem box_setS {W : World} {b : Nat} {t : TypeId} {o : Deed} (h : W.heap[b]? = some (boxD t o)) (s : Int) : (W.setCell ⟨b, 2, none⟩ (.int .i64 s)).heap[b]? = some (boxD t ⟨o.k, o.f, s, o.d⟩) := heap_setCell_same _ b 2 _ _ _ h
theorem box_setT {W : World} {b : Nat} {t : TypeId} {o : Deed} (h : W.heap[b]? = some (boxD t o)) (d : ByteArray) : (W.setCell ⟨b, 3, none⟩ (.string d)).heap[b]? = some (boxD t ⟨o.k, o.f, o.s, d⟩) := heap_setCell_same _ b 3 _ _ _ h
def set4 (W : World) (b : Nat) (o : Deed) : World := (((W.setCell ⟨b, 0, none⟩ (.int .i64 o.k)).setCell ⟨b, 1, none⟩ (.int .i64 o.f)).setCell ⟨b, 2, none⟩ (.int .i64 o.s)).setCell ⟨b, 3, none⟩ (.string o.d)
theorem box_set4 {W : World} {b : Nat} {t : TypeId} {y : Deed} (h : W.heap[b]? = some (boxD t y)) (o : Deed) : (set4 W b o).heap[b]? = some (boxD t o) :=
  heap_setCell_same _ b 3 _ _ _ (heap_setCell_same _ b 2 _ _ _ (heap_setCell_same _ b 1 _ _ _ (heap_setCell_same W b 0 _ _ _ h)))
theorem set4_other (W : World) (b : Nat) (o : Deed) (i : Nat) (hi : i ≠ b) : (set4 W b o).heap[i]? = W.heap[i]? := by
  unfold set4
  rw [heap_setCell_other _ ⟨b, 3, none⟩ i _ hi, heap_setCell_other _ ⟨b, 2, none⟩ i _ hi, heap_setCell_other _ ⟨b, 1, none⟩ i _ hi, heap_setCell_other _ ⟨b, 0, none⟩ i _ hi]
theorem only_set {w W : World} {b Q : Nat} (h : Only w W b) (hQ : w.heap.size ≤ Q) (k : Nat) (v : Value) : Only w (W.setCell ⟨Q, k, none⟩ v) b := h.setCell (.inr hQ) v
theorem only_set4 {w W : World} {b Q : Nat} (h : Only w W b) (hQ : w.heap.size ≤ Q) (o : Deed) : Only w (set4 W Q o) b := only_set (only_set (only_set (only_set h hQ 0 _) hQ 1 _) hQ 2 _) hQ 3 _
/-- What is read of a kind's number, and what is left behind it. -/
def rdK (K : Int) (r1 : ByteArray) (b1 : Bool) : Deed × ByteArray × Bool :=
  if K = 1 then (⟨K, (nmOut r1 mxB : Int), (nmOut (nmRest r1 mxB) mxB : Int), ⟨#[]⟩⟩, nmRest (nmRest r1 mxB) mxB, nmBad (nmRest r1 mxB) (nmBad r1 b1 mxB) mxB)
  else if K = 2 then (⟨K, 0, 0, txOut r1 8192⟩, txRest r1 8192, txBad r1 b1 8192)
  else if K = 3 then (⟨K, (nmOut r1 mxB : Int), 0, txOut (nmRest r1 mxB) 8192⟩, txRest (nmRest r1 mxB) 8192, txBad (nmRest r1 mxB) (nmBad r1 b1 mxB) 8192)
  else (⟨K, 0, 0, ⟨#[]⟩⟩, r1, b1)
theorem rdD_eq (r : ByteArray) (bad : Bool) : rdD r bad = rdK ((byAt (tkOut r 1) 0).toNat : Int) (tkRest r 1) (tkBad r bad 1) := rfl
/-- While a deed is read: the eye, the deed, the place of the answer. -/
structure Rd (w : World) (b R Q : Nat) (W : World) (o : Deed) (r : ByteArray) (bad : Bool) : Prop where
  eye : EyeAt W b r bad
  box : W.heap[Q]? = some (boxD 72 o)
  res : W.heap[R]? = some (boxD 72 dz)
  only : Only w W b
namespace Rd
variable {w W W' : World} {b R Q : Nat} {o : Deed} {r r' : ByteArray} {bad bad' : Bool} {v : Value} {e : Ending}
theorem says (h : Rd w b R Q W o r bad) (hQ : Q ≠ b) (hR : R ≠ b) (h1 : EyeAt W' b r' bad') (h2 : Only W W' b) : Rd w b R Q W' o r' bad' :=
  ⟨h1, only_box h.box h2 hQ, only_box h.res h2 hR, h.only.trans h2⟩
theorem setF (h : Rd w b R Q W o r bad) (hQ : w.heap.size ≤ Q) (hb : b < w.heap.size) (hR : R ≠ Q) (f : Int) : Rd w b R Q (W.setCell ⟨Q, 1, none⟩ (.int .i64 f)) ⟨o.k, f, o.s, o.d⟩ r bad :=
  ⟨h.eye.of_block (heap_setCell_other _ ⟨Q, 1, none⟩ b _ (by show b ≠ Q; omega)), box_setF h.box f, (heap_setCell_other _ ⟨Q, 1, none⟩ R _ hR).trans h.res, only_set h.only hQ 1 _⟩
theorem setS (h : Rd w b R Q W o r bad) (hQ : w.heap.size ≤ Q) (hb : b < w.heap.size) (hR : R ≠ Q) (s : Int) : Rd w b R Q (W.setCell ⟨Q, 2, none⟩ (.int .i64 s)) ⟨o.k, o.f, s, o.d⟩ r bad :=
  ⟨h.eye.of_block (heap_setCell_other _ ⟨Q, 2, none⟩ b _ (by show b ≠ Q; omega)), box_setS h.box s, (heap_setCell_other _ ⟨Q, 2, none⟩ R _ hR).trans h.res, only_set h.only hQ 2 _⟩
theorem setT (h : Rd w b R Q W o r bad) (hQ : w.heap.size ≤ Q) (hb : b < w.heap.size) (hR : R ≠ Q) (d : ByteArray) : Rd w b R Q (W.setCell ⟨Q, 3, none⟩ (.string d)) ⟨o.k, o.f, o.s, d⟩ r bad :=
  ⟨h.eye.of_block (heap_setCell_other _ ⟨Q, 3, none⟩ b _ (by show b ≠ Q; omega)), box_setT h.box d, (heap_setCell_other _ ⟨Q, 3, none⟩ R _ hR).trans h.res, only_set h.only hQ 3 _⟩
end Rd
end Pt
theorem opI (k f s : Int) (d : ByteArray) : (Tryz.prog.info? 72).map (·.size) = some (#[.int .i64 k, .int .i64 f, .int .i64 s, .string d] : Array Value).size := by
  show _ = some 4
  kernel_rfl
/-- What read answers. -/
def RdSays (w : World) (b : Nat) (x : Deed × ByteArray × Bool) (e : Ending) (w' : World) : Prop := e = .returned (dv x.1) ∧ EyeAt w' b x.2.1 x.2.2 ∧ Only w w' b
section
variable {w W : World} {b R Q : Nat} {k f s : Int} {d r : ByteArray} {bad : Bool} (h : Rd w b R Q W ⟨k, f, s, d⟩ r bad)
include h
theorem rd_res : ((((W.setCell ⟨R, 0, none⟩ (.int .i64 k)).setCell ⟨R, 1, none⟩ (.int .i64 f)).setCell ⟨R, 2, none⟩ (.int .i64 s)).setCell ⟨R, 3, none⟩ (.string d)).heap[R]? = some (.cells #[.int .i64 k, .int .i64 f, .int .i64 s, .string d] 72 (0, 0)) := box_set4 h.res ⟨k, f, s, d⟩
theorem rd_end (hR : w.heap.size ≤ R) (hb : b < w.heap.size) : EyeAt ((((W.setCell ⟨R, 0, none⟩ (.int .i64 k)).setCell ⟨R, 1, none⟩ (.int .i64 f)).setCell ⟨R, 2, none⟩ (.int .i64 s)).setCell ⟨R, 3, none⟩ (.string d)) b r bad ∧ Only w ((((W.setCell ⟨R, 0, none⟩ (.int .i64 k)).setCell ⟨R, 1, none⟩ (.int .i64 f)).setCell ⟨R, 2, none⟩ (.int .i64 s)).setCell ⟨R, 3, none⟩ (.string d)) b :=
  ⟨h.eye.of_block (set4_other W R ⟨k, f, s, d⟩ _ (by omega)), only_set4 h.only hR ⟨k, f, s, d⟩⟩
end
set_option maxRecDepth 100000 in
set_option maxHeartbeats 6400000 in
theorem pt_read (w : World) (b : Nat) (r : ByteArray) (bad : Bool) (h : EyeAt w b r bad) (hr : r.size ≤ 140737488355328) :
    Calls Tryz.prog 100 #[.pointer (some ⟨b, 0, none⟩)] w (RdSays w b (rdD r bad)) := by
  have HLT := Lib.hid h.lt
  have HRR := Lib.hid hr
  have H0 := Lib.hid (show EyeAt (w.alloc (boxD 72 dz)) b r bad from h.of_block (heap_alloc_old _ _ h.lt))
  have HR0 := Lib.hid (show (w.alloc (boxD 72 dz)).heap[w.heap.size]? = some (boxD 72 dz) from heap_alloc_new w _)
  have HO0 := Lib.hid (show Only w (w.alloc (boxD 72 dz)) b from Only.of_below ((Below.refl _ _).alloc (Nat.le_refl _) _) b)
  have HD := Lib.hid (rdD_eq r bad)
  have hw := IntWalk.wrap64_in (((byAt (tkOut r 1) 0).toNat : Int)) (by have := (byAt (tkOut r 1) 0).toNat_lt; omega)
  have HBY := Lib.hid (eye_byte (w.alloc (boxD 72 dz)) b r bad H0.out)
  have HS1 := Lib.hid (show (tkRest r 1).size ≤ 140737488355328 from Nat.le_trans (tk_rest_size r 1) hr)
  unfold boxD dz at HBY
  simp only at HBY
  generalize ((byAt (tkOut r 1) 0).toNat : Int) = K at hw HD HBY
  generalize tkRest r 1 = r1 at HD HBY HS1
  generalize tkBad r bad 1 = b1 at HD HBY
  generalize hx : rdD r bad = X at HD
  clear h hr hx
  go_enter Tryz.func100, Tryz.ntmps100
  go_wp2_with (fail)
  refine HBY.out.mono ?_
  rintro e w1 ⟨rfl, e1, o1⟩
  have HRD := Lib.hid (show Rd w b w.heap.size w1.heap.size (w1.alloc (boxD 72 ⟨K, 0, 0, ⟨#[]⟩⟩)) ⟨K, 0, 0, ⟨#[]⟩⟩ r1 b1 from
    ⟨e1.of_block (heap_alloc_old _ _ e1.lt), heap_alloc_new w1 _, (heap_alloc_old _ _ (by have := o1.size; simp at this; omega)).trans (only_box HR0.out o1 (by have := HLT.out; omega)), (HO0.out.trans o1).alloc _⟩)
  have HQ := Lib.hid (show w.heap.size + 1 ≤ w1.heap.size from by have := o1.size; simp at this; omega)
  clear e1 o1 HBY HO0 HR0 H0
  have HSY := Lib.hid (fun (W : World) (o : Deed) (r : ByteArray) (bad : Bool) (h : Rd w b w.heap.size w1.heap.size W o r bad) (W' : World) (r' : ByteArray) (bad' : Bool) (h1 : EyeAt W' b r' bad') (h2 : Only W W' b) => show Rd w b w.heap.size w1.heap.size W' o r' bad' from
    h.says (by have := HQ.out; have := HLT.out; omega) (by have := HLT.out; omega) h1 h2)
  have HSF := Lib.hid (fun (W : World) (o : Deed) (r : ByteArray) (bad : Bool) (h : Rd w b w.heap.size w1.heap.size W o r bad) f => h.setF (by have := HQ.out; omega) HLT.out (by have := HQ.out; omega) f)
  have HSS := Lib.hid (fun (W : World) (o : Deed) (r : ByteArray) (bad : Bool) (h : Rd w b w.heap.size w1.heap.size W o r bad) f => h.setS (by have := HQ.out; omega) HLT.out (by have := HQ.out; omega) f)
  have HST := Lib.hid (fun (W : World) (o : Deed) (r : ByteArray) (bad : Bool) (h : Rd w b w.heap.size w1.heap.size W o r bad) f => h.setT (by have := HQ.out; omega) HLT.out (by have := HQ.out; omega) f)
  unfold boxD at HRD
  simp only at HRD
  unfold rdK at HD
  by_cases hk1 : K = 1
  · subst hk1
    have HX := Lib.hid (HD.out.trans (if_pos rfl))
    clear HD
    go_wp2_with (fail)
    refine (eye_num _ b r1 b1 HRD.out.eye mxB).mono ?_
    rintro e w2 ⟨rfl, e2, o2⟩
    have H2 := Lib.hid (HSY.out _ _ _ _ HRD.out _ _ _ e2 o2)
    have f2 := box_fz H2.out.box
    obtain ⟨a0, a1, a2, a3⟩ := box_at H2.out.box
    have H3 := Lib.hid (HSF.out _ _ _ _ H2.out (nmOut r1 mxB : Int))
    clear e2 o2
    go_wp2_with (fail)
    refine (eye_num _ b _ _ H3.out.eye mxB).mono ?_
    rintro e w3 ⟨rfl, e3, o3⟩
    have H4 := Lib.hid (HSY.out _ _ _ _ H3.out _ _ _ e3 o3)
    have f4 := box_fz H4.out.box
    obtain ⟨b0, b1', b2, b3⟩ := box_at H4.out.box
    have H5 := Lib.hid (HSS.out _ _ _ _ H4.out (nmOut (nmRest r1 mxB) mxB : Int))
    clear e3 o3 f2 a0 a1 a2 a3
    simp only at H5
    go_upto_region 11 with (fail)
    generalize (w3.setCell ⟨w1.heap.size, 2, none⟩ (.int .i64 (nmOut (nmRest r1 mxB) mxB : Int))) = W5 at H5 ⊢
    obtain ⟨c0, c1, c2, c3⟩ := box_at H5.out.box
    have fr := box_fz H5.out.res
    obtain ⟨q0, q1, q2, q3⟩ := box_at H5.out.res
    clear f4 b0 b1' b2 b3
    go_wp2_with (fail)
    generalize ((nmOut r1 mxB : Nat) : Int) = F1 at HX H5 ⊢
    generalize ((nmOut (nmRest r1 mxB) mxB : Nat) : Int) = F2 at HX H5 ⊢
    generalize nmRest (nmRest r1 mxB) mxB = R2 at HX H5
    generalize nmBad (nmRest r1 mxB) (nmBad r1 b1 mxB) mxB = B2 at HX H5
    refine bodyPost_ret (results_cell_row rfl _ _ _ 72 _ _ _ rfl (rd_res H5.out) Tryz.underlying72 rfl (opI _ _ _ _)) rfl ?_
    rw [HX.out]
    exact ⟨rfl, rd_end H5.out (Nat.le_refl _) HLT.out⟩
  have k1 : (K == 1) = false := beq_eq_false_iff_ne.2 hk1
  have HD2 := Lib.hid (HD.out.trans (if_neg hk1))
  clear HD
  by_cases hk2 : K = 2
  · subst hk2
    have HX := Lib.hid (HD2.out.trans (if_pos rfl))
    clear HD2
    go_wp2_with (fail)
    refine (eye_text _ b r1 b1 HRD.out.eye (by have := HS1.out; omega) 8192).mono ?_
    rintro e w2 ⟨rfl, e2, o2⟩
    have H2 := Lib.hid (HSY.out _ _ _ _ HRD.out _ _ _ e2 o2)
    have f2 := box_fz H2.out.box
    obtain ⟨a0, a1, a2, a3⟩ := box_at H2.out.box
    have H5 := Lib.hid (HST.out _ _ _ _ H2.out (txOut r1 8192))
    clear e2 o2
    simp only at H5
    go_upto_region 11 with (fail)
    generalize (w2.setCell ⟨w1.heap.size, 3, none⟩ (.string (txOut r1 8192))) = W5 at H5 ⊢
    obtain ⟨c0, c1, c2, c3⟩ := box_at H5.out.box
    have fr := box_fz H5.out.res
    obtain ⟨q0, q1, q2, q3⟩ := box_at H5.out.res
    clear f2 a0 a1 a2 a3
    go_wp2_with (fail)
    generalize txOut r1 8192 = D1 at HX H5 ⊢
    generalize txRest r1 8192 = R2 at HX H5
    generalize txBad r1 b1 8192 = B2 at HX H5
    refine bodyPost_ret (results_cell_row rfl _ _ _ 72 _ _ _ rfl (rd_res H5.out) Tryz.underlying72 rfl (opI _ _ _ _)) rfl ?_
    rw [HX.out]
    exact ⟨rfl, rd_end H5.out (Nat.le_refl _) HLT.out⟩
  have k2 : (K == 2) = false := beq_eq_false_iff_ne.2 hk2
  have HD3 := Lib.hid (HD2.out.trans (if_neg hk2))
  clear HD2
  by_cases hk3 : K = 3
  · subst hk3
    have HX := Lib.hid (HD3.out.trans (if_pos rfl))
    clear HD3
    go_wp2_with (fail)
    refine (eye_num _ b r1 b1 HRD.out.eye mxB).mono ?_
    rintro e w2 ⟨rfl, e2, o2⟩
    have H2 := Lib.hid (HSY.out _ _ _ _ HRD.out _ _ _ e2 o2)
    have f2 := box_fz H2.out.box
    obtain ⟨a0, a1, a2, a3⟩ := box_at H2.out.box
    have H3 := Lib.hid (HSF.out _ _ _ _ H2.out (nmOut r1 mxB : Int))
    clear e2 o2
    go_wp2_with (fail)
    refine (eye_text _ b _ _ H3.out.eye (by have := HS1.out; have := nm_rest_size r1 mxB; omega) 8192).mono ?_
    rintro e w3 ⟨rfl, e3, o3⟩
    have H4 := Lib.hid (HSY.out _ _ _ _ H3.out _ _ _ e3 o3)
    have f4 := box_fz H4.out.box
    obtain ⟨b0, b1', b2, b3⟩ := box_at H4.out.box
    have H5 := Lib.hid (HST.out _ _ _ _ H4.out (txOut (nmRest r1 mxB) 8192))
    clear e3 o3 f2 a0 a1 a2 a3
    simp only at H5
    go_upto_region 11 with (fail)
    generalize (w3.setCell ⟨w1.heap.size, 3, none⟩ (.string (txOut (nmRest r1 mxB) 8192))) = W5 at H5 ⊢
    obtain ⟨c0, c1, c2, c3⟩ := box_at H5.out.box
    have fr := box_fz H5.out.res
    obtain ⟨q0, q1, q2, q3⟩ := box_at H5.out.res
    clear f4 b0 b1' b2 b3
    go_wp2_with (fail)
    generalize ((nmOut r1 mxB : Nat) : Int) = F1 at HX H5 ⊢
    generalize txOut (nmRest r1 mxB) 8192 = D1 at HX H5 ⊢
    generalize txRest (nmRest r1 mxB) 8192 = R2 at HX H5
    generalize txBad (nmRest r1 mxB) (nmBad r1 b1 mxB) 8192 = B2 at HX H5
    refine bodyPost_ret (results_cell_row rfl _ _ _ 72 _ _ _ rfl (rd_res H5.out) Tryz.underlying72 rfl (opI _ _ _ _)) rfl ?_
    rw [HX.out]
    exact ⟨rfl, rd_end H5.out (Nat.le_refl _) HLT.out⟩
  have k3 : (K == 3) = false := beq_eq_false_iff_ne.2 hk3
  have HX := Lib.hid (HD3.out.trans (if_neg hk3))
  clear HD3
  obtain ⟨c0, c1, c2, c3⟩ := box_at HRD.out.box
  have fq := box_fz HRD.out.box
  have fr := box_fz HRD.out.res
  obtain ⟨q0, q1, q2, q3⟩ := box_at HRD.out.res
  go_wp2_with (fail)
  refine bodyPost_ret (results_cell_row rfl _ _ _ 72 _ _ _ rfl (rd_res HRD.out) Tryz.underlying72 rfl (opI _ _ _ _)) rfl ?_
  rw [HX.out]
  exact ⟨rfl, rd_end HRD.out (Nat.le_refl _) HLT.out⟩
end Go.Proofs.YtlechjpaldpgnaaGreatDoor
namespace Go.Proofs.YtlechjpaldpgnaaGreatDoor
open Go.ChangeShapes Go.WideShapes Go.ChangeAt Go.RowKit Pn Pt
theorem info_op : (Tryz.prog.info? 72).map (fun i => (i.zero, i.size, i.bytes)) = some (some (.agg #[.int .i64 0, .int .i64 0, .int .i64 0, .string ⟨#[]⟩]), 4, 40) := by kernel_rfl
theorem opOne (a b c : Int) (d : ByteArray) : Tryz.prog.builtSlice 72 1 [(0, .agg #[.int .i64 a, .int .i64 b, .int .i64 c, .string d])] = some #[.int .i64 a, .int .i64 b, .int .i64 c, .string d] := by kernel_rfl
theorem info_rop : (Tryz.prog.info? 146).map (fun i => (i.zero, i.size, i.bytes)) = some (some (.agg #[.int .i64 0, .int .i64 0, .int .i64 0, .string ⟨#[]⟩]), 4, 40) := by kernel_rfl
theorem ropOne (a b c : Int) (d : ByteArray) : Tryz.prog.builtSlice 146 1 [(0, .agg #[.int .i64 a, .int .i64 b, .int .i64 c, .string d])] = some #[.int .i64 a, .int .i64 b, .int .i64 c, .string d] := by kernel_rfl
namespace Pt
def OwnD (t : TypeId) (w : World) (base : Nat) (v : Value) (L : List Deed) : Prop := w.ownsRow base t 4 v L.length (dsL L)
section
variable {t : TypeId} {w w' : World} {B base : Nat} {v : Value} {L : List Deed}
theorem OwnD.nil (t : TypeId) (w : World) (base : Nat) : OwnD t w base (.slice none 0 0) [] := World.ownsRow_nil w base _ 4
theorem OwnD.below (h : OwnD t w base v L) (hb : Below B w w') (hB : w.heap.size ≤ B) : OwnD t w' base v L := by
  refine ⟨h.1, ?_⟩
  rcases h.2 with hn | ⟨g, cap, cur, hv, h1, hg, r⟩
  · exact .inl hn
  · exact .inr ⟨g, cap, cur, hv, h1, (hb.block g (by have := (Array.getElem?_eq_some_iff.1 hg).1; omega)).trans hg, r⟩
theorem OwnD.only {p : Nat} (h : OwnD t w base v L) (ho : Only w w' p) (hp : p < base) : OwnD t w' base v L := own_only h ho hp
theorem OwnD.slice (h : OwnD t w base v L) : ∃ A cap, v = .slice A L.length cap := by
  rcases h.2 with ⟨hn, h0⟩ | ⟨g, cap, cur, rfl, hb, _⟩
  · exact ⟨none, 0, by rw [hn, h0]⟩
  · exact ⟨_, cap, rfl⟩
theorem OwnD.lt (h : OwnD t w base v L) : ∀ g, v.ownBlock = some g → base ≤ g ∧ g < w.heap.size := fun g hg => World.ownsRow.lt h g hg
theorem OwnD.cap {A : Option Addr} {n c : Nat} (h : OwnD t w base (.slice A n c) L) : n ≤ c := by
  rcases h.2 with ⟨e, h0⟩ | ⟨g, cap, cur, e, _, _, hc, _⟩
  · injection e with _ e2 e3; omega
  · injection e with _ e2 e3; omega
theorem OwnD.din {A : Option Addr} {c : Nat} (h : OwnD t w base (.slice A L.length c) L) : DIn w A L := fun h0 => by
  rcases h.2 with ⟨_, he⟩ | ⟨g, cap, cur, hv, _⟩
  · omega
  · injection hv with hv1 hv2 hv3
    subst hv1
    refine ⟨g, 0, rfl, fun i o ho => ?_⟩
    have hc := fun j u hj => h.cells (g := g) rfl j u hj
    have ha := dsL_at L i o ho
    refine ⟨?_, ?_, ?_, ?_⟩
    · have := hc (i * 4 + 0) _ ((ha 0 (by omega)).trans rfl)
      rwa [Addr.add_lit, Nat.add_zero] at this
    · have := hc (i * 4 + 1) _ ((ha 1 (by omega)).trans rfl)
      rwa [Addr.add_lit, ← Nat.add_assoc] at this
    · have := hc (i * 4 + 2) _ ((ha 2 (by omega)).trans rfl)
      rwa [Addr.add_lit, ← Nat.add_assoc] at this
    · have := hc (i * 4 + 3) _ ((ha 3 (by omega)).trans rfl)
      rwa [Addr.add_lit, ← Nat.add_assoc] at this
theorem OwnD.grew {g cap j : Nat} {o : Deed} (hL : L.length = j) (h : w.ownsRow base t 4 (.slice (some ⟨g, 0, none⟩) (j + 1) cap) (j + 1) (dsL L ++ dl o)) : OwnD t w base (.slice (some ⟨g, 0, none⟩) (j + 1) cap) (L ++ [o]) := by
  unfold OwnD
  rw [dsL_next, List.length_append, hL, List.length_singleton]
  exact h
theorem OwnD.at {j : Nat} (h : OwnD t w base v L) (hL : L.length = j) : w.ownsRow base t 4 v j (dsL L) := by
  unfold OwnD at h
  rw [hL] at h
  exact h
theorem below_grewD {w0 wz : World} (hb : Below B w0 w) (hB : w0.heap.size = B) (ho : OwnD t w B v L) (o : Obj) (hg : (w.alloc o).grownBy wz v.ownBlock) : Below B w0 wz :=
  (hb.alloc (by have := hb.size; omega) o).grown hg (by have := hb.size; simp; omega) (fun i hi => (ho.lt i hi).1)
theorem deed_src (w : World) (t : TypeId) (o : Deed) : ∀ j u, (dl o)[j]? = some u → (w.alloc (.cells #[.int .i64 o.k, .int .i64 o.f, .int .i64 o.s, .string o.d] t)).cell? ((⟨w.heap.size, 0, none⟩ : Addr).add j) = some u := fun j u hj => by
  rw [Addr.add_lit, Nat.zero_add, cell_of_row _ _ _ _ _ _ (heap_alloc_new w _), ← hj]
  exact List.getElem?_toArray
end
/-- In a walk: the row grew beside a new block; what else lies stays. -/
theorem grown_keeps {t : TypeId} {w wz : World} {base g n : Nat} {v : Value} {xs : List Value} {ob o : Obj} (ho : w.ownsRow base t 4 v n xs) (hg : (w.alloc ob).grownBy wz v.ownBlock) (h : w.heap[g]? = some o) (hlt : g < base) : wz.heap[g]? = some o :=
  (hg.block g (by have := (Array.getElem?_eq_some_iff.1 h).1; simp; omega) (fun e => by have := (World.ownsRow.lt ho g e.symm).1; omega)).trans ((heap_alloc_old _ _ (Array.getElem?_eq_some_iff.1 h).1).trans h)
theorem grown_below {t : TypeId} {w0 w wz : World} {B base n : Nat} {v : Value} {xs : List Value} {ob : Obj} (hb : Below B w0 w) (hB : B ≤ w0.heap.size) (hbase : B ≤ base) (ho : w.ownsRow base t 4 v n xs) (hg : (w.alloc ob).grownBy wz v.ownBlock) : Below B w0 wz :=
  (hb.alloc (by have := hb.size; omega) ob).grown hg (by have := hb.size; simp; omega) (fun i hi => by have := (World.ownsRow.lt ho i hi).1; omega)
end Pt
end Go.Proofs.YtlechjpaldpgnaaGreatDoor
namespace Go.Proofs.YtlechjpaldpgnaaGreatDoor
open Go.ChangeShapes Go.WideShapes Go.ChangeAt Go.RowKit Pn Pt
namespace Pt
def preD (M : List Deed) (x : Option (List Deed × ByteArray × Bool)) : Option (List Deed × ByteArray × Bool) := x.map fun y => (M ++ y.1, y.2)
theorem preD_nil (x : Option (List Deed × ByteArray × Bool)) : preD [] x = x := by cases x <;> rfl
theorem preD_step (M : List Deed) (k : Nat) (r : ByteArray) (bad : Bool) (h : okD mxB (rdD r bad).1 = true) : preD M (prD (k + 1) r bad) = preD (M ++ [(rdD r bad).1]) (prD k (rdD r bad).2.1 (rdD r bad).2.2) := by
  rw [prD_yes h]
  cases prD k (rdD r bad).2.1 (rdD r bad).2.2 with
  | none => rfl
  | some y => simp [preD]
theorem preD_not (M : List Deed) (k : Nat) (r : ByteArray) (bad : Bool) (h : okD mxB (rdD r bad).1 = false) : endD (preD M (prD (k + 1) r bad)) = none := by
  rw [prD_not h]
  rfl
theorem preD_end (M : List Deed) (r : ByteArray) (bad : Bool) : endD (preD M (prD 0 r bad)) = if bad = false ∧ r.size = 0 then some M else none := by
  show endD (some (M ++ [], r, bad)) = _
  rw [List.append_nil]
  rfl
theorem endOf_ok {r : ByteArray} {bad : Bool} (h : bad = false ∧ r.size = 0) : endOf r bad = 0 := by
  unfold endOf
  rw [if_neg (by omega), h.1]
  rfl
theorem endOf_not {r : ByteArray} {bad : Bool} (h : ¬ (bad = false ∧ r.size = 0)) : endOf r bad = 5 := by
  unfold endOf
  by_cases hr : 0 < r.size
  · rw [if_pos hr]
  · rw [if_neg hr]
    cases bad with
    | false => exact absurd ⟨rfl, by omega⟩ h
    | true => rfl
theorem rd_rest (r : ByteArray) (bad : Bool) : (rdD r bad).2.1.size ≤ r.size := by
  have h1 := tk_rest_size r 1
  rw [rdD_eq]
  unfold rdK
  split
  · exact Nat.le_trans (nm_rest_size _ _) (Nat.le_trans (nm_rest_size _ _) h1)
  · split
    · exact Nat.le_trans (tx_rest_size _ _) h1
    · split
      · exact Nat.le_trans (tx_rest_size _ _) (Nat.le_trans (nm_rest_size _ _) h1)
      · exact h1
theorem prD_length : ∀ (n : Nat) (r : ByteArray) (bad : Bool) (y : List Deed × ByteArray × Bool), prD n r bad = some y → y.1.length = n
  | 0, r, bad, y, h => by
    have : y = ([], r, bad) := (Option.some.inj h).symm
    rw [this]
    rfl
  | n + 1, r, bad, y, h => by
    cases hg : okD mxB (rdD r bad).1 with
    | false => rw [prD_not hg] at h; cases h
    | true =>
      rw [prD_yes hg] at h
      obtain ⟨z, hz, rfl⟩ := Option.map_eq_some_iff.1 h
      have := prD_length n _ _ z hz
      simp [this]
theorem nm_most (r : ByteArray) (n : Nat) : nmOut r (n : Int) ≤ n := by
  unfold nmOut
  split
  · rename_i h
    unfold nmOk at h
    simp at h
    omega
  · exact Nat.zero_le _
theorem par_length {s : ByteArray} {L : List Deed} (h : parD s = some L) : L.length ≤ 256 := by
  unfold parD endD at h
  obtain ⟨y, hy, h2⟩ := Option.bind_eq_some_iff.1 h
  have := prD_length _ _ _ y hy
  have hm := nm_most s 256
  split at h2
  · injection h2 with h2
    rw [← h2, this]
    exact hm
  · cases h2
/-- What Parse answers. -/
def PaSays (w : World) (P : Option (List Deed)) (e : Ending) (w' : World) : Prop := Below w.heap.size w w' ∧ match P with
  | some L => ∃ A c, e = .returned (.tuple #[.slice A L.length c, .int .i64 0]) ∧ DIn w' A L
  | none => e = .returned (.tuple #[.slice none 0 0, .int .i64 5])
theorem pa_some {w w' : World} {P : Option (List Deed)} {L : List Deed} {A : Option Addr} {c : Nat} (hb : Below w.heap.size w w') (h : P = some L) (hd : DIn w' A L) : PaSays w P (.returned (.tuple #[.slice A L.length c, .int .i64 0])) w' := by
  subst h
  exact ⟨hb, A, c, rfl, hd⟩
theorem pa_none {w w' : World} {P : Option (List Deed)} (hb : Below w.heap.size w w') (h : P = none) : PaSays w P (.returned (.tuple #[.slice none 0 0, .int .i64 5])) w' := by
  subst h
  exact ⟨hb, rfl⟩
end Pt
set_option maxRecDepth 100000 in
set_option maxHeartbeats 6400000 in
theorem pt_parse (w : World) (s : ByteArray) (hs : s.size ≤ 140737488355328) : Calls Tryz.prog 75 #[.string s] w (PaSays w (parD s)) := by
  have HS := Lib.hid (show (nmRest s 256).size ≤ 140737488355328 from Nat.le_trans (nm_rest_size s 256) hs)
  have HM := Lib.hid (nm_most s 256)
  have HP := Lib.hid (show parD s = endD (preD [] (prD (nmOut s 256) (nmRest s 256) (nmBad s false 256))) from by rw [preD_nil]; rfl)
  have HR := Lib.hid (fun W b r bad h hr => pt_read W b r bad h hr)
  have HG := Lib.hid (fun o W => pt_good mxB (by decide) (by decide) o W)
  obtain ⟨i0, hi, hz0, hz1, hz2⟩ := info_parts info_op
  have HI := Lib.hid hi
  have HZ0 := Lib.hid hz0
  have HZ1 := Lib.hid hz1
  have HZ2 := Lib.hid hz2
  clear hs hi hz0 hz1 hz2
  generalize parD s = P at HP ⊢
  go_enter Tryz.func75, Tryz.ntmps75
  go_wp2_with (fail)
  refine (eye_of s w).mono ?_
  rintro e w1 ⟨rfl, e1, b1⟩
  have E1 := Lib.hid e1
  have B1 := Lib.hid b1
  clear e1 b1
  go_wp2_with (fail)
  refine (eye_num w1 w.heap.size s false E1.out 256).mono ?_
  rintro e w2 ⟨rfl, e2, o2⟩
  have E2 := Lib.hid e2
  have B2 := Lib.hid (B1.out.trans (o2.below (Nat.le_refl _) (by have := E1.out.lt; omega)))
  clear e2 o2 E1 B1
  generalize nmOut s 256 = n at HM HP ⊢
  generalize nmRest s 256 = r0 at HS HP E2
  generalize nmBad s false 256 = c0 at HP E2
  go_wp2_with (fail)
  go_loopw [5, 11] (fun v i wr => ∃ (j : Nat) (G : Option Addr) (cg : Nat) (M : List Deed) (r : ByteArray) (bad : Bool), i = .int .i64 (j : Int) ∧ j ≤ n ∧ v = .slice G j cg ∧ M.length = j ∧ OwnD 72 wr (w.heap.size + 1) v M ∧ EyeAt wr w.heap.size r bad ∧ r.size ≤ 140737488355328 ∧ P = endD (preD M (prD (n - j) r bad)) ∧ Below w.heap.size w wr) (fun _ i _ => match i with | .int _ k => n - k.toNat | _ => 0)
  case atStart => exact ⟨0, none, 0, [], r0, c0, rfl, Nat.zero_le _, rfl, rfl, OwnD.nil _ _ _, E2.out, HS.out, HP.out, B2.out⟩
  case round =>
    clear E2 B2 HP HS
    obtain ⟨j, G, cg, M, r, bad, rfl, hj, rfl, hml, ho, he, hrs, hp, hb⟩ := hrel
    have HML := Lib.hid hml
    have HO := Lib.hid ho
    have HE := Lib.hid he
    have HRS := Lib.hid hrs
    have HP := Lib.hid hp
    have HB := Lib.hid hb
    have HLT := Lib.hid he.lt
    clear hml ho he hrs hp hb
    have x2 : 0 ≤ (j : Int) := by omega
    by_cases hlt : j < n
    · have x0 : (j : Int) < (n : Int) := by omega
      have x1 : decide ((j : Int) < (n : Int)) = true := decide_eq_true x0
      have HJ := Lib.hid (show j + 1 ≤ n by omega)
      have HNJ := Lib.hid (show n - j = n - (j + 1) + 1 by omega)
      rw [HNJ.out] at HP
      have HW1 := Lib.hid (IntWalk.wrap64_in ((j : Int) + 1) (by have := HM.out; omega))
      have HRD := Lib.hid (HR.out wr w.heap.size r bad HE.out HRS.out)
      have HRR := Lib.hid (Nat.le_trans (rd_rest r bad) HRS.out)
      have HGO := Lib.hid (HG.out (rdD r bad).1)
      unfold RdSays at HRD
      have HPN := Lib.hid (fun h => HP.out.trans (preD_not M (n - (j + 1)) r bad h))
      have HPY := Lib.hid (fun h => HP.out.trans (congrArg endD (preD_step M (n - (j + 1)) r bad h)))
      generalize rdD r bad = X at HRD HRR HGO HPN HPY
      obtain ⟨o, r2, bad2⟩ := X
      simp only at HRD HRR HGO HPN HPY
      have HOL := Lib.hid (show dv o = .agg #[.int .i64 o.k, .int .i64 o.f, .int .i64 o.s, .string o.d] from rfl)
      unfold dv mxB at HGO
      unfold dv at HRD
      clear HR HG HP hlt
      cases hgd : okD mxB o with
      | false =>
        have HPZ := Lib.hid (HPN.out hgd)
        unfold mxB at hgd
        rw [hgd] at HGO
        clear hgd HPN HPY
        go_wp2_with (first | (go_at_call 100; refine HRD.out.mono ?_; rintro e w3 ⟨rfl, e3, o3⟩; have B3 := Lib.hid (HB.out.trans (o3.below (Nat.le_refl _) HB.out.size)); clear e3 o3) | (go_at_call 57; refine (HGO.out _).mono ?_; rintro e w4 ⟨rfl, b4⟩; have HB4 := Lib.hid b4; clear b4))
        refine bodyPost_ret (results_tmp2 rfl _ _ _) rfl ?_
        exact pa_none ((B3.out.alloc B3.out.size _).trans (HB4.out.mono (by have := B3.out.size; simp; omega))) HPZ.out
      | true =>
        have HPZ := Lib.hid (HPY.out hgd)
        unfold mxB at hgd
        rw [hgd] at HGO
        clear hgd HPN HPY
        go_wp2_with (first | (go_at_call 100; refine HRD.out.mono ?_; rintro e w3 ⟨rfl, e3, o3⟩; have B3 := Lib.hid (HB.out.trans (o3.below (Nat.le_refl _) HB.out.size)); have E3 := Lib.hid e3; have O3 := Lib.hid (HO.out.only o3 (Nat.lt_succ_self _)); clear e3 o3) | (go_at_call 57; refine (HGO.out _).mono ?_; rintro e w4 ⟨rfl, b4⟩; have HB4 := Lib.hid ((B3.out.alloc B3.out.size (boxD 72 o)).trans (b4.mono (by have := B3.out.size; simp; omega))); obtain ⟨d0, d1, d2, d3⟩ := box_at (t := 72) (o := o) ((b4.block w3.heap.size (by simp)).trans (by unfold boxD; exact heap_alloc_new w3 _)); have HO4 := Lib.hid (OwnD.at (OwnD.below (O3.out.below ((Below.refl w3.heap.size w3).alloc (Nat.le_refl _) _) (Nat.le_refl _)) b4 (Nat.le_refl _)) HML.out); have HE4 := Lib.hid (EyeAt.of_block E3.out ((b4.block w.heap.size (by have := E3.out.lt; simp; omega)).trans (heap_alloc_old _ _ E3.out.lt))); clear b4) | (refine Great.wpList_buildSliceTo rfl 114 72 1 #[(0, .tmp 19)] rfl _ rfl (some 20) rfl Tryz.underlying114 #[.int .i64 o.k, .int .i64 o.f, .int .i64 o.s, .string o.d] (opOne o.k o.f o.s o.d) ?_) | (at_builtin; refine wpList_append_lies _ rfl (.tmp 18) (.tmp 20) 114 rfl (w.heap.size + 1) 72 i0 _ 4 40 Tryz.underlying114 HI.out HZ0.out HZ1.out HZ2.out rfl (by omega) (.slice G j cg) j _ rfl (HO4.out.alloc _) ⟨w4.heap.size, 0, none⟩ 1 1 (dl o) rfl rfl (deed_src w4 _ o) (dl_one o) (by omega) (by have := HM.out; have := HJ.out; unfold maxLen; omega) (by have := HM.out; have := HJ.out; omega) (by have := HE4.out.lt; simp; omega) _ rfl ?_; intro g5 c5 w5 hown5 hg5 hwh5 hl5))
        have HON := Lib.hid (OwnD.grew (o := o) HML.out hown5)
        have HEN := Lib.hid (grown_keeps HO4.out hg5 HE4.out (Nat.lt_succ_self _))
        have HBN := Lib.hid (grown_below HB4.out (Nat.le_refl _) (Nat.le_succ _) HO4.out hg5)
        clear hown5 hg5 hwh5 hl5
        try rw [HW1.out]
        exact ⟨⟨j + 1, _, c5, M ++ [o], r2, bad2, rfl, HJ.out, rfl, by rw [List.length_append, HML.out]; rfl, HON.out, HEN.out, HRR.out, HPZ.out, HBN.out⟩, pt_less j n HJ.out⟩
    · have hje : j = n := by omega
      subst hje
      have x0 : ¬ (j : Int) < (j : Int) := by omega
      have x1 : decide ((j : Int) < (j : Int)) = false := decide_eq_false x0
      have hp := HP.out
      rw [Nat.sub_self, preD_end] at hp
      have HEE := Lib.hid (eye_end wr w.heap.size r bad HE.out)
      have HOD := Lib.hid HO.out
      by_cases hok : bad = false ∧ r.size = 0
      · rw [if_pos hok] at hp
        have HPF := Lib.hid hp
        rw [endOf_ok hok] at HEE
        clear hp hok
        go_wp2_with (fail)
        refine HEE.out.mono ?_
        rintro e w3 ⟨rfl, rfl⟩
        go_wp2_with (fail)
        refine bodyPost_ret (results_tmp2 rfl _ _ _) rfl ?_
        have := HML.out
        subst this
        exact pa_some HB.out HPF.out (OwnD.din HOD.out)
      · rw [if_neg hok] at hp
        have HPF := Lib.hid hp
        rw [endOf_not hok] at HEE
        clear hp hok
        go_wp2_with (fail)
        refine HEE.out.mono ?_
        rintro e w3 ⟨rfl, rfl⟩
        go_wp2_with (fail)
        refine bodyPost_ret (results_tmp2 rfl _ _ _) rfl ?_
        exact pa_none HB.out HPF.out
end Go.Proofs.YtlechjpaldpgnaaGreatDoor
namespace Go.Proofs.YtlechjpaldpgnaaGreatDoor
open Go.ChangeShapes Go.WideShapes Go.ChangeAt Go.RowKit Pn Pt
namespace Pt
theorem din_alloc (w : World) (L : List Deed) (cs : Array Value) (t : TypeId) (h : cs = (dsL L).toArray) : DIn (w.alloc (.cells cs t)) (some ⟨w.heap.size, 0, none⟩) L := fun _ => by
  subst h
  refine ⟨_, 0, rfl, fun i o ho => ?_⟩
  have ha := dsL_at L i o ho
  have hc := fun k => cell_of_row _ _ k _ _ _ (heap_alloc_new w (.cells (dsL L).toArray t))
  refine ⟨?_, ?_, ?_, ?_⟩
  · rw [Nat.zero_add, hc, List.getElem?_toArray]; exact (ha 0 (by omega)).trans rfl
  · rw [Nat.zero_add, hc, List.getElem?_toArray]; exact (ha 1 (by omega)).trans rfl
  · rw [Nat.zero_add, hc, List.getElem?_toArray]; exact (ha 2 (by omega)).trans rfl
  · rw [Nat.zero_add, hc, List.getElem?_toArray]; exact (ha 3 (by omega)).trans rfl
theorem pt_less2 (j n : Nat) (h : j < n) : n - ((j : Int) + 1).toNat < n - (j : Int).toNat := by omega
/-- What great answers. -/
def GreatSays (w : World) (e : Ending) (w' : World) : Prop := ∃ g : Bool, e = .returned (.bool g) ∧ w = w'
end Pt
namespace Pt
def awB : ByteArray := ⟨#[97, 98, 99, 100]⟩
def awL : List Deed := [⟨1, 1, 2, ⟨#[]⟩⟩, ⟨2, 0, 0, ⟨#[120]⟩⟩, ⟨3, 0, 0, ⟨#[1]⟩⟩]
def awM : List Deed := [⟨2, 0, 0, ⟨#[120]⟩⟩]
def awC : List Deed := [⟨1, 0, 2, ⟨#[]⟩⟩]
theorem aw_app : (⟨(appD awB [] awL).1.toArray⟩ : ByteArray) = ⟨#[98, 99, 120, 98]⟩ ∧ (appD awB [] awL).2 = 0 := by decide +kernel
theorem aw_not : (⟨(appD ⟨#[97]⟩ [] awC).1.toArray⟩ : ByteArray) = ⟨#[]⟩ ∧ (appD ⟨#[97]⟩ [] awC).2 = 1 := by decide +kernel
theorem aw_byt : canD awM = true ∧ (⟨(allL awM).toArray⟩ : ByteArray) = ⟨#[1, 0, 0, 0, 2, 1, 0, 0, 0, 120]⟩ := by decide +kernel
theorem aw_cost : costD [] = 4 := by decide +kernel
end Pt
theorem opThree (a0 a1 a2 b0 b1 b2 c0 c1 c2 : Int) (a3 b3 c3 : ByteArray) : Tryz.prog.builtSlice 72 3 [(0, .agg #[.int .i64 a0, .int .i64 a1, .int .i64 a2, .string a3]), (1, .agg #[.int .i64 b0, .int .i64 b1, .int .i64 b2, .string b3]), (2, .agg #[.int .i64 c0, .int .i64 c1, .int .i64 c2, .string c3])] = some #[.int .i64 a0, .int .i64 a1, .int .i64 a2, .string a3, .int .i64 b0, .int .i64 b1, .int .i64 b2, .string b3, .int .i64 c0, .int .i64 c1, .int .i64 c2, .string c3] := by kernel_rfl
end Go.Proofs.YtlechjpaldpgnaaGreatDoor
