/-
  Package disk: a new one of zeros, and one over a row of sectors. Conditions: from none to 4096 sectors.
-/
import Derived.Test.YtmnponjngdnolaaDkSpec
import Derived.Test.YtmnponjngdnolaaBuildNone
import Derived.Lib.Hide
import Derived.IntWalk
import Derived.WalkKit
import Derived.Lib.LazyBuf
namespace Go.Proofs.Ytmnponjngdnolaa
open Go.ChangeShapes Go.WideShapes Go.ChangeAt Go.RowKit Dk

theorem infoS : (Try.prog.info? 52).map (fun i => (i.zero, i.size, i.bytes)) = some (some (.agg (secA fun _ => 0)), 32, 32) := by kernel_rfl
/-- Cells of bytes. -/
def bcellsK (f : Nat → UInt8) (m : Nat) : List Value := (List.range m).map fun k => .int .u8 ((f k).toNat : Int)
theorem bcellsK_length (f : Nat → UInt8) (m : Nat) : (bcellsK f m).length = m := by simp [bcellsK]
theorem bcellsK_get (f : Nat → UInt8) (m k : Nat) (h : k < m) : (bcellsK f m)[k]? = some (.int .u8 ((f k).toNat : Int)) := by simp [bcellsK, h]
theorem bcellsK_one (f : Nat → UInt8) (m : Nat) : ∀ u ∈ bcellsK f m, u.oneCell' = true := by
  intro u hu
  obtain ⟨b, _, rfl⟩ := List.mem_map.1 hu
  rfl
theorem row_own {w : World} {base b n c : Nat} {f : Nat → UInt8} (h : w.ownsRow base 52 32 (.slice (some ⟨b, 0, none⟩) n c) n (bcellsK f (n * 32))) : Row w b n f ∧ n ≤ c := by
  rcases h.2 with ⟨hn, _⟩ | ⟨g, cap, cur, hv, hb, hg, hnc, _, _, ht⟩
  · cases hn
  · injection hv with h1 h2 h3
    injection h1 with h1
    injection h1 with h1
    subst h1 h3
    refine ⟨⟨cur, hg, fun k hk => ?_⟩, hnc⟩
    rw [← bcellsK_get f (n * 32) k hk, ← ht, List.getElem?_take_of_lt hk, Array.getElem?_toList]
theorem own_formK {w : World} {base : Nat} {e : TypeId} {size n : Nat} {v : Value} {xs : List Value} (h : w.ownsRow base e size v n xs) (hv : v ≠ .slice none 0 0) : ∃ g cap, v = .slice (some ⟨g, 0, none⟩) n cap ∧ base ≤ g := by
  rcases h.2 with ⟨hn, _⟩ | ⟨g, cap, cur, rfl, hb, _⟩
  · exact absurd hn hv
  · exact ⟨g, cap, rfl, hb⟩
theorem src_row {w : World} {b n : Nat} {f : Nat → UInt8} (h : Row w b n f) (o : Obj) : ∀ j u, (bcellsK f (n * 32))[j]? = some u → (w.alloc o).cell? ((⟨b, 0, none⟩ : Addr).add j) = some u := fun j u hj => by
  have hl := (List.getElem?_eq_some_iff.1 hj).1
  rw [bcellsK_length] at hl
  rw [Addr.add_lit, Nat.zero_add, World.cell?_alloc_lt _ _ _ h.lt, h.cell j hl, ← bcellsK_get f (n * 32) j hl, hj]
set_option maxHeartbeats 800000 in
theorem clone_rows (w : World) (b n c : Nat) (f : Nat → UInt8) (h : Row w b n f) (hn : n ≤ 4096) :
    Calls Try.prog 31 #[.slice (some ⟨b, 0, none⟩) n c] w fun e w' => ∃ t ct, e = .returned (.slice (some ⟨t, 0, none⟩) n ct) ∧ Row w' t n f ∧ n ≤ ct ∧ w.heap.size ≤ t ∧ Below w.heap.size w w' := by
  have H := Lib.hid h
  obtain ⟨i0, hi, hz0, hz1, hz2⟩ := info_parts infoS
  have HI := Lib.hid hi
  have HZ0 := Lib.hid hz0
  have HZ1 := Lib.hid hz1
  have HZ2 := Lib.hid hz2
  have HZS := Lib.hid (show (Value.agg (secA fun _ => 0)).cells.size = 32 from vals_size 32 _)
  have HN := Lib.hid hn
  have HLN := Lib.hid (bcellsK_length f (n * 32))
  have HO1 := Lib.hid (bcellsK_one f (n * 32))
  clear h hi hz0 hz1 hz2 hn
  have HOWN := Lib.hid (show (w.alloc (.cells #[] 52)).ownsRow w.heap.size 52 32 (.slice (some ⟨w.heap.size, 0, none⟩) 0 0) 0 [] from World.ownsRow_made w #[] 0 (Nat.le_refl _) (Nat.zero_le _) rfl)
  have HSRC := Lib.hid (src_row H.out (.cells #[] 52))
  have heq : ∀ W : World, (binOp .eql 46 (.slice (some ⟨b, 0, none⟩) n c) (.slice none 0 0)).run Try.prog W = .ok (.bool false) W := fun W => run_eql_slice_nil W _ _ _ n c Try.underlying46
  go_enter Try.func31, Try.ntmps31
  go_wp2_with (first
    | (with_reducible refine wpList_buildNone rfl 46 52 rfl i0 Try.underlying46 HI.out ?_)
    | (at_builtin; refine wpList_append_own _ rfl (.tmp 5) (.tmp 6) 46 rfl w.heap.size 52 i0 _ 32 32 Try.underlying46 HI.out HZ0.out HZ1.out HZ2.out HZS.out (by omega) (.slice (some ⟨w.heap.size, 0, none⟩) 0 0) 0 [] rfl HOWN.out ⟨b, 0, none⟩ n c (bcellsK f (n * 32)) rfl HLN.out HSRC.out HO1.out (by have := HN.out; unfold maxLen; omega) (by have := HN.out; omega) (by simp) ?_; intro v9 w9 hown9 hg9 hnil; obtain ⟨g9, c9, rfl, hg9b⟩ := own_formK hown9 (fun h' => by have := (hnil.1 h').1; simp at this)))
  rw [Nat.zero_add, List.nil_append] at hown9
  obtain ⟨hr, hc⟩ := row_own hown9
  have hb := ((Below.refl w.heap.size w).alloc (Nat.le_refl _) (.cells #[] 52)).grown hg9 (by simp) (fun k hk => by
    have : k = w.heap.size := by simpa [Value.ownBlock] using hk.symm
    omega)
  refine bodyPost_ret (results_tmp rfl _ _ _) rfl ?_
  exact ⟨g9, c9, rfl, hr, hc, hg9b, hb⟩
theorem madeCells_bytes (n : Nat) : (madeCells (Value.agg (secA fun _ => 0)).cells (n * 32)).toList = bcellsK (fun _ => 0) (n * 32) := by
  apply List.ext_getElem?
  intro j
  by_cases hj : j < n * 32
  · rw [bcellsK_get _ _ _ hj]
    have hs : (Value.agg (secA fun _ => 0)).cells.size = 32 := vals_size 32 _
    have h2 : (Value.agg (secA fun _ => 0)).cells[j % 32]? = some (.int .u8 0) := vals_get 32 _ _ (by omega)
    rw [Array.getElem?_toList]
    unfold madeCells
    rw [Array.getElem?_map, Array.getElem?_range, if_pos hj, Option.map_some, hs, Array.getElem!_eq_getD, Array.getD_eq_getD_getElem?, h2]
    rfl
  · rw [List.getElem?_eq_none (by rw [Array.length_toList, size_madeCells]; omega), List.getElem?_eq_none (by rw [bcellsK_length]; omega)]

/-- A disk over a row of sectors. -/
def freshSt (n : Nat) (f : Nat → UInt8) : St := { n := n, safe := f, now := f, loose := [], fuse := none, away := false, done := 0 }
theorem disk_of (K : Nat → Prop) (w : World) (s n c : Nat) (f : Nat → UInt8) (h : Row w s n f) (hn : n ≤ 4096) (hc : n ≤ c) (hs : K s) (hK : ∀ i, w.heap.size ≤ i → K i) :
    Calls Try.prog 23 #[.slice (some ⟨s, 0, none⟩) n c] w fun e w' => ∃ D, e = .returned (.pointer (some ⟨D, 0, none⟩)) ∧ w.heap.size ≤ D ∧ DiskAt K w' D (freshSt n f) ∧ Below w.heap.size w w' := by
  have H := Lib.hid h
  have HK := Lib.hid hK
  clear h hK
  go_enter Try.func23, Try.ntmps23
  go_wp2_with (fail)
  refine (clone_rows w s n c f H.out hn).mono ?_
  rintro e w1 ⟨t, ct, rfl, ht, hct, htb, hb⟩
  have HT := Lib.hid ht
  have HB := Lib.hid hb
  clear ht hb
  go_wp2
  refine bodyPost_ret (results_tmp rfl _ _ _) rfl ?_
  have hsl := H.out.lt
  have hs1 := H.out.of_block (HB.out.block s hsl)
  have htl := HT.out.lt
  refine ⟨_, rfl, HB.out.size, ⟨s, c, t, ct, .slice none 0 0, .pointer none, heap_alloc_new w1 _, hs1.of_block (heap_alloc_old w1 _ hs1.lt), HT.out.of_block (heap_alloc_old w1 _ htl), by omega, hc, hct, World.ownsRow_nil _ _ _ _, rfl, (fun y hy => by cases hy), hn, HK.out _ HB.out.size, hs, HK.out _ htb, fun g hg => by cases hg⟩, HB.out.alloc HB.out.size _⟩
theorem disk_new (K : Nat → Prop) (w : World) (m : Int) (n : Nat) (hn : (n : Int) = min (max m 0) 4096) (hK : ∀ i, w.heap.size ≤ i → K i) :
    Calls Try.prog 6 #[.int .i64 m] w fun e w' => ∃ D, e = .returned (.pointer (some ⟨D, 0, none⟩)) ∧ w.heap.size ≤ D ∧ DiskAt K w' D (freshSt n fun _ => 0) ∧ Below w.heap.size w w' := by
  have HK := Lib.hid hK
  obtain ⟨i0, hi, hz0, hz1, hz2⟩ := info_parts infoS
  have HI := Lib.hid hi
  have HZ0 := Lib.hid hz0
  have HZ1 := Lib.hid hz1
  have HZ2 := Lib.hid hz2
  have HN := Lib.hid hn
  have hnb : n ≤ 4096 := by omega
  clear hK hi hz0 hz1 hz2 hn
  have hval : (m < 0 ∧ n = 0) ∨ (¬ m < 0 ∧ m ≤ 4096 ∧ m = (n : Int)) ∨ (¬ m < 0 ∧ ¬ m ≤ 4096 ∧ n = 4096) := by have := HN.out; omega
  have hfin : ∀ (w1 : World), w1.ownsRow w.heap.size 52 32 (.slice (some ⟨w.heap.size, 0, none⟩) n n) n (madeCells (Value.agg (secA fun _ => 0)).cells (n * 32)).toList → w.grownBy w1 none →
      Calls Try.prog 23 #[.slice (some ⟨w.heap.size, 0, none⟩) n n] w1 fun e w' => ∃ D, e = .returned (.pointer (some ⟨D, 0, none⟩)) ∧ w.heap.size ≤ D ∧ DiskAt K w' D (freshSt n fun _ => 0) ∧ Below w.heap.size w w' := fun w1 ho hg => by
    rw [madeCells_bytes] at ho
    obtain ⟨hr, hc⟩ := row_own ho
    have hb := (Below.refl w.heap.size w).grown hg (Nat.le_refl _) (fun k hk => by cases hk)
    refine (disk_of K w1 w.heap.size n n _ hr hnb hc (HK.out _ (Nat.le_refl _)) (fun i hi => HK.out i (Nat.le_trans hb.size hi))).mono ?_
    rintro e w2 ⟨D, rfl, h1, h2, h3⟩
    exact ⟨D, rfl, Nat.le_trans hb.size h1, h2, hb.trans (h3.mono hb.size)⟩
  have HFIN := Lib.hid hfin
  clear hfin
  rcases hval with ⟨h1, h2⟩ | ⟨h1, h2, h3⟩ | ⟨h1, h2, h3⟩
  · have h1' : ¬ 0 ≤ m := by omega
    subst h2
    clear HN hnb
    go_enter Try.func6, Try.ntmps6
    go_wp2_with (at_make; refine wpList_make_full _ rfl _ _ 46 rfl w.heap.size 52 i0 _ 32 Try.underlying46 HI.out HZ0.out HZ1.out .i64 .i64 _ _ 0 rfl rfl rfl rfl (by omega) (by unfold maxLen; omega) (Nat.le_refl _) ?_; intro w1 hown hg1)
    refine (HFIN.out w1 hown hg1).mono ?_
    rintro e w2 ⟨D, rfl, g1, g2, g3⟩
    have G2 := Lib.hid g2
    clear g2 hown hg1 HFIN HK
    go_wp2
    exact bodyPost_ret (results_tmp rfl _ _ _) rfl ⟨D, rfl, g1, G2.out, g3⟩
  · have h1' : 0 ≤ m := by omega
    subst h3
    clear HN
    go_enter Try.func6, Try.ntmps6
    go_wp2_with (at_make; refine wpList_make_full _ rfl _ _ 46 rfl w.heap.size 52 i0 _ 32 Try.underlying46 HI.out HZ0.out HZ1.out .i64 .i64 _ _ n rfl rfl rfl rfl (by rw [HZ2.out]; omega) (by unfold maxLen; omega) (Nat.le_refl _) ?_; intro w1 hown hg1)
    refine (HFIN.out w1 hown hg1).mono ?_
    rintro e w2 ⟨D, rfl, g1, g2, g3⟩
    have G2 := Lib.hid g2
    clear g2 hown hg1 HFIN HK
    go_wp2
    exact bodyPost_ret (results_tmp rfl _ _ _) rfl ⟨D, rfl, g1, G2.out, g3⟩
  · have h1' : 0 ≤ m := by omega
    have h2' : 4096 < m := by omega
    subst h3
    clear HN
    go_enter Try.func6, Try.ntmps6
    go_wp2_with (at_make; refine wpList_make_full _ rfl _ _ 46 rfl w.heap.size 52 i0 _ 32 Try.underlying46 HI.out HZ0.out HZ1.out .i64 .i64 _ _ 4096 rfl rfl rfl rfl (by rw [HZ2.out]; omega) (by unfold maxLen; omega) (Nat.le_refl _) ?_; intro w1 hown hg1)
    refine (HFIN.out w1 hown hg1).mono ?_
    rintro e w2 ⟨D, rfl, g1, g2, g3⟩
    have G2 := Lib.hid g2
    clear g2 hown hg1 HFIN HK
    go_wp2
    exact bodyPost_ret (results_tmp rfl _ _ _) rfl ⟨D, rfl, g1, G2.out, g3⟩
end Go.Proofs.Ytmnponjngdnolaa
