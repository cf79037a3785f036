/-
  Proved: ShaText: of every sum the digits are the document's; of all bytes, the sum with these digits, if there is one. Condition (the card ties it): both tables lie as the program's text lays them.
-/
import Derived.Test.YtdadcpkkpopbcaaDoorShaParse2
import Derived.Test.YtdadcpkkpopbcaaDoorRefText
import Derived.Test.YtdadcpkkpopbcaaDoorGuard
import Derived.Test.YtdadcpkkpopbcaaDoorShaOfs
namespace Go.Proofs.YtdadcpkkpopbcaaDoor.shaText
open Go.ChangeShapes Go.WideShapes Go.ChangeAt Go.RowKit Sh

theorem parse_good (q : ByteArray) (w : World) (h : hexText q = true) :
    Calls Tryd.prog 17 #[.string q] w fun e w' => e = .returned (.tuple #[.agg (digF (parsedF q)), .int .i64 0]) ∧ Below w.heap.size w w' :=
  (parse_full q w (row_good q h).1).mono fun _ _ ⟨h1, h2⟩ => ⟨(by
    rcases h1 with ⟨_, h1⟩ | ⟨h1, _⟩
    · exact h1
    · rw [h] at h1; cases h1), h2⟩
theorem parse_not (q : ByteArray) (w : World) (h : hexText q = false) :
    Calls Tryd.prog 17 #[.string q] w fun e w' => e = .returned (.tuple #[.agg (digF fun _ => 0), .int .i64 5]) ∧ Below w.heap.size w w' := by
  by_cases hs : q.size = 64
  · exact (parse_full q w hs).mono fun _ _ ⟨h1, h2⟩ => ⟨(by
      rcases h1 with ⟨h1, _⟩ | ⟨_, h1⟩
      · rw [h] at h1; cases h1
      · exact h1), h2⟩
  · exact parse_len q w hs
theorem parse_text (f : Nat → UInt8) (w : World) :
    Calls Tryd.prog 17 #[.string ⟨(textOf f 32).toArray⟩] w fun e w' => e = .returned (.tuple #[.agg (digF f), .int .i64 0]) ∧ Below w.heap.size w w' := by
  have := parse_good _ w (text_good f)
  rwa [parsed_text] at this
theorem text_of_parsed (q : ByteArray) (w : World) (h : hexText q = true) :
    Calls Tryd.prog 16 #[.agg (digF (parsedF q))] w fun e w' => e = .returned (.string q) ∧ Below w.heap.size w w' := by
  have := text_any (parsedF q) w
  rwa [text_parsed q h] at this

set_option maxRecDepth 100000 in
set_option maxHeartbeats 1600000 in
theorem walk (f : Nat → UInt8) (s : ByteArray) (w : World) (hT : Tabs w) :
    Calls Tryd.prog 5 #[.agg (digF f), .string s] w fun e w' => e = .returned (.bool true) ∧ Below w.heap.size w w' := by
  have HT := Lib.hid hT
  clear hT
  have hi : (Tryd.prog.info? 25).map (·.size) = some (digF f).size := hiDigF f
  have HI := Lib.hid hi
  clear hi
  go_enter Tryd.func5, Tryd.ntmps5
  go_wp2_with (fail)
  have B0 := (Below.refl w.heap.size w).alloc (Nat.le_refl _) (.cells (digF f) 25)
  refine (awake_any _ (HT.out.below B0)).mono ?_
  rintro e w1 ⟨rfl, b1⟩
  have r1 : w1.rowIs w.heap.size 25 32 (fun j => .int .u8 ((f j).toNat : Int)) := (row_alloc (w := w) _ rfl rfl).of_block (b1.block _ (by simp))
  have B1 : Below w.heap.size w w1 := B0.trans (b1.mono (by simp))
  clear b1 B0
  have s1 := r1.lt
  by_cases h2 : s.size ≤ 200
  case neg =>
    have h2i : (200 : Int) < (s.size : Int) := by omega
    go_wp2_with (fail)
    go_ret
    exact ⟨rfl, B1⟩
  have h2i : ¬ (200 : Int) < (s.size : Int) := by omega
  have HR1 := Lib.hid (show w1.heap[w.heap.size]? = some (.cells (digF f) 25 (0, 0)) from row_block r1)
  have H2 := Lib.hid h2
  clear h2
  go_wp2_with (with_reducible refine wpList_load_row rfl 25 _ rfl _ rfl 25 _ (0, 0) _ HR1.out Tryd.underlying25 rfl HI.out ?_)
  refine (text_any f w1).mono ?_
  rintro e w2 ⟨rfl, b2⟩
  have s2 := b2.size
  have r2 := r1.of_block (b2.block _ s1)
  have B2 := B1.trans (b2.mono (by omega))
  clear r1 B1 b2 HR1
  have HR2 := Lib.hid (show w2.heap[w.heap.size]? = some (.cells (digF f) 25 (0, 0)) from row_block r2)
  go_wp2_with (fail)
  refine (parse_text f w2).mono ?_
  rintro e w3 ⟨rfl, b3⟩
  have s3 := b3.size
  have r3 := r2.of_block (b3.block _ (by omega))
  have B3 := B2.trans (b3.mono (by omega))
  clear r2 B2 b3 HR2
  have HNW := Lib.hid (show ∀ o, (w3.alloc o).heap[w3.heap.size]? = some o from fun o => heap_alloc_new w3 o)
  have HO := Lib.hid (hoDig f)
  have HXW := Lib.hid (show ∀ c, ((w3.alloc (.cells c 25)).setRow w3.heap.size (digF f)).heap[w3.heap.size]? = some (.cells (digF f) 25 (0, 0)) from fun c => setRow_heap _ _ _ _ _ _ (heap_alloc_new w3 _))
  have HDW := Lib.hid (show ∀ c, ((w3.alloc (.cells c 25)).setRow w3.heap.size (digF f)).heap[w.heap.size]? = some (.cells (digF f) 25 (0, 0)) from fun c => by
    rw [setRow_other _ _ _ _ (by omega), heap_alloc_old _ _ (by omega)]
    exact row_block r3)
  have HB4 := Lib.hid (show ∀ c, Below w.heap.size w ((w3.alloc (.cells c 25)).setRow w3.heap.size (digF f)) from fun c => below_setRow' (B3.alloc (by omega) _) (by omega) _)
  clear r3 B3
  go_wp2_with (first
    | (with_reducible refine wpList_store_row rfl 25 _ _ rfl _ _ rfl rfl 25 _ (HNW.out _) (hiDigF _) ?_ HO.out ?_)
    | (with_reducible refine wpList_load_row rfl 25 _ rfl _ rfl 25 _ (0, 0) _ (HDW.out _) Tryd.underlying25 rfl HI.out ?_))
  · unfold digF; rw [vals_size]; rfl
  refine (refText_any f _).mono ?_
  rintro e w5 ⟨rfl, b5⟩
  have hsz : ∀ c : Array Value, w3.heap.size < ((w3.alloc (.cells c 25)).setRow w3.heap.size (digF f)).heap.size := fun c => by simp
  have B5 : Below w.heap.size w w5 := (HB4.out _).trans (b5.mono (by have := hsz; simp; omega))
  have d5 : w5.heap[w.heap.size]? = some (.cells (digF f) 25 (0, 0)) := (b5.block _ (by simp; omega)).trans (HDW.out _)
  have x5 : w5.heap[w3.heap.size]? = some (.cells (digF f) 25 (0, 0)) := (b5.block _ (by simp)).trans (HXW.out _)
  have s5 := b5.size
  clear b5 HB4 HDW HXW HNW hsz
  have HX5 := Lib.hid x5
  have HD5 := Lib.hid d5
  clear x5 d5
  have hq : ∀ W, (binOp .neq 25 (.agg (digF f)) (.agg (digF f))).run Tryd.prog W = .ok (.bool false) W := fun W => by rw [run_neq_dig, same_refl]; rfl
  cases hx : hexText s with
  | true =>
    have HXT := Lib.hid hx
    clear hx
    go_wp2_with (first
      | (with_reducible refine wpList_load_row rfl 25 _ rfl _ rfl 25 _ (0, 0) _ HD5.out Tryd.underlying25 rfl HI.out ?_)
      | ((with_reducible refine wpList_load_row_g ?_ 25 _ rfl _ rfl 25 _ (0, 0) _ HX5.out Tryd.underlying25 rfl HI.out ?_); rfl)
      | ((with_reducible refine wpList_load_row_g ?_ 25 _ rfl _ rfl 25 _ (0, 0) _ HD5.out Tryd.underlying25 rfl HI.out ?_); rfl))
    refine (parse_good s w5 HXT.out).mono ?_
    rintro e w6 ⟨rfl, b6⟩
    have s6 := b6.size
    have B6 := B5.trans (b6.mono (by have := B5.size; omega))
    have HIP := Lib.hid (hiDigF (parsedF s))
    have HOP := Lib.hid (hoDig (parsedF s))
    have HN6 := Lib.hid (show ∀ o, (w6.alloc o).heap[w6.heap.size]? = some o from fun o => heap_alloc_new w6 o)
    have HX6 := Lib.hid (show ∀ c, ((w6.alloc (.cells c 25)).setRow w6.heap.size (digF (parsedF s))).heap[w6.heap.size]? = some (.cells (digF (parsedF s)) 25 (0, 0)) from fun c => setRow_heap _ _ _ _ _ _ (heap_alloc_new w6 _))
    have HB6 := Lib.hid (show ∀ c, Below w.heap.size w ((w6.alloc (.cells c 25)).setRow w6.heap.size (digF (parsedF s))) from fun c => below_setRow' (B6.alloc (by have := B6.size; omega) _) (by have := B6.size; omega) _)
    clear b6 B5 B6 s5 HX5 HD5 hq
    go_wp2_with (first
      | (with_reducible refine wpList_store_row rfl 25 _ _ rfl _ _ rfl rfl 25 _ (HN6.out _) HIP.out ?_ HOP.out ?_)
      | (with_reducible refine wpList_load_row rfl 25 _ rfl _ rfl 25 _ (0, 0) _ (HX6.out _) Tryd.underlying25 rfl HIP.out ?_))
    · unfold digF; rw [vals_size]; rfl
    refine (text_of_parsed s _ HXT.out).mono ?_
    rintro e w7 ⟨rfl, b7⟩
    have B7 := (HB6.out _).trans (b7.mono (by have := (HB6.out #[]).size; simp at this ⊢; omega))
    clear b7 HB6 HX6 HN6
    go_wp2
    go_ret
    exact ⟨rfl, B7⟩
  | false =>
    have HXT := Lib.hid hx
    clear hx
    go_wp2_with (first
      | (with_reducible refine wpList_load_row rfl 25 _ rfl _ rfl 25 _ (0, 0) _ HD5.out Tryd.underlying25 rfl HI.out ?_)
      | ((with_reducible refine wpList_load_row_g ?_ 25 _ rfl _ rfl 25 _ (0, 0) _ HX5.out Tryd.underlying25 rfl HI.out ?_); rfl)
      | ((with_reducible refine wpList_load_row_g ?_ 25 _ rfl _ rfl 25 _ (0, 0) _ HD5.out Tryd.underlying25 rfl HI.out ?_); rfl))
    refine (parse_not s w5 HXT.out).mono ?_
    rintro e w6 ⟨rfl, b6⟩
    have s6 := b6.size
    have B6 := B5.trans (b6.mono (by have := B5.size; omega))
    have HIP := Lib.hid (hiDigF fun _ => 0)
    have HOP := Lib.hid (hoDig fun _ => 0)
    have HN6 := Lib.hid (show ∀ o, (w6.alloc o).heap[w6.heap.size]? = some o from fun o => heap_alloc_new w6 o)
    have HX6 := Lib.hid (show ∀ c, ((w6.alloc (.cells c 25)).setRow w6.heap.size (digF fun _ => 0)).heap[w6.heap.size]? = some (.cells (digF fun _ => 0) 25 (0, 0)) from fun c => setRow_heap _ _ _ _ _ _ (heap_alloc_new w6 _))
    have HB6 := Lib.hid (show ∀ c, Below w.heap.size w ((w6.alloc (.cells c 25)).setRow w6.heap.size (digF fun _ => 0)) from fun c => below_setRow' (B6.alloc (by have := B6.size; omega) _) (by have := B6.size; omega) _)
    clear b6 B5 B6 s5 HX5 HD5 hq
    have hq0 : ∀ W, (binOp .eql 25 (.agg (digF fun _ => 0)) (.agg (digF fun _ => 0))).run Tryd.prog W = .ok (.bool true) W := fun W => by rw [run_eql_dig, same_refl]
    go_wp2_with (first
      | (with_reducible refine wpList_store_row rfl 25 _ _ rfl _ _ rfl rfl 25 _ (HN6.out _) HIP.out ?_ HOP.out ?_)
      | ((with_reducible refine wpList_load_row_g ?_ 25 _ rfl _ rfl 25 _ (0, 0) _ (HX6.out _) Tryd.underlying25 rfl HIP.out ?_); rfl)
      | ((with_reducible refine wpList_build_g ?_ 25 rfl _ hb5 ?_); rfl))
    · unfold digF; rw [vals_size]; rfl
    refine (digits_any s _ H2.out).mono ?_
    rintro e w7 ⟨rfl, rfl⟩
    rw [HXT.out]
    go_wp2
    go_ret
    exact ⟨rfl, HB6.out _⟩
end Go.Proofs.YtdadcpkkpopbcaaDoor.shaText
