/-
  Proved: PenBack: what was written is read as it was, to the end; unlike rows of numbers have unlike bytes; one list, or one by one, is the same. No condition.
-/
import Derived.Test.YtdadcpkkpopbcabPenAwake
import Derived.Test.YtdadcpkkpopbcabPenMath
import Derived.Test.YtdadcpkkpopbcabPenNil
import Derived.Deep.RegionHeld3
import Derived.Deep.QuietTactic
import Derived.BigQuiet
import Derived.Deep.Cut
import Derived.Deep.AppendLies
namespace Go.Proofs.Ytdadcpkkpopbcab.penBack
open Go.ChangeShapes Go.WideShapes Go.ChangeAt Go.RowKit Pn

theorem Chain.other {w w' : World} {p b : Nat} {lb : Option Addr} {xb : Bool} (hd : PenHd w b lb xb) (ho : Only w w' b) : ∀ {l : List ByteArray} {a : Option Addr}, Chain w p a l → Chain w' p a l
  | [], _, h => h
  | _ :: _, _, ⟨g, ah, e, hg, hb, hr⟩ => by
    have hne : g ≠ b := fun h => by
      rw [h, hd] at hb
      injection hb with hb
      injection hb with hb
      have := congrArg Array.size hb
      cases this
    exact ⟨g, ah, e, hg, (ho.block g (Array.getElem?_eq_some_iff.1 hb).1 hne).trans hb, Chain.other hd ho hr⟩
theorem PenAt.beside {w w' : World} {p b : Nat} {l lb : List ByteArray} {x xb : Bool} (h : PenAt w p l x) (hb : PenAt w b lb xb) (ho : Only w w' b) (hne : p ≠ b) : PenAt w' p l x := by
  obtain ⟨a, h1, h2⟩ := h
  obtain ⟨ab, h3, _⟩ := hb
  exact ⟨a, h1.of_block (ho.block p h1.lt hne), Chain.other h3 ho h2⟩
theorem infoI : (Try.prog.info? 3).map (fun i => (i.zero, i.size, i.bytes)) = some (some (.int .i64 0), 1, 8) := by kernel_rfl
/-- The first k numbers, cut to 32 bits, as cells. -/
def icells (xs : Nat → Int) (k : Nat) : List Value := (List.range k).map fun i => .int .i64 (cut32 (xs i))
theorem icells_next (xs : Nat → Int) (k : Nat) : icells xs (k + 1) = icells xs k ++ [.int .i64 (cut32 (xs k))] := by unfold icells; rw [List.range_succ, List.map_append]; rfl
theorem icells_length (xs : Nat → Int) (k : Nat) : (icells xs k).length = k := by simp [icells]
theorem icells_at (xs : Nat → Int) (k j : Nat) (h : j < k) : (icells xs k)[j]? = some (.int .i64 (cut32 (xs j))) := by simp [icells, h]

/-- The three pens. -/
structure Three (w wr : World) (P : Nat) (lp lq lo : List ByteArray) : Prop where
  p : PenAt wr P lp false
  q : PenAt wr (P + 1) lq false
  o : PenAt wr (P + 1 + 1) lo false
  below : Below w.heap.size w wr
namespace Three
variable {w wr w' : World} {P : Nat} {lp lq lo : List ByteArray}
theorem step (h : Three w wr P lp lq lo) (hb : Below wr.heap.size wr w') : Three w w' P lp lq lo := ⟨h.p.below hb, h.q.below hb, h.o.below hb, h.below.trans (hb.mono h.below.size)⟩
theorem setP (h : Three w wr P lp lq lo) (hP : w.heap.size ≤ P) {l : List ByteArray} (hp : PenAt w' P l false) (ho : Only wr w' P) : Three w w' P l lq lo :=
  ⟨hp, PenAt.beside h.q h.p ho (by omega), PenAt.beside h.o h.p ho (by omega), below_only h.below ho hP h.below.size⟩
theorem setQ (h : Three w wr P lp lq lo) (hP : w.heap.size ≤ P) {l : List ByteArray} (hp : PenAt w' (P + 1) l false) (ho : Only wr w' (P + 1)) : Three w w' P lp l lo :=
  ⟨PenAt.beside h.p h.q ho (by omega), hp, PenAt.beside h.o h.q ho (by omega), below_only h.below ho (by omega) h.below.size⟩
theorem setO (h : Three w wr P lp lq lo) (hP : w.heap.size ≤ P) {l : List ByteArray} (hp : PenAt w' (P + 1 + 1) l false) (ho : Only wr w' (P + 1 + 1)) : Three w w' P lp lq l :=
  ⟨PenAt.beside h.p h.o ho (by omega), PenAt.beside h.q h.o ho (by omega), hp, below_only h.below ho (by omega) h.below.size⟩
end Three

theorem own_three {w wr w' : World} {P : Nat} {lp lq lo : List ByteArray} {v : Value} {k : Nat} {zs : List Value} (h : wr.ownsRow (P + 3) 3 1 v k zs) (_h3 : Three w wr P lp lq lo) {b : Nat} (ho : Only wr w' b) (hb : b ≤ P + 2) : w'.ownsRow (P + 3) 3 1 v k zs := own_only h ho (by omega)
theorem one_src (w : World) (c : Int) : ∀ j u, ([.int .i64 c] : List Value)[j]? = some u → (w.alloc (.cells #[.int .i64 c] 3)).cell? ((⟨w.heap.size, 0, none⟩ : Addr).add j) = some u := fun j u hj => by
  rw [Addr.add_lit, Nat.zero_add, cell_of_row _ _ _ _ _ _ (heap_alloc_new w _), ← hj]
  exact List.getElem?_toArray
theorem one_one (c : Int) : ∀ u ∈ ([.int .i64 c] : List Value), u.oneCell' = true := fun u hu => by
  obtain rfl := List.mem_singleton.1 hu
  rfl
theorem nums_ok (xs : Nat → Int) (n : Nat) : numsOk (fun i => cut32 (xs i)) n = true := by
  unfold numsOk
  rw [List.all_eq_true]
  exact fun i _ => cut32_ok (xs i)
theorem own_at {w : World} {base n g c : Nat} {xs : Nat → Int} (h : w.ownsRow base 3 1 (.slice (some ⟨g, 0, none⟩) n c) n (icells xs n)) (j : Nat) (hj : j < n) : w.cell? ⟨g, 0 + j, none⟩ = some (.int .i64 (cut32 (xs j))) := by
  have h2 := h.cells (g := g) rfl j _ (icells_at xs n j hj)
  rwa [Addr.add_lit] at h2
theorem texts_eq (xs ys : Nat → Int) (n m : Nat) : ((⟨(numsL (fun i => cut32 (xs i)) n).toArray⟩ : ByteArray).toList == (⟨(numsL (fun i => cut32 (ys i)) m).toArray⟩ : ByteArray).toList) = sameK (fun i => cut32 (xs i)) (fun i => cut32 (ys i)) n m m := by
  have h := same_bytes (fun i => cut32 (xs i)) (fun i => cut32 (ys i)) n m (fun i => cut32_ok _) (fun i => cut32_ok _)
  rw [Bool.eq_iff_iff, ← h, beq_iff_eq, ByteArray.toList_eq, ByteArray.toList_eq]
  constructor
  · intro e
    apply ByteArray.ext
    exact Array.ext' e
  · intro e; rw [e]
theorem eye_num_back (w : World) (b : Nat) (x : Int) (T : List UInt8) (hx : numOk x = true) (h : EyeAt w b ⟨(numL x ++ T).toArray⟩ false) :
    Calls Try.prog 9 #[.pointer (some ⟨b, 0, none⟩), .int .i64 4294967296] w (EyeSays w b (.int .i64 x) ⟨T.toArray⟩ false) := by
  have hb : 0 ≤ x ∧ x ≤ 4294967295 := by unfold numOk at hx; simpa using hx
  exact (eye_num w b _ false h 4294967296).mono fun e w' hs => as_says hs (congrArg (fun z => Value.int .i64 z) (nm_num_out x hx T _ (by omega))) (nm_num_rest x hx T _ (by omega)) (nm_num_bad x hx T _ (by omega))
theorem eye_text_back (w : World) (b : Nat) (s : ByteArray) (T : List UInt8) (hs : s.size ≤ 1000000) (hl : (textL s ++ T).length ≤ 281474976710656) (h : EyeAt w b ⟨(textL s ++ T).toArray⟩ false) :
    Calls Try.prog 11 #[.pointer (some ⟨b, 0, none⟩), .int .i64 (s.size : Int)] w (EyeSays w b (.string s) ⟨T.toArray⟩ false) := by
  obtain ⟨h1, h2, h3⟩ := tx_text s hs T
  exact (eye_text w b _ false h (by rw [size_list]; exact hl) (s.size : Int)).mono fun e w' hh => as_says hh (congrArg Value.string h1) h2 h3
theorem own_kept {w w' : World} {base n g c b : Nat} {zs : List Value} (h : w.ownsRow base 3 1 (.slice (some ⟨g, 0, none⟩) n c) n zs) (ho : Only w.drew w' b) (hne : g ≠ b) : w'.ownsRow base 3 1 (.slice (some ⟨g, 0, none⟩) n c) n zs := by
  refine ⟨h.1, ?_⟩
  rcases h.2 with ⟨hn, _⟩ | ⟨g', cap, cur, hv, hb, hg, r⟩
  · cases hn
  · have hgg : g = g' := by injection hv with hv; injection hv with hv; injection hv
    exact .inr ⟨g', cap, cur, hv, hb, (ho.block g' (Array.getElem?_eq_some_iff.1 hg).1 (by omega)).trans hg, r⟩
theorem own_cells {w : World} {base size n : Nat} {v : Value} {zs : List Value} (h : w.ownsRow base 3 size v n zs) : ∀ g, v.ownBlock = some g → base ≤ g ∧ ∃ cur, w.heap[g]? = some (.cells cur 3 (0, 0)) := by
  intro g hg
  rcases h.2 with ⟨rfl, _⟩ | ⟨g', cap, cur, rfl, hb, hh, _⟩
  · cases hg
  · injection hg with hg
    subst hg
    exact ⟨hb, cur, hh⟩
theorem Chain.grown {w w' : World} {p : Nat} {row : Option Nat} (hg : w.grownBy w' row) (hr : ∀ g, row = some g → ∃ cur, w.heap[g]? = some (.cells cur 3 (0, 0))) : ∀ {l : List ByteArray} {a : Option Addr}, Chain w p a l → Chain w' p a l
  | [], _, h => h
  | _ :: _, _, ⟨g, ah, e, hne, hb, hc⟩ => by
    have hn : some g ≠ row := fun h => by
      obtain ⟨cur, hcur⟩ := hr g h.symm
      rw [hb] at hcur
      injection hcur with hcur
      injection hcur with _ hcur _
      exact absurd hcur (by decide)
    exact ⟨g, ah, e, hne, (hg.block g (Array.getElem?_eq_some_iff.1 hb).1 hn).trans hb, Chain.grown hg hr hc⟩
theorem PenAt.grown {w w' : World} {p : Nat} {l : List ByteArray} {x : Bool} {row : Option Nat} (h : PenAt w p l x) (hg : w.grownBy w' row) (hr : ∀ g, row = some g → ∃ cur, w.heap[g]? = some (.cells cur 3 (0, 0))) : PenAt w' p l x := by
  obtain ⟨a, h1, h2⟩ := h
  have hn : some p ≠ row := fun h => by
    obtain ⟨cur, hcur⟩ := hr p h.symm
    have h1' : w.heap[p]? = _ := h1
    rw [h1'] at hcur
    injection hcur with hcur
    injection hcur with _ hcur _
    exact absurd hcur (by decide)
  exact ⟨a, h1.of_block (hg.block p h1.lt hn), Chain.grown hg hr h2⟩
theorem Three.grown {w wr w' : World} {P base n : Nat} {lp lq lo : List ByteArray} {v : Value} {zs : List Value} (h : Three w wr P lp lq lo) (hg : wr.grownBy w' v.ownBlock) (ho : wr.ownsRow base 3 1 v n zs) (hb : w.heap.size ≤ base) : Three w w' P lp lq lo := by
  have hr := own_cells ho
  have hr2 : ∀ g, v.ownBlock = some g → ∃ cur, wr.heap[g]? = some (.cells cur 3 (0, 0)) := fun g e => (hr g e).2
  exact ⟨PenAt.grown h.p hg hr2, PenAt.grown h.q hg hr2, PenAt.grown h.o hg hr2, h.below.grown hg h.below.size (fun g e => Nat.le_trans hb (hr g e).1)⟩
set_option maxRecDepth 100000 in
set_option maxHeartbeats 16000000 in
theorem walk (w : World) (A0 A1 A2 : Option Addr) (n m t cap0 cap1 cap2 : Nat) (xs ys : Nat → Int) (ss : Nat → ByteArray) (hn : n ≤ 9223372036854775807) (hm : m ≤ 9223372036854775807) (ht : t ≤ 9223372036854775807)
    (hA0 : 0 < n → ∃ pb po, A0 = some ⟨pb, po, none⟩ ∧ ∀ k, k < n → w.cell? ⟨pb, po + k, none⟩ = some (.int .i64 (xs k)))
    (hA1 : 0 < m → ∃ pb po, A1 = some ⟨pb, po, none⟩ ∧ ∀ k, k < m → w.cell? ⟨pb, po + k, none⟩ = some (.int .i64 (ys k)))
    (hA2 : 0 < t → ∃ pb po, A2 = some ⟨pb, po, none⟩ ∧ ∀ k, k < t → w.cell? ⟨pb, po + k, none⟩ = some (.string (ss k))) :
    Calls Try.prog 4 #[.slice A0 n cap0, .slice A1 m cap1, .slice A2 t cap2] w fun e w' => e = .returned (.bool true) ∧ Below w.heap.size w w' := by
  have HA0 := Lib.hid hA0
  have HA1 := Lib.hid hA1
  have HA2 := Lib.hid hA2
  clear hA0 hA1 hA2
  go_enter Try.func4, Try.ntmps4
  go_wp2_with (fail)
  refine (awake_any w).mono ?_
  rintro e w1 ⟨rfl, b1⟩
  have s1 := b1.size
  by_cases hbig : 30 < n ∨ 30 < m ∨ 30 < t ∨ n = 0
  case pos =>
    rcases (show 30 < n ∨ (n ≤ 30 ∧ 30 < m) ∨ (n ≤ 30 ∧ m ≤ 30 ∧ 30 < t) ∨ (n ≤ 30 ∧ m ≤ 30 ∧ t ≤ 30 ∧ n = 0) by omega) with h | ⟨h, h2⟩ | ⟨h, h2, h3⟩ | ⟨h, h2, h3, h4⟩
    case' inl => have g1 : (30 : Int) < (n : Int) := by omega
    case' inr.inl =>
      have g1 : ¬ (30 : Int) < (n : Int) := by omega
      have g2 : (30 : Int) < (m : Int) := by omega
    case' inr.inr.inl =>
      have g1 : ¬ (30 : Int) < (n : Int) := by omega
      have g2 : ¬ (30 : Int) < (m : Int) := by omega
      have g3 : (30 : Int) < (t : Int) := by omega
    case' inr.inr.inr =>
      have g1 : ¬ (30 : Int) < (n : Int) := by omega
      have g2 : ¬ (30 : Int) < (m : Int) := by omega
      have g3 : ¬ (30 : Int) < (t : Int) := by omega
      have g4 : ((n : Int) == 0) = true := beq_iff_eq.2 (by omega)
    all_goals
      clear hbig
      go_wp2
      go_ret
      exact ⟨rfl, b1⟩
  have hn30 : n ≤ 30 := by omega
  have hm30 : m ≤ 30 := by omega
  have ht30 : t ≤ 30 := by omega
  have hn0 : 0 < n := by omega
  have g1 : ¬ (30 : Int) < (n : Int) := by omega
  have g2 : ¬ (30 : Int) < (m : Int) := by omega
  have g3 : ¬ (30 : Int) < (t : Int) := by omega
  have g4 : ((n : Int) == 0) = false := beq_eq_false_iff_ne.2 (by omega)
  clear hbig
  obtain ⟨i0, hi, hz0, hz1, hz2⟩ := info_parts infoI
  have HI := Lib.hid hi
  have HZ0 := Lib.hid hz0
  have HZ1 := Lib.hid hz1
  have HZ2 := Lib.hid hz2
  clear hi hz0 hz1 hz2
  go_upto_region 9 with (fail)
  clear g1 g2 g3 g4
  refine gen_world (fun wr => Three w wr w1.heap.size [] [] []) ?_ ?_
  · have h1 := heap_alloc_new w1 (.cells #[.pointer none, .bool false] 46)
    have h2 := heap_alloc_new (w1.alloc (.cells #[.pointer none, .bool false] 46)) (.cells #[.pointer none, .bool false] 46)
    have h3 := heap_alloc_new ((w1.alloc (.cells #[.pointer none, .bool false] 46)).alloc (.cells #[.pointer none, .bool false] 46)) (.cells #[.pointer none, .bool false] 46)
    simp only [World.size_alloc] at h2 h3
    refine ⟨pen_new _ _ ?_, pen_new _ _ ?_, pen_new _ _ h3, ((b1.alloc s1 _).alloc (by simp; omega) _).alloc (by simp; omega) _⟩
    · exact (heap_alloc_old _ _ (by simp; omega)).trans ((heap_alloc_old _ _ (by simp)).trans h1)
    · exact (heap_alloc_old _ _ (by simp)).trans h2
  intro w2 h3
  have hP : w.heap.size ≤ w1.heap.size := s1
  generalize w1.heap.size = P at h3 hP ⊢
  have T2 := Lib.hid h3
  clear h3 b1 s1
  have hPl := T2.out.o.lt
  go_upto_region 11 with (fail)
  refine gen_world (fun wr => Three w wr P [] [] [] ∧ wr.ownsRow (P + 3) 3 1 (.slice (some ⟨w2.heap.size, 0, none⟩) 0 0) 0 [] ∧ wr.ownsRow (P + 3) 3 1 (.slice (some ⟨w2.heap.size + 1, 0, none⟩) 0 0) 0 []) ?_ ?_
  · have h1 := World.ownsRow_made (base := P + 3) (e := 3) (size := 1) w2 #[] 0 (by omega) (Nat.zero_le _) rfl
    have h2 := World.ownsRow_made (base := P + 3) (e := 3) (size := 1) (w2.alloc (.cells #[] 3)) #[] 0 (by simp; omega) (Nat.zero_le _) rfl
    rw [World.size_alloc] at h2
    exact ⟨(T2.out.step ((Below.refl _ _).alloc (Nat.le_refl _) _)).step ((Below.refl _ _).alloc (Nat.le_refl _) _), h1.alloc _, h2⟩
  rintro w3 ⟨h3, ha3, hb3⟩
  have hab : w2.heap.size ≠ w2.heap.size + 1 := by omega
  generalize w2.heap.size + 1 = gb at hb3 hab ⊢
  generalize w2.heap.size = ga0 at ha3 hab ⊢
  have T3 := Lib.hid h3
  have HA3 := Lib.hid ha3
  have HB3 := Lib.hid hb3
  clear h3 ha3 hb3 T2 hPl
  go_wp2_with (fail)
  go_loopw [11, 13] (fun v i wr => ∃ (k ga ca : Nat) (lq : List ByteArray), k ≤ n ∧ i = .int .i64 k ∧ v = .slice (some ⟨ga, 0, none⟩) k ca ∧ ga ≠ gb ∧ wr.ownsRow (P + 3) 3 1 v k (icells xs k) ∧ wr.ownsRow (P + 3) 3 1 (.slice (some ⟨gb, 0, none⟩) 0 0) 0 [] ∧ Three w wr P [] lq [] ∧ penL lq = numsL (fun i => cut32 (xs i)) k ∧ total lq = 4 * k) (fun _ i _ => n - (intOf i).toNat)
  case atStart => exact ⟨0, ga0, 0, [], Nat.zero_le _, rfl, rfl, hab, HA3.out, HB3.out, T3.out, rfl, rfl⟩
  case round =>
    clear T3 HA3 HB3 hab
    obtain ⟨k, ga, ca, lq, hk, rfl, rfl, hne, hoa, hob, hthr, hpl, htot⟩ := hrel
    have HOA := Lib.hid hoa
    have HOB := Lib.hid hob
    have HT := Lib.hid hthr
    have HPL := Lib.hid hpl
    have HTO := Lib.hid htot
    clear hoa hob hthr hpl htot
    by_cases hlt : k < n
    · obtain ⟨pb, po, rfl, hc⟩ := HA0.out hn0
      have hck := (HT.out.below.cell (p := ⟨pb, po + k, none⟩) (block_lt_of_cell (hc k hlt))).trans (hc k hlt)
      have hw0 := HT.out.below.size
      have hpl : pb < w.heap.size := block_lt_of_cell (hc k hlt)
      have HCC := Lib.hid (hc k hlt)
      have l0 : 0 ≤ (k : Int) := by omega
      have m0 : (k : Int) < (n : Int) := by omega
      have hP3 := HT.out.o.lt
      clear hc
      have e1 : (xs k) % 4294967296 = cut32 (xs k) := rfl
      have HNX := Lib.hid (icells_next xs k)
      have HNL := Lib.hid (numsL_next (fun i => cut32 (xs i)) k)
      have hok := cut32_ok (xs k)
      have p0 : 0 ≤ cut32 (xs k) := by unfold cut32; omega
      have p1 : cut32 (xs k) < 4294967296 := by unfold cut32; omega
      have HOK := Lib.hid hok
      clear hok
      have hcx : ∀ x : Int, x = xs k → x % 4294967296 = cut32 (xs k) := fun x h => by rw [h]; rfl
      generalize hcc : cut32 (xs k) = c at e1 HNX HNL HOK p0 p1
      have HCQ := Lib.hid hcc
      clear hcc hcx
      go_upto_region 15 with (at_builtin; refine wpList_append_lies _ rfl (.tmp 58) (.tmp 65) 41 rfl (P + 3) 3 i0 _ 1 8 Try.underlying41 HI.out HZ0.out HZ1.out HZ2.out rfl (by omega) _ k _ rfl (HOA.out.alloc _) ⟨wr.heap.size, 0, none⟩ 1 1 [.int .i64 c] rfl rfl (one_src wr c) (one_one c) (by omega) (by unfold maxLen; omega) (by omega) (by simp; omega) _ rfl ?_; intro ga' ca' w4 hown4 hg4 hwh4 hl4)
      have hga' : ga' ≠ gb := by
        have hgbl := (HOB.out.lt gb rfl).2
        have hgal := (HOA.out.lt ga rfl).2
        rcases hwh4 with h | h
        · injection h with h
          have h' : ga = ga' := h
          omega
        · rw [h]; simp; omega
      have hba : Below wr.heap.size wr (wr.alloc (.cells #[.int .i64 c] 3)) := (Below.refl _ _).alloc (Nat.le_refl _) _
      have HT4 := Lib.hid ((HT.out.step hba).grown hg4 (HOA.out.alloc _) (by omega))
      rw [← HNX.out] at hown4
      have HOA4 := Lib.hid hown4
      have HOB4 := Lib.hid ((HOB.out.alloc (.cells #[.int .i64 c] 3)).kept hg4 (.inr (fun e => by injection e with e; exact hne e.symm)))
      have hck4 := (HT4.out.below.cell (p := ⟨pb, po + k, none⟩) hpl).trans HCC.out
      clear hwh4 hg4 hown4 hba
      go_upto_region 13 with (fail)
      refine (pen_num _ (P + 1) lq false ((HT4.out.step ((Below.refl _ _).alloc (Nat.le_refl _) _)).q) (some ⟨w4.heap.size, 0, none⟩) 1 1 (fun _ => c) (by omega) (fun _ => ⟨w4.heap.size, 0, rfl, by have := HT4.out.o.lt; omega, fun j hj => ?_⟩) (by have := HTO.out; omega)).mono ?_
      · obtain rfl : j = 0 := by omega
        exact cell_of_row _ _ 0 _ _ _ (heap_alloc_new w4 _)
      rintro e w5 ⟨rfl, p5, o5⟩
      have hn1 : numsOk (fun _ => c) 1 = true := by show (numOk c && true) = true; rw [HOK.out]; rfl
      rw [hn1] at p5
      have hl1 : numsL (fun _ => c) 1 = numL c := by simp [numsL, List.range, List.range.loop]
      have hA : penL (⟨(numsL (fun _ => c) 1).toArray⟩ :: lq) = numsL (fun i => cut32 (xs i)) (k + 1) := by
        rw [HNL.out]
        show penL lq ++ numsL (fun _ => c) 1 = _
        rw [HPL.out, hl1]
      have hB : total (⟨(numsL (fun _ => c) 1).toArray⟩ :: lq) = 4 * (k + 1) := by
        show (numsL (fun _ => c) 1).toArray.size + total lq = _
        rw [hl1, List.size_toArray, numL_length, HTO.out]
        omega
      have HREL := Lib.hid (show ∃ (k' ga ca : Nat) (lq : List ByteArray), k' ≤ n ∧ Value.int .i64 ((k : Int) + 1) = .int .i64 k' ∧ Value.slice (some ⟨ga', 0, none⟩) (k + 1) ca' = .slice (some ⟨ga, 0, none⟩) k' ca ∧ ga ≠ gb ∧ w5.ownsRow (P + 3) 3 1 (Value.slice (some ⟨ga', 0, none⟩) (k + 1) ca') k' (icells xs k') ∧ w5.ownsRow (P + 3) 3 1 (.slice (some ⟨gb, 0, none⟩) 0 0) 0 [] ∧ Three w w5 P [] lq [] ∧ penL lq = numsL (fun i => cut32 (xs i)) k' ∧ total lq = 4 * k' from
        ⟨k + 1, ga', ca', _, by omega, by go_num, rfl, hga', own_only (HOA4.out.alloc _) o5 (by omega), own_only (HOB4.out.alloc _) o5 (by omega), (HT4.out.step ((Below.refl _ _).alloc (Nat.le_refl _) _)).setQ hP p5 o5, hA, hB⟩)
      clear p5 o5 hn1 hl1 hA hB
      go_wp2
      go_roundw
      case rel => exact HREL.out
      case measure => simp [intOf]; omega
    · have hkn : k = n := by omega
      subst hkn
      have hgal := (HOA.out.lt ga rfl).2
      have hgab := (HOA.out.lt ga rfl).1
      go_wp2_with (fail)
      have hne2 : gb ≠ ga := fun h => hne h.symm
      go_loopw [10, 12, 14] (fun sm v i wy => ∃ (j gc cb : Nat), j ≤ m ∧ i = .int .i64 j ∧ v = .slice (some ⟨gc, 0, none⟩) j cb ∧ gc ≠ ga ∧ wy.ownsRow (P + 3) 3 1 v j (icells ys j) ∧ wy.ownsRow (P + 3) 3 1 (.slice (some ⟨ga, 0, none⟩) k ca) k (icells xs k) ∧ Three w wy P [] lq [] ∧ sm = .bool (sameK (fun i => cut32 (xs i)) (fun i => cut32 (ys i)) k m j)) (fun _ _ i _ => m - (intOf i).toNat)
      case atStart => exact ⟨0, gb, 0, Nat.zero_le _, rfl, rfl, hne2, HOB.out, HOA.out, HT.out, rfl⟩
      case round =>
        clear HOA HOB HT hgal
        obtain ⟨j, gc, cb, hj, rfl, rfl, hnc, hob, hoa, hthr, rfl⟩ := hrel
        have HOA := Lib.hid hoa
        have HOB := Lib.hid hob
        have HT := Lib.hid hthr
        clear hoa hob hthr
        by_cases hlt : j < m
        · obtain ⟨pb, po, rfl, hc⟩ := HA1.out (by omega)
          have hck := (HT.out.below.cell (p := ⟨pb, po + j, none⟩) (block_lt_of_cell (hc j hlt))).trans (hc j hlt)
          have hw0 := HT.out.below.size
          have l0 : 0 ≤ (j : Int) := by omega
          have m0 : (j : Int) < (m : Int) := by omega
          have hP3 := HT.out.o.lt
          clear hc
          have e1 : (ys j) % 4294967296 = cut32 (ys j) := rfl
          have HNX := Lib.hid (icells_next ys j)
          have p0 : 0 ≤ cut32 (ys j) := by unfold cut32; omega
          have p1 : cut32 (ys j) < 4294967296 := by unfold cut32; omega
          have HSK := Lib.hid (show sameK (fun i => cut32 (xs i)) (fun i => cut32 (ys i)) k m (j + 1) = (sameK (fun i => cut32 (xs i)) (fun i => cut32 (ys i)) k m j && (cut32 (xs j) == cut32 (ys j))) from rfl)
          have HSL := Lib.hid (sameK_len (fun i => cut32 (xs i)) (fun i => cut32 (ys i)) k m j)
          have HAT := Lib.hid (fun h : j < k => icells_at xs k j h)
          generalize cut32 (ys j) = c at e1 HNX p0 p1 HSK
          generalize cut32 (xs j) = c1 at HSK HAT
          generalize sameK (fun i => cut32 (xs i)) (fun i => cut32 (ys i)) k m j = sj at HSK HSL ⊢
          go_upto_region 20 with (at_builtin; refine wpList_append_lies _ rfl (.tmp 82) (.tmp 89) 41 rfl (P + 3) 3 i0 _ 1 8 Try.underlying41 HI.out HZ0.out HZ1.out HZ2.out rfl (by omega) _ j _ rfl (HOB.out.alloc _) ⟨wr.heap.size, 0, none⟩ 1 1 [.int .i64 c] rfl rfl (one_src wr c) (one_one c) (by omega) (by unfold maxLen; omega) (by omega) (by simp; omega) _ rfl ?_; intro gc' cb' w4 hown4 hg4 hwh4 hl4)
          have hgal := (HOA.out.lt ga rfl).2
          have hgc' : gc' ≠ ga := by
            rcases hwh4 with h | h
            · injection h with h
              have h' : gc = gc' := h
              omega
            · rw [h]; simp; omega
          have hba : Below wr.heap.size wr (wr.alloc (.cells #[.int .i64 c] 3)) := (Below.refl _ _).alloc (Nat.le_refl _) _
          have HT4 := Lib.hid ((HT.out.step hba).grown hg4 (HOB.out.alloc _) (by omega))
          have HBC := Lib.hid (show w4.cell? ⟨gc', j, none⟩ = some (.int .i64 c) by
            have h := hown4.cells (g := gc') rfl j (.int .i64 c) (by rw [List.getElem?_append_right (by rw [icells_length]; omega), icells_length]; simp)
            rwa [Addr.add_lit, Nat.zero_add] at h)
          rw [← HNX.out] at hown4
          have HOB4 := Lib.hid hown4
          have HOA4 := Lib.hid ((HOA.out.alloc (.cells #[.int .i64 c] 3)).kept hg4 (.inr (fun e => by injection e with e; exact hnc e.symm)))
          have HREL := Lib.hid (show ∀ (q : Nat) (x : Bool), x = (sj && (c1 == c)) → ∃ (j' gc cb : Nat), j' ≤ m ∧ Value.int .i64 ((j : Int) + 1) = .int .i64 j' ∧ Value.slice (some ⟨gc', 0, none⟩) (j + 1) cb' = .slice (some ⟨gc, 0, none⟩) j' cb ∧ gc ≠ ga ∧ (w4.drewN q).ownsRow (P + 3) 3 1 (Value.slice (some ⟨gc', 0, none⟩) (j + 1) cb') j' (icells ys j') ∧ (w4.drewN q).ownsRow (P + 3) 3 1 (.slice (some ⟨ga, 0, none⟩) k ca) k (icells xs k) ∧ Three w (w4.drewN q) P [] lq [] ∧ Value.bool x = .bool (sameK (fun i => cut32 (xs i)) (fun i => cut32 (ys i)) k m j') from
            fun q x hx => ⟨j + 1, gc', cb', by omega, by go_num, rfl, hgc', HOB4.out, HOA4.out, HT4.out.step (below_drewN (Below.refl _ _) q), by rw [hx, HSK.out]⟩)
          clear hwh4 hg4 hown4 hba hck
          cases sj with
          | false =>
            clear HAT HBC HSL
            go_quiet (fail)
            go_wp2
            go_roundw
            case rel => exact HREL.out _ _ rfl
            case measure => simp [intOf]; omega
          | true =>
            have hkm : k = m := HSL.out rfl
            have hac : w4.cell? ⟨ga, j, none⟩ = some (.int .i64 c1) := by
              have h := HOA4.out.cells (g := ga) rfl j (.int .i64 c1) (HAT.out (by omega))
              rwa [Addr.add_lit, Nat.zero_add] at h
            have hbc := HBC.out
            have q1 : IntKind.i64.wrap ((k : Int) - 1) = (k : Int) - 1 := IntWalk.i64_in _ (by omega)
            have q2 : min (j : Int) ((k : Int) - 1) = (j : Int) := by omega
            have q3 : (j : Int) < (k : Int) := by omega
            have q4 : (j : Int) < (j : Int) + 1 := by omega
            clear hkm HAT HBC HSL
            go_quiet (fail)
            go_wp2
            go_roundw
            case rel => exact HREL.out _ _ (by simp)
            case measure => simp [intOf]; omega
        · have hjm : j = m := by omega
          subst hjm
          have hgaP := (HOA.out.lt ga rfl).1
          have hgcP := (HOB.out.lt gc rfl).1
          have hw0 := HT.out.below.size
          have HQL := Lib.hid HPL.out
          have HEQ := Lib.hid (texts_eq xs ys k j)
          go_wp2_with (fail)
          refine (pen_num wr P [] false HT.out.p (some ⟨ga, 0, none⟩) k ca (fun i => cut32 (xs i)) (by omega) (fun _ => ⟨ga, 0, rfl, by omega, fun i hi => own_at HOA.out i hi⟩) (by simp only [total]; omega)).mono ?_
          rintro e w5 ⟨rfl, p5, o5⟩
          rw [nums_ok] at p5
          have HT5 := Lib.hid (HT.out.setP hP p5 o5)
          have HOA5 := Lib.hid (own_only HOA.out o5 (by omega))
          have HOB5 := Lib.hid (own_only HOB.out o5 (by omega))
          clear p5 o5 HT HOA HOB
          go_wp2_with (fail)
          refine (pen_num w5 (P + 1 + 1) [] false HT5.out.o (some ⟨gc, 0, none⟩) j cb (fun i => cut32 (ys i)) (by omega) (fun _ => ⟨gc, 0, rfl, by omega, fun i hi => own_at HOB5.out i hi⟩) (by simp only [total]; omega)).mono ?_
          rintro e w6 ⟨rfl, p6, o6⟩
          rw [nums_ok] at p6
          have HT6 := Lib.hid (HT5.out.setO hP p6 o6)
          have HOA6 := Lib.hid (own_only HOA5.out o6 (by omega))
          clear p6 o6 HT5 HOA5 HOB5
          have HN1 := Lib.hid (numsL_length (fun i => cut32 (xs i)) k)
          have HN2 := Lib.hid (numsL_length (fun i => cut32 (ys i)) j)
          have hs1 : total [⟨(numsL (fun i => cut32 (xs i)) k).toArray⟩] ≤ 200 := by
            simp only [total, ByteArray.size, List.size_toArray]
            have := HN1.out; omega
          have hs2 : total [⟨(numsL (fun i => cut32 (ys i)) j).toArray⟩] ≤ 200 := by
            simp only [total, ByteArray.size, List.size_toArray]
            have := HN2.out; omega
          have HS1 := Lib.hid hs1
          have HS2 := Lib.hid hs2
          clear hs1 hs2
          have HF := Lib.hid (show numsL (fun i => cut32 (xs i)) k = numsFrom (fun i => cut32 (xs i)) 0 k from (numsFrom_zero _ _).symm)
          go_wp2_with (fail)
          refine (as_val (pen_bytes w6 P _ _ HT6.out.p (by have := HS1.out; omega)) (show Value.string ⟨(penL [⟨(numsL (fun i => cut32 (xs i)) k).toArray⟩]).toArray⟩ = .string ⟨(numsL (fun i => cut32 (xs i)) k).toArray⟩ from rfl)).mono ?_
          rintro e w7 ⟨rfl, b7⟩
          have HT7 := Lib.hid (HT6.out.step b7)
          have HOA7 := Lib.hid (own_below HOA6.out b7)
          clear b7 HT6 HOA6
          go_wp2_with (fail)
          refine (as_val (pen_bytes w7 (P + 1) _ _ HT7.out.q (by have := HTO.out; omega)) (congrArg (fun l : List UInt8 => Value.string ⟨l.toArray⟩) HQL.out)).mono ?_
          rintro e w8 ⟨rfl, b8⟩
          have HT8 := Lib.hid (HT7.out.step b8)
          have HOA8 := Lib.hid (own_below HOA7.out b8)
          clear b8 HT7 HOA7
          go_wp2_with (fail)
          refine (pen_bad w8 P _ _ HT8.out.p).mono ?_
          rintro e w9 ⟨rfl, rfl⟩
          go_wp2_with (fail)
          refine (as_val (pen_bytes w8 P _ _ HT8.out.p (by have := HS1.out; omega)) (show Value.string ⟨(penL [⟨(numsL (fun i => cut32 (xs i)) k).toArray⟩]).toArray⟩ = .string ⟨(numsL (fun i => cut32 (xs i)) k).toArray⟩ from rfl)).mono ?_
          rintro e w9 ⟨rfl, b9⟩
          have HT9 := Lib.hid (HT8.out.step b9)
          have HOA9 := Lib.hid (own_below HOA8.out b9)
          clear b9 HT8 HOA8
          go_wp2_with (fail)
          refine (as_val (pen_bytes w9 (P + 1 + 1) _ _ HT9.out.o (by have := HS2.out; omega)) (show Value.string ⟨(penL [⟨(numsL (fun i => cut32 (ys i)) j).toArray⟩]).toArray⟩ = .string ⟨(numsL (fun i => cut32 (ys i)) j).toArray⟩ from rfl)).mono ?_
          rintro e wa ⟨rfl, ba⟩
          have HTa := Lib.hid (HT9.out.step ba)
          have HOAa := Lib.hid (own_below HOA9.out ba)
          clear ba HT9 HOA9
          have hEQ := HEQ.out
          generalize sameK (fun i => cut32 (xs i)) (fun i => cut32 (ys i)) k j j = sj at hEQ ⊢
          generalize (⟨(numsL (fun i => cut32 (ys i)) j).toArray⟩ : ByteArray) = S2 at hEQ ⊢
          generalize (⟨(numsL (fun i => cut32 (xs i)) k).toArray⟩ : ByteArray) = S1 at hEQ ⊢
          go_wp2_with (fail)
          clear hEQ
          go_loopw [15] (fun i wy => ∃ q : Nat, q ≤ t ∧ i = .int .i64 q ∧ (∀ x, x < q → (ss x).size ≤ 200) ∧ wa = wy) (fun i _ => t - (intOf i).toNat)
          case atStart => exact ⟨0, Nat.zero_le _, rfl, fun x hx => by omega, rfl⟩
          case round =>
            obtain ⟨q, hq, rfl, hall, rfl⟩ := hrel
            have HALL := Lib.hid hall
            clear hall
            by_cases hlt : q < t
            · obtain ⟨pb, po, rfl, hc⟩ := HA2.out (by omega)
              have hck := (HTa.out.below.cell (p := ⟨pb, po + q, none⟩) (block_lt_of_cell (hc q hlt))).trans (hc q hlt)
              have l0 : 0 ≤ (q : Int) := by omega
              have m0 : (q : Int) < (t : Int) := by omega
              clear hc
              by_cases h200 : (ss q).size ≤ 200
              · have HNX := Lib.hid (show ∀ x, x < q + 1 → (ss x).size ≤ 200 from fun x hx => by
                  rcases Nat.lt_or_ge x q with h | h
                  · exact HALL.out x h
                  · rw [show x = q by omega]; exact h200)
                generalize ss q = s at hck h200
                have h2 : ¬ (200 : Int) < (s.size : Int) := by omega
                go_wp2
                go_roundw
                case rel => exact ⟨q + 1, by omega, by go_num, HNX.out, trivial⟩
                case measure => simp [intOf]; omega
              · generalize ss q = s at hck h200
                have h2 : (200 : Int) < (s.size : Int) := by omega
                go_wp2
                go_ret
                exact ⟨rfl, HTa.out.below⟩
            · have hqt : q = t := by omega
              subst hqt
              go_wp2_with (fail)
              refine (pen_text wa P _ false HTa.out.p A2 q cap2 ss (by omega) (fun x hx => by have := HALL.out x hx; omega) (fun h0 => ?_) (by have := HS1.out; omega)).mono ?_
              · obtain ⟨pb, po, rfl, hc⟩ := HA2.out h0
                have hpb := block_lt_of_cell (hc 0 h0)
                exact ⟨pb, po, rfl, by have : pb < w.heap.size := hpb; omega, fun x hx => (HTa.out.below.cell (p := ⟨pb, po + x, none⟩) hpb).trans (hc x hx)⟩
              rintro e wb ⟨rfl, pB, oB⟩
              have HTb := Lib.hid (HTa.out.setP hP pB oB)
              have HOAb := Lib.hid (own_only HOAa.out oB (by omega))
              clear pB oB HTa HOAa
              have HTL := Lib.hid (textsL_le ss q fun x hx => by have := HALL.out x hx; omega)
              have htot3 : total [⟨(textsL ss q).toArray⟩, ⟨(numsL (fun i => cut32 (xs i)) k).toArray⟩] < 1099511627776 := by
                have h1 := HTL.out
                have h2 := HS1.out
                simp only [total, ByteArray.size, List.size_toArray] at h2 ⊢
                omega
              have HT3 := Lib.hid htot3
              clear htot3
              go_wp2_with (fail)
              refine (as_val (pen_bytes wb P _ _ HTb.out.p HT3.out) (show Value.string ⟨(penL [⟨(textsL ss q).toArray⟩, ⟨(numsL (fun i => cut32 (xs i)) k).toArray⟩]).toArray⟩ = .string ⟨(numsFrom (fun i => cut32 (xs i)) 0 k ++ textsFrom ss 0 q).toArray⟩ by rw [numsFrom_zero, textsFrom_zero]; rfl)).mono ?_
              rintro e wc ⟨rfl, bc⟩
              have HBc := Lib.hid (HTb.out.below.trans (bc.mono HTb.out.below.size))
              have HOAc := Lib.hid (own_below HOAb.out bc)
              clear bc HTb HOAb
              go_wp2_with (fail)
              refine (eye_of _ wc).mono ?_
              rintro e wd ⟨rfl, ed, bd⟩
              have HBd := Lib.hid (HBc.out.trans (bd.mono HBc.out.size))
              have HOAd := Lib.hid (own_below HOAc.out bd)
              have hEga : ga < wc.heap.size := (HOAc.out.lt ga rfl).2
              have hEw : w.heap.size ≤ wc.heap.size := HBc.out.size
              generalize wc.heap.size = E at ed hEga hEw ⊢
              have HEd := Lib.hid ed
              clear ed bd HBc HOAc
              have HLT := Lib.hid (show ∀ x, x ≤ q → (textsFrom ss x q).length ≤ 1000004 * (q - x) from fun x hx => by
                have h := textsL_le (fun i => ss (x + i)) (q - x) (fun y hy => by have := HALL.out (x + y) (by omega); omega)
                exact h)
              go_wp2_with (fail)
              go_loopw [17] (fun i wy => ∃ x : Nat, x ≤ k ∧ i = .int .i64 x ∧ EyeAt wy E ⟨(numsFrom (fun i => cut32 (xs i)) x k ++ textsFrom ss 0 q).toArray⟩ false ∧ wy.ownsRow (P + 3) 3 1 (.slice (some ⟨ga, 0, none⟩) k ca) k (icells xs k) ∧ Below w.heap.size w wy) (fun i _ => k - (intOf i).toNat)
              case atStart => exact ⟨0, Nat.zero_le _, rfl, HEd.out, HOAd.out, HBd.out⟩
              case round =>
                clear HEd HOAd HBd
                obtain ⟨x, hx, rfl, hey, hoy, hby⟩ := hrel
                have HEY := Lib.hid hey
                have HOY := Lib.hid hoy
                have HBY := Lib.hid hby
                clear hey hoy hby
                by_cases hxl : x < k
                · have hcx := own_at HOY.out x hxl
                  rw [Nat.zero_add] at hcx
                  have hgl := (HOY.out.lt ga rfl).2
                  have hEl := HEY.out.lt
                  have hok := cut32_ok (xs x)
                  have HST := Lib.hid (show EyeAt wr.drew E ⟨(numL (cut32 (xs x)) ++ (numsFrom (fun i => cut32 (xs i)) (x + 1) k ++ textsFrom ss 0 q)).toArray⟩ false by
                    have := HEY.out
                    rw [numsFrom_step _ _ _ hxl, List.append_assoc] at this
                    exact this)
                  have HEN := Lib.hid (eye_num_back wr.drew E (cut32 (xs x)) _ hok HST.out)
                  clear hok HST
                  generalize cut32 (xs x) = c at hcx HEN
                  have hcd : wr.drew.cell? ⟨ga, x, none⟩ = some (.int .i64 c) := hcx
                  have hEg : ga ≠ E := by omega
                  have l0 : 0 ≤ (x : Int) := by omega
                  have m0 : (x : Int) < (k : Int) := by omega
                  go_wp2
                  go_region_held3 (fun W : World => W.cell? ⟨ga, x, none⟩ = some (.int .i64 c)) (first | exact hcd | assumption)
                    ((go_at_call 9; refine HEN.out.mono ?_; rintro e w5 ⟨rfl, k1, k2⟩; have y1 : w5.cell? ⟨ga, x, none⟩ = some (.int .i64 c) := (k2.cell (a := ⟨ga, x, none⟩) hgl hEg).trans hcd))
                  all_goals
                    have HREL := Lib.hid (show ∃ x' : Nat, x' ≤ k ∧ Value.int .i64 ((x : Int) + 1) = .int .i64 x' ∧ EyeAt w5 E ⟨(numsFrom (fun i => cut32 (xs i)) x' k ++ textsFrom ss 0 q).toArray⟩ false ∧ w5.ownsRow (P + 3) 3 1 (.slice (some ⟨ga, 0, none⟩) k ca) k (icells xs k) ∧ Below w.heap.size w w5 from
                      ⟨x + 1, by omega, by go_num, k1, own_kept HOY.out k2 (fun h => hEg h), below_only (below_drewN HBY.out 1) k2 hEw HBY.out.size⟩)
                    clear k1 k2 y1 HEN
                    go_wp2
                    go_roundw
                    case rel => exact HREL.out
                    case measure => simp [intOf]; omega
                · have hxk : x = k := by omega
                  have HEZ := Lib.hid (show EyeAt wr E ⟨(textsFrom ss 0 q).toArray⟩ false by
                    have := HEY.out
                    rw [hxk, numsFrom_end] at this
                    exact this)
                  clear HEY HOY hxk
                  go_wp2_with (fail)
                  go_loopw [18] (fun i wy => ∃ x : Nat, x ≤ q ∧ i = .int .i64 x ∧ EyeAt wy E ⟨(textsFrom ss x q).toArray⟩ false ∧ Below w.heap.size w wy) (fun i _ => q - (intOf i).toNat)
                  case atStart => exact ⟨0, Nat.zero_le _, rfl, HEZ.out, HBY.out⟩
                  case round =>
                    clear HEZ HBY
                    obtain ⟨y, hy, rfl, hey, hby⟩ := hrel
                    have HEY := Lib.hid hey
                    have HBY := Lib.hid hby
                    clear hey hby
                    by_cases hyl : y < q
                    · obtain ⟨pb, po, rfl, hc⟩ := HA2.out (by omega)
                      have hpb : pb < w.heap.size := block_lt_of_cell (hc y hyl)
                      have hcy := (HBY.out.cell (p := ⟨pb, po + y, none⟩) hpb).trans (hc y hyl)
                      have hsy := HALL.out y hyl
                      have hly := HLT.out (y + 1) (by omega)
                      have HST := Lib.hid (show EyeAt wr.drew E ⟨(textL (ss y) ++ textsFrom ss (y + 1) q).toArray⟩ false by
                        have := HEY.out
                        rw [textsFrom_step _ _ _ hyl] at this
                        exact this)
                      have HEN := Lib.hid (eye_text_back wr.drew E (ss y) _ (by omega) (by rw [List.length_append, textL_length]; omega) HST.out)
                      have hw9 := HBY.out.size
                      clear HST hc
                      generalize ss y = s at hcy HEN hsy
                      have hcd : wr.drew.cell? ⟨pb, po + y, none⟩ = some (.string s) := hcy
                      have hEg : pb ≠ E := by omega
                      have l0 : 0 ≤ (y : Int) := by omega
                      have m0 : (y : Int) < (q : Int) := by omega
                      go_wp2
                      go_region_held3 (fun W : World => W.cell? ⟨pb, po + y, none⟩ = some (.string s)) (first | exact hcd | assumption)
                        ((go_at_call 11; refine HEN.out.mono ?_; rintro e w5 ⟨rfl, k1, k2⟩; have y1 : w5.cell? ⟨pb, po + y, none⟩ = some (.string s) := (k2.cell (a := ⟨pb, po + y, none⟩) (Nat.lt_of_lt_of_le hpb hw9) hEg).trans hcd))
                      all_goals
                        have HREL := Lib.hid (show ∃ x' : Nat, x' ≤ q ∧ Value.int .i64 ((y : Int) + 1) = .int .i64 x' ∧ EyeAt w5 E ⟨(textsFrom ss x' q).toArray⟩ false ∧ Below w.heap.size w w5 from
                          ⟨y + 1, by omega, by go_num, k1, below_only (below_drewN HBY.out 1) k2 hEw HBY.out.size⟩)
                        clear k1 k2 y1 HEN
                        go_wp2
                        go_roundw
                        case rel => exact HREL.out
                        case measure => simp [intOf]; omega
                    · have hyq : y = q := by omega
                      have HE9 := Lib.hid (show EyeAt wr E ⟨#[]⟩ false by
                        have := HEY.out
                        rw [hyq, textsFrom_end] at this
                        exact this)
                      clear HEY hyq
                      go_wp2_with (fail)
                      refine (eye_end wr E _ false HE9.out).mono ?_
                      rintro e w9 ⟨rfl, rfl⟩
                      go_wp2_with (fail)
                      refine (eye_left wr E _ false HE9.out).mono ?_
                      rintro e w9 ⟨rfl, rfl⟩
                      go_wp2
                      go_ret
                      exact ⟨rfl, HBY.out⟩
end Go.Proofs.Ytdadcpkkpopbcab.penBack
