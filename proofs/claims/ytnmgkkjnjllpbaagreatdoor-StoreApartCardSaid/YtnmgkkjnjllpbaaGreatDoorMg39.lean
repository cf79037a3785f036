/-
  StoreApart: the record and both slots have no sector in common: what is saved, and put in one of them, leaves the others as they are; opened again all is there. The walk. Condition: both tables of sums lie as the program's text lays them.
-/
import Derived.Test.YtnmgkkjnjllpbaaGreatDoorMg18
import Derived.Test.YtnmgkkjnjllpbaaGreatDoorMg38
import Derived.Test.YtnmgkkjnjllpbaaGreatDoorMg33
import Derived.Deep.LoopGhost
import Derived.Deep.CutBlock
import Derived.Deep.DeepCutAuto
set_option maxRecDepth 100000
namespace Go.Proofs.YtnmgkkjnjllpbaaGreatDoor
open Go.ChangeShapes Go.WideShapes Go.ChangeAt Go.RowKit Pn Dk Sl Ly Tw

namespace storeApart
open StAp
/-- Both slots' texts, a law's own: two rows of five. -/
def ten (g : Nat → Value) : Array Value := #[g 0, g 1, g 2, g 3, g 4, g 5, g 6, g 7, g 8, g 9]
theorem ten_get (g : Nat → Value) {c : Nat} (h : c < 10) : (ten g)[c]? = some (g c) := by
  rcases (show c = 0 ∨ c = 1 ∨ c = 2 ∨ c = 3 ∨ c = 4 ∨ c = 5 ∨ c = 6 ∨ c = 7 ∨ c = 8 ∨ c = 9 by omega) with rfl | rfl | rfl | rfl | rfl | rfl | rfl | rfl | rfl | rfl <;> rfl
def hvO (f : Nat → Nat → ByteArray) : Obj := .cells (ten fun c => .string (f (c / 5) (c % 5))) 52 (0, 0)
theorem hv_cell {W : World} {b : Nat} {f : Nat → Nat → ByteArray} (h : W.heap[b]? = some (hvO f)) {k a : Nat} (hk : k < 2) (ha : a < 5) : W.cell? ⟨b, k * 5 + a, none⟩ = some (.string (f k a)) := by
  rw [cell_of_row W b (k * 5 + a) _ _ _ h, ten_get _ (by omega), show (k * 5 + a) / 5 = k by omega, show (k * 5 + a) % 5 = a by omega]
theorem hv_fz {W : World} {b : Nat} {f : Nat → Nat → ByteArray} (h : W.heap[b]? = some (hvO f)) (i : Nat) : W.frozen? ⟨b, i, none⟩ = false := frozen_of_row W b i _ _ h
theorem hv_set {W : World} {b : Nat} {f g : Nat → Nat → ByteArray} {k a : Nat} {s : ByteArray} (h : W.heap[b]? = some (hvO f)) (hk : k < 2) (ha : a < 5) (hg : ∀ k' a', g k' a' = if k = k' ∧ a = a' then s else f k' a') : (W.setCell ⟨b, k * 5 + a, none⟩ (.string s)).heap[b]? = some (hvO g) := by
  have h1 := heap_setCell_same W b (k * 5 + a) _ _ (.string s) h
  rw [h1]
  unfold hvO ten
  rcases (show k = 0 ∨ k = 1 by omega) with rfl | rfl <;> rcases (show a = 0 ∨ a = 1 ∨ a = 2 ∨ a = 3 ∨ a = 4 by omega) with rfl | rfl | rfl | rfl | rfl <;> simp [hg]
/-- Ahead of the deed i. -/
structure Deed (w0 wr : World) (D : Nat) (b : Bl) (T hb : Nat) (x : Dk.St) (n i : Nat) (s : ByteArray) (g side : Nat) (hv : Nat → Nat → ByteArray) : Prop where
  st : Ly.Stands w0 wr D x [(hb, hvO hv)] b T 6 20 n s g side
  on : x.away = false
  fz : x.fuse = none
  len : x.n = 11 + 4 * n
  few : x.loose.length ≤ 2 * i
  done : x.done ≤ 100 + 10 * i
  full : x.Full
  gen : g ≤ i + 1
  lies : LiesS x n (superB 6 20 n) s g side hv
  newH : w0.heap.size ≤ hb
  neH : ∀ z ∈ (T, tobj b.Zr s g side false) :: b.list D T 6 20 n, z.1 ≠ hb
theorem ok {n : Nat} (h1 : 1 ≤ n) (h5 : n ≤ 5) : LyOk 6 20 n := ⟨by decide, by decide, by decide, by decide, by decide, h1, by omega⟩
theorem need (n : Nat) : needN 6 20 n = 8 + 4 * n := by unfold needN fromN; rw [sz20]; omega
theorem supz (n : Nat) : szN (superB 6 20 n).size = 2 := by rw [superB_size]; rfl
theorem sups (n : Nat) : (superB 6 20 n).size ≤ 1024 := by rw [superB_size]; decide
section
variable {w0 wr : World} {D : Nat} {b : Bl} {T hb : Nat} {x : Dk.St} {n i : Nat} {s : ByteArray} {g side : Nat} {hv : Nat → Nat → ByteArray} (h : Deed w0 wr D b T hb x n i s g side hv)
include h
theorem Deed.hvb : wr.heap[hb]? = some (hvO hv) := h.st.zn.fix (hb, hvO hv) (by simp)
theorem Deed.step {w' : World} (hw : Below wr.heap.size wr w') : Deed w0 w' D b T hb x n i s g side hv := ⟨h.st.step hw, h.on, h.fz, h.len, h.few, h.done, h.full, h.gen, h.lies, h.newH, h.neH⟩
/-- Behind the sync. -/
structure Kept (w0 wr : World) (D : Nat) (b : Bl) (T hb : Nat) (y : Dk.St) (n : Nat) (s : ByteArray) (g side : Nat) (hv : Nat → Nat → ByteArray) : Prop where
  zn : Zn w0 wr D y ((T, tobj b.Zr s g side false) :: b.list D T 6 20 n ++ [(hb, hvO hv)])
  len : y.n = 11 + 4 * n
  lies : ∀ z : Dk.St, (∀ q, q < 8 + 4 * n → ∀ j, j < 32 → sect z.now q j = sect y.safe q j) → LiesS z n (superB 6 20 n) s g side hv
theorem Deed.sync (hi : i ≤ 20) : Calls Tryz.prog 24 #[.pointer (some ⟨D, 0, none⟩)] wr fun e w' => e = .returned (.int .i64 0) ∧ ∃ y, Kept w0 w' D b T hb y n s g side hv := by
  have h1 := h.few
  have h2 := h.done
  refine (h.st.zn.sync h.on h.fz (by omega) (by omega)).mono ?_
  rintro e w' ⟨rfl, hz⟩
  have hs : x.burnt.synced.safe = x.now := (full_synced (x := x.burnt) h.full).2
  exact ⟨rfl, _, hz, h.len, fun z e => h.lies.congr fun q hq j hj => by rw [e q hq j hj, hs]⟩
omit h in
theorem Kept.step {w' : World} {y : Dk.St} (h : Kept w0 wr D b T hb y n s g side hv) (hw : Below wr.heap.size wr w') : Kept w0 w' D b T hb y n s g side hv := ⟨h.zn.step hw, h.len, h.lies⟩
omit h in
theorem Kept.hvb {y : Dk.St} (h : Kept w0 wr D b T hb y n s g side hv) : wr.heap[hb]? = some (hvO hv) := h.zn.fix (hb, hvO hv) (by simp)
omit h in
theorem Kept.copy {y : Dk.St} (h : Kept w0 wr D b T hb y n s g side hv) : LiesS (copyOf (11 + 4 * n) y.safe) n (superB 6 20 n) s g side hv ∧ (copyOf (11 + 4 * n) y.safe).away = false ∧ (copyOf (11 + 4 * n) y.safe).n = 11 + 4 * n :=
  ⟨h.lies _ fun q hq j hj => copy_sect (by omega) j hj, rfl, rfl⟩
theorem Deed.save (hT : Tabs w0) (hi : i < 20) (u : ByteArray) (hu : u.size ≤ 20) :
    Calls Tryz.prog 21 #[.pointer (some ⟨T, 0, none⟩), .string u] wr fun e w' => e = .returned (.int .i64 0) ∧ ∃ y, Deed w0 w' D b T hb y n (i + 1) u (g + 1) (1 - side) hv := by
  have h1 := h.few
  have h2 := h.done
  have h3 := h.gen
  have hz := sz_two hu
  refine (h.st.save hT h.on h.fz (by omega) (by omega) (by rw [h.len]; omega) (by decide) h.lies.rec_.sd u (by omega) (by omega) (by omega)).mono ?_
  rintro e w' ⟨rfl, hs⟩
  refine ⟨rfl, _, hs, (placed_away _ _ _ _).trans ((cleared_away _ _ _).trans h.on), placed_fuse _ _ _ _ (cleared_fuse h.fz _ _), (placed_n _ _ _ _).trans ((cleared_n _ _ _).trans h.len), Nat.zero_le _, ?_, saved_full h.full _ _ _ _, by omega, h.lies.saved u hu (by omega), h.newH, fun z hz => ?_⟩
  · rw [placed_done]
    have := cleared_done x (Zn.other 2 6 side) (6 / 2)
    omega
  · rcases List.mem_cons.1 hz with rfl | hz
    · exact h.neH (T, tobj b.Zr s g side false) (List.mem_cons_self ..)
    · exact h.neH z (List.mem_cons_of_mem _ hz)
omit h in
/-- A slot's block, and its zone's. -/
theorem slot_in (fs : List (Nat × Obj)) (k : Nat) (hk : k < 2) : ∃ S Z, (if k = 0 then some (⟨b.S0, 0, none⟩ : Addr) else some ⟨b.S1, 0, none⟩) = some ⟨S, 0, none⟩ ∧ (S, slobj Z 20 n) ∈ (T, tobj b.Zr s g side false) :: b.list D T 6 20 n ++ fs ∧ (Z, zobj D (slotF n k) (n * szN 20)) ∈ (T, tobj b.Zr s g side false) :: b.list D T 6 20 n ++ fs := by
  rcases (show k = 0 ∨ k = 1 by omega) with rfl | rfl
  · exact ⟨b.S0, b.Z0, rfl, by simp [Bl.list], by simp [Bl.list, slotF]⟩
  · exact ⟨b.S1, b.Z1, rfl, by simp [Bl.list], by simp [Bl.list, slotF]⟩
omit h in
theorem Deed.slot (k : Nat) (hk : k < 2) : ∃ S Z, (if k = 0 then some (⟨b.S0, 0, none⟩ : Addr) else some ⟨b.S1, 0, none⟩) = some ⟨S, 0, none⟩ ∧ (S, slobj Z 20 n) ∈ (T, tobj b.Zr s g side false) :: b.list D T 6 20 n ++ [(hb, hvO hv)] ∧ (Z, zobj D (slotF n k) (n * szN 20)) ∈ (T, tobj b.Zr s g side false) :: b.list D T 6 20 n ++ [(hb, hvO hv)] := by
  rcases (show k = 0 ∨ k = 1 by omega) with rfl | rfl
  · exact ⟨b.S0, b.Z0, rfl, by simp [Bl.list], by simp [Bl.list, slotF]⟩
  · exact ⟨b.S1, b.Z1, rfl, by simp [Bl.list], by simp [Bl.list, slotF]⟩
theorem Deed.put (hT : Tabs w0) (hi : i < 20) (u : ByteArray) (h1 : 1 ≤ u.size) (hu : u.size ≤ 20) (k : Nat) (hk : k < 2) {S Z : Nat} (hS : (S, slobj Z 20 n) ∈ (T, tobj b.Zr s g side false) :: b.list D T 6 20 n ++ [(hb, hvO hv)]) (hZ : (Z, zobj D (slotF n k) (n * szN 20)) ∈ (T, tobj b.Zr s g side false) :: b.list D T 6 20 n ++ [(hb, hvO hv)]) (a : Nat) (ha : a < n) (hn5 : n ≤ 5) :
    Calls Tryz.prog 23 #[.pointer (some ⟨S, 0, none⟩), .int .i64 (a : Int), .int .i64 7, .string u] wr fun e w' => e = .returned (.int .i64 0) ∧ ∃ y, Deed w0 (w'.setCell ⟨hb, k * 5 + a, none⟩ (.string u)) D b T hb y n (i + 1) s g side (fun k' a' => if k = k' ∧ a = a' then u else hv k' a') ∧ w'.heap[hb]? = some (hvO hv) ∧ w'.heap[b.B]? = some (stobj T 6 20 n (some ⟨b.S0, 0, none⟩) (some ⟨b.S1, 0, none⟩)) := by
  have h2 := h.few
  have h3 := h.done
  have h4 := h.gen
  have hz := sz_two hu
  have hf : slotF n k + n * szN 20 ≤ x.n := by
    rw [h.len, sz20, slotF_eq]
    rcases (show k = 0 ∨ k = 1 by omega) with rfl | rfl <;> omega
  refine (h.st.zn.sput (S := S) (Z := Z) (k := 20) (c := n) (f := slotF n k) (nz := n * szN 20) hS hZ hT h.on hf (by decide) (by decide) (Nat.le_refl _) h.fz (by omega) (by omega) 7 u (by decide) (by decide) hu a ha).mono ?_
  rintro e w' ⟨rfl, hs⟩
  have hhb := hs.fix (hb, hvO hv) (by simp)
  have hsr : Zn w0 w' D (x.laid (slotF n k + a * szN 20) (secF 7 (sealL u)) (szN u.size)) ((hb, hvO hv) :: (T, tobj b.Zr s g side false) :: b.list D T 6 20 n) := hs.less fun z hz => by
    simp only [List.mem_cons, List.mem_append, List.not_mem_nil, or_false] at hz ⊢
    rcases hz with hz | hz | hz <;> simp [hz]
  have ht := hsr.turn (w' := w'.setCell ⟨hb, k * 5 + a, none⟩ (.string u)) (o' := hvO fun k' a' => if k = k' ∧ a = a' then u else hv k' a') h.newH h.neH (hv_set hhb hk (by omega) fun k' a' => rfl) (fun i hi => heap_setCell_other w' ⟨hb, k * 5 + a, none⟩ i _ hi) ⟨rfl, rfl, rfl⟩ (by simp [World.setCell])
  refine ⟨rfl, _, ⟨⟨ht.less fun z hz => ?_, h.st.new, fun z hz => ?_⟩, (laid_away _ _ _ _).trans h.on, laid_fuse _ _ _ h.fz _, (laid_n _ _ _ _).trans h.len, by rw [laid_len, hz]; omega, by rw [laid_done, hz]; omega, laid_full _ _ _ h.full _, by omega, h.lies.put u h1 hu hk ha, h.newH, h.neH⟩, hhb, hs.fix (b.B, _) (List.mem_cons_of_mem _ (List.mem_cons_self ..))⟩
  · simp only [List.mem_cons, List.mem_append, List.not_mem_nil, or_false] at hz ⊢
    rcases hz with (hz | hz) | hz <;> simp [hz]
  · simp only [List.mem_append, List.mem_cons, List.not_mem_nil, or_false] at hz
    rcases hz with hz | rfl
    · exact h.st.ne z (by simp [hz])
    · exact h.st.ne (hb, hvO hv) (by simp)
end
theorem copy_size (n : Nat) (h : n ≤ 5) {f : Nat → UInt8} : 11 + 4 * n = min ((imgS (11 + 4 * n) f).size / 32) 4096 := by rw [imgS_size, Nat.mul_div_cancel _ (by decide)]; omega
theorem copy_few (n : Nat) (h : n ≤ 5) (f : Nat → UInt8) : (imgS (11 + 4 * n) f).size ≤ 1099511627776 := by rw [imgS_size]; omega
theorem gen_le {i g : Nat} (h : i ≤ 20) (hg : g ≤ i + 1) : g ≤ 2147483647 := by omega
theorem small_k (k : Nat) (h : k < 2) : (k : Int) < 2 ∧ decide ((k : Int) < 2) = true ∧ 0 ≤ (k : Int) ∧ wrap64 ((k : Int) + 1) = (k : Int) + 1 ∧ IntKind.i64.wrap ((k : Int) + 1) = (k : Int) + 1 :=
  ⟨by omega, decide_eq_true (by omega), by omega, IntWalk.wrap64_in _ (by omega), IntWalk.i64_in _ (by omega)⟩
theorem two_of {k : Nat} (h1 : k ≤ 2) (h2 : ¬ k < 2) : k = 2 := by omega
theorem small_a (a n : Nat) (h : a < n) (h5 : n ≤ 5) : (a : Int) < (n : Int) ∧ decide ((a : Int) < (n : Int)) = true ∧ 0 ≤ (a : Int) ∧ wrap64 ((a : Int) + 1) = (a : Int) + 1 ∧ IntKind.i64.wrap ((a : Int) + 1) = (a : Int) + 1 ∧ a < 5 ∧ (a : Int) < 5 :=
  ⟨by omega, decide_eq_true (by omega), by omega, IntWalk.wrap64_in _ (by omega), IntWalk.i64_in _ (by omega), by omega, by omega⟩
theorem eq_of {a n : Nat} (h1 : a ≤ n) (h2 : ¬ a < n) : a = n := by omega
theorem meas7 {a gk : Nat} (h : gk = 7 - a) (ha : a < 5) : 7 - (a + 1) < gk := by omega
theorem meas3 {a gk : Nat} (h : gk = 3 - a) (ha : a < 2) : 3 - (a + 1) < gk := by omega
theorem slot_room (n k : Nat) (hk : k < 2) : slotF n k + n * szN 20 ≤ 11 + 4 * n := by
  rw [slotF_eq, sz20]
  rcases (show k = 0 ∨ k = 1 by omega) with rfl | rfl <;> omega
theorem text_ne {u : ByteArray} (h : u ≠ noT) : u.toList.isEmpty = false ∧ (u.toList != []) = true ∧ (u.toList == []) = false := by
  have hne : u.toList ≠ [] := fun e => h (by
    rw [ByteArray.toList_eq] at e
    apply ByteArray.ext
    exact Array.toList_inj.1 e)
  refine ⟨by simpa using hne, bne_iff_ne.2 hne, beq_eq_false_iff_ne.2 hne⟩
theorem inc (i : Nat) (h : i ≤ 20) : wrap64 ((i : Int) + 1) = (i : Int) + 1 ∧ IntKind.i64.wrap ((i : Int) + 1) = (i : Int) + 1 := ⟨IntWalk.wrap64_in _ (by omega), IntWalk.i64_in _ (by omega)⟩
theorem meas {i gk : Nat} (h : gk = 21 - i) (hi : i < 20) : 21 - (i + 1) < gk := by omega
theorem thirds (i : Nat) (h : ¬ i % 3 = 2) : i % 3 < 2 ∧ (((i % 3 : Nat) : Int) == 2) = false := ⟨by omega, beq_eq_false_iff_ne.2 (by omega)⟩
theorem places (i n : Nat) (hi : i < 20) (h1 : 1 ≤ n) (h5 : n ≤ 5) : i * 5 % n < n ∧ (i : Int) * 5 = ((i * 5 : Nat) : Int) ∧ wrap64 ((i * 5 : Nat) : Int) = ((i * 5 : Nat) : Int) ∧ ((i * 5 : Nat) : Int).tmod (n : Int) = ((i * 5 % n : Nat) : Int) ∧ wrap64 ((i * 5 % n : Nat) : Int) = ((i * 5 % n : Nat) : Int) ∧
    ((n : Int) == 0) = false ∧ IntKind.i64.wrap ((i * 5 % n : Nat) : Int) = ((i * 5 % n : Nat) : Int) ∧ IntKind.i64.wrap ((i * 5 : Nat) : Int) = ((i * 5 : Nat) : Int) := by
  have hlt : i * 5 % n < n := Nat.mod_lt _ (by omega)
  refine ⟨hlt, by omega, IntWalk.wrap64_in _ (by omega), by rw [Int.tmod_eq_emod_of_nonneg (by omega), Int.natCast_emod], IntWalk.wrap64_in _ (by omega), beq_eq_false_iff_ne.2 (by omega), IntWalk.i64_in _ (by omega), IntWalk.i64_in _ (by omega)⟩
theorem u64_five (x : Int) : ∃ i : Nat, i < 5 ∧ (IntKind.u64.wrap x).tmod 5 = (i : Int) := by
  have h0 : 0 ≤ IntKind.u64.wrap x := by
    simp [IntKind.wrap, IntKind.bits, IntKind.signed]
    omega
  rw [Int.tmod_eq_emod_of_nonneg h0]
  exact ⟨(IntKind.u64.wrap x % 5).toNat, by omega, by omega⟩
/-- Behind the format, ahead of the first deed. -/
theorem begins {w0 w : World} {D : Nat} {b : Bl} {T n : Nat} (h : Ly.Stands w0 w D ((freshSt (11 + 4 * n) fun _ => 0).fmt (8 + 4 * n) 6 noT (superB 6 20 n)) [] b T 6 20 n noT 1 0) (h5 : n ≤ 5) :
    Deed w0 (w.alloc (hvO fun _ _ => noT)) D b T w.heap.size ((freshSt (11 + 4 * n) fun _ => 0).fmt (8 + 4 * n) 6 noT (superB 6 20 n)) n 0 noT 1 0 (fun _ _ => noT) := by
  have hz := supz n
  have h1 := h.zn.add ((Below.refl w.heap.size w).alloc (Nat.le_refl _) (hvO fun _ _ => noT)) (Nat.le_refl _) (heap_alloc_new w _)
  refine ⟨⟨h1.less fun z hz => ?_, h.new, fun z hz => ?_⟩, fmt_away _ _ _ _ _, fmt_fuse _ _ _ _ _ rfl, fmt_n _ _ _ _ _, Nat.zero_le _, ?_, fmt_full (x := freshSt (11 + 4 * n) fun _ => 0) rfl _ _ _ _, Nat.le_refl _, LiesS.fmt (freshSt (11 + 4 * n) fun _ => 0) rfl n _ hz, h.zn.below.size, fun z hz => ?_⟩
  · simp only [List.mem_cons, List.mem_append, List.not_mem_nil, or_false] at hz ⊢
    rcases hz with (hz | hz) | hz <;> simp [hz]
  · simp only [List.mem_append, List.mem_cons, List.not_mem_nil, or_false] at hz
    rcases hz with hz | rfl
    · exact h.ne z (by simp [hz])
    · have := (Array.getElem?_eq_some_iff.1 h.stT).1
      show w.heap.size ≠ T
      omega
  · have hd := fmt_done (freshSt (11 + 4 * n) fun _ => 0) (8 + 4 * n) 6 noT (superB 6 20 n)
    have h2 : szN noT.size = 2 := rfl
    have h3 : (freshSt (11 + 4 * n) fun _ => 0).done = 0 := rfl
    omega
  · have := (Array.getElem?_eq_some_iff.1 (h.zn.fix z (by simpa using hz))).1
    omega
set_option maxRecDepth 100000 in
set_option maxHeartbeats 6400000 in
theorem walk (w : World) (A : Option Addr) (len cap : Nat) (L : Nat → ByteArray) (sy : Int) (hlc : len ≤ cap) (hcm : cap ≤ maxLen)
    (hX : 0 < len → ∃ pb po, A = some ⟨pb, po, none⟩ ∧ ∀ k, k < len → w.cell? ⟨pb, po + k, none⟩ = some (.string (L k))) (hT : Tabs w) :
    Calls Tryz.prog 4 #[.slice A len cap, .int .i64 sy] w fun e w' => e = .returned (.bool true) ∧ Below w.heap.size w w' := by
  have HAW := Lib.hid (awake10 w hT)
  unfold maxLen at hcm
  have bl : (len : Int) ≤ 9223372036854775807 := by omega
  obtain ⟨m5, hm5, hx⟩ := u64_five sy
  obtain ⟨n, hn⟩ : ∃ n, n = 1 + m5 := ⟨_, rfl⟩
  have HT := Lib.hid hT
  have HX := Lib.hid hX
  have HN := Lib.hid (show 1 ≤ n ∧ n ≤ 5 by omega)
  have p0 : 0 ≤ (m5 : Int) := by omega
  have p1 : (m5 : Int) < 5 := by omega
  have p2 : 1 + (m5 : Int) = (n : Int) := by omega
  have p3 : wrap64 (n : Int) = (n : Int) := IntWalk.wrap64_in _ (by omega)
  have p4 : IntKind.i64.wrap (n : Int) = (n : Int) := IntWalk.i64_in _ (by omega)
  have HND := Lib.hid (fun W => show Calls Tryz.prog 12 #[.agg #[.int .i64 6, .int .i64 20, .int .i64 (n : Int)]] W fun e w' => e = .returned (.int .i64 ((8 + 4 * n : Nat) : Int)) ∧ Below W.heap.size W w' from by
    have hq := store_need W 6 20 n (ok (by omega) (by omega))
    rw [need] at hq
    exact hq)
  have q1 : ((8 + 4 * n : Nat) : Int) + 3 = ((11 + 4 * n : Nat) : Int) := by omega
  have q2 : wrap64 ((11 + 4 * n : Nat) : Int) = ((11 + 4 * n : Nat) : Int) := IntWalk.wrap64_in _ (by omega)
  have q3 : IntKind.i64.wrap ((11 + 4 * n : Nat) : Int) = ((11 + 4 * n : Nat) : Int) := IntWalk.i64_in _ (by omega)
  have HNW := Lib.hid (show ((11 + 4 * n : Nat) : Int) = min (max ((11 + 4 * n : Nat) : Int) 0) 4096 by omega)
  clear hT hX hlc hcm hm5 hn
  generalize ((8 + 4 * n : Nat) : Int) = nd at HND q1
  generalize hN11 : ((11 + 4 * n : Nat) : Int) = n11 at q1 q2 q3 HNW
  have HN11 := Lib.hid hN11
  clear hN11
  go_enter Tryz.func4, Tryz.ntmps4
  go_wp2_with (fail)
  refine HAW.out.mono ?_
  rintro e w1 ⟨rfl, b1⟩
  have B1 := Lib.hid b1
  have HB2 := Lib.hid (b1.alloc b1.size (.cells #[.int .i64 6, .int .i64 20, .int .i64 (n : Int)] 23))
  have HL := Lib.hid (show (w1.alloc (.cells #[.int .i64 6, .int .i64 20, .int .i64 (n : Int)] 23)).heap[w1.heap.size]? = some (lyO 6 20 n) from heap_alloc_new w1 _)
  clear b1 HAW
  go_wp2_with (fail)
  refine (HND.out _).mono ?_
  rintro e w2 ⟨rfl, b2⟩
  have HB3 := Lib.hid (HB2.out.trans (b2.mono HB2.out.size))
  have HL3 := Lib.hid ((b2.block w1.heap.size (by simp)).trans HL.out)
  have HT3 := Lib.hid (HT.out.below HB3.out)
  clear b2 HB2 HL HND
  go_wp2_with (fail)
  refine (at_new w2 w2 (Below.refl _ _) n11 (11 + 4 * n) (by have := HNW.out; have := HN11.out; omega)).mono ?_
  rintro e w3 ⟨D, rfl, h3⟩
  have H3 := Lib.hid (show Zn w2 w3 D (freshSt (11 + 4 * n) fun _ => 0) [] from Zn.of_at h3)
  have HC := Lib.hid (fun (W : World) (hW : Below w2.heap.size w2 W) => show W.heap[w1.heap.size]? = some (lyO 6 20 n) from (hW.block w1.heap.size (Array.getElem?_eq_some_iff.1 HL3.out).1).trans HL3.out)
  have d0 := ly0 (HC.out w3 h3.below)
  have d1 := ly1 (HC.out w3 h3.below)
  have d2 := ly2 (HC.out w3 h3.below)
  clear h3
  go_wp2_with (fail)
  have hF := H3.out.sformat HT3.out rfl (St.Fz.of_none rfl) (Nat.zero_le _) (show 0 < 4611686018427000000 by decide) (ok HN.out.1 HN.out.2) (show needN 6 20 n ≤ 11 + 4 * n by rw [need]; omega) noT (by decide) (by decide)
  rw [need] at hF
  have hfx : (freshSt (11 + 4 * n) fun _ => 0).fuse = none := rfl
  refine hF.mono ?_
  clear hF d0 d1 d2 H3
  rintro e w4 (h4 | ⟨_, y, hy, _⟩)
  case inr => exact absurd hfx (FmtFell.fuse _ _ _ _ _ hy)
  obtain ⟨b, T, rfl, h4⟩ := h4
  have H4 := Lib.hid (begins h4 HN.out.2)
  clear h4 hfx
  obtain ⟨x, hx0⟩ : ∃ x, x = (freshSt (11 + 4 * n) fun _ => 0).fmt (8 + 4 * n) 6 noT (superB 6 20 n) := ⟨_, rfl⟩
  rw [← hx0] at H4
  clear hx0
  go_wp2_with (fail)
  refine gen_world (fun W => Deed w2 W D b T w4.heap.size x n 0 noT 1 0 fun _ _ => noT) H4.out ?_
  intro w5 h5
  have H5 := Lib.hid h5
  clear h5 H4
  generalize w4.heap.size = hb at H5 ⊢
  go_loopg [10, 12] 21 (fun gk vr vi wr => ∃ (i : Nat) (x : Dk.St) (s : ByteArray) (g side : Nat) (hv : Nat → Nat → ByteArray), gk = 21 - i ∧ i ≤ 20 ∧ vi = .int .i64 (i : Int) ∧ vr = .string s ∧ Deed w2 wr D b T hb x n i s g side hv)
  case atStart => exact ⟨0, x, noT, 1, 0, _, rfl, Nat.zero_le _, rfl, rfl, H5.out⟩
  case round =>
    clear H5 x
    obtain ⟨i, x, s, g, side, hv, hgk, hi20, rfl, rfl, hdd⟩ := hrel
    have HD := Lib.hid hdd
    have HGK := Lib.hid hgk
    clear hdd hgk
    have y2 : 0 ≤ (i : Int) := by omega
    by_cases h1 : i < len
    · have y0 : (i : Int) < (len : Int) := by omega
      have y1 : decide ((i : Int) < (len : Int)) = true := decide_eq_true y0
      by_cases h2 : i < 20
      · have y3 : (i : Int) < 20 := by omega
        have y4 : decide ((i : Int) < 20) = true := decide_eq_true y3
        obtain ⟨pb, po, rfl, hc⟩ := HX.out (by omega)
        have hci := hc i h1
        have cs := (World.cell?_of_block (w := w) (a := ⟨pb, po + i, none⟩) ((HB3.out.trans (HD.out.st.zn.below.mono HB3.out.size)).block pb (block_lt_of_cell hci))).trans hci
        clear hc
        generalize L i = u at hci cs
        by_cases h20 : 20 < u.size
        · have z0 : (20 : Int) < (u.size : Int) := by omega
          have z1 : decide ((20 : Int) < (u.size : Int)) = true := decide_eq_true z0
          go_wp2_with (fail)
          refine bodyPost_ret (results_tmp rfl _ _ _) rfl ?_
          exact ⟨rfl, HB3.out.trans (HD.out.st.zn.below.mono HB3.out.size)⟩
        have z0 : ¬ (20 : Int) < (u.size : Int) := by omega
        have z1 : decide ((20 : Int) < (u.size : Int)) = false := decide_eq_false z0
        by_cases h00 : u.size = 0
        · have z2 : ((u.size : Int) == 0) = true := beq_iff_eq.2 (by omega)
          go_wp2_with (fail)
          refine bodyPost_ret (results_tmp rfl _ _ _) rfl ?_
          exact ⟨rfl, HB3.out.trans (HD.out.st.zn.below.mono HB3.out.size)⟩
        have z2 : ((u.size : Int) == 0) = false := beq_eq_false_iff_ne.2 (by omega)
        have hu1 : 1 ≤ u.size := by omega
        have hu20 : u.size ≤ 20 := by omega
        have k1 : (i : Int).tmod 3 = ((i % 3 : Nat) : Int) := by rw [Int.tmod_eq_emod_of_nonneg (by omega)]; omega
        have k2 : IntKind.i64.wrap ((i % 3 : Nat) : Int) = ((i % 3 : Nat) : Int) := IntWalk.i64_in _ (by omega)
        have k3 : wrap64 ((i % 3 : Nat) : Int) = ((i % 3 : Nat) : Int) := IntWalk.wrap64_in _ (by omega)
        have c0 := st_c0 HD.out.st.stB
        by_cases hk : i % 3 = 2
        · have k4 : (((i % 3 : Nat) : Int) == 2) = true := by rw [hk]; rfl
          have HSV := Lib.hid (HD.out.save HT3.out h2 u hu20)
          generalize ((i % 3 : Nat) : Int) = ki at k1 k2 k3 k4
          clear hk
          go_wp2_with (fail)
          refine HSV.out.mono ?_
          rintro e w6 ⟨rfl, y, h6⟩
          have H6 := Lib.hid h6
          have c1 := st_c0 h6.st.stB
          have HTX := Lib.hid (twin_text w6 T b.Zr (g + 1) (1 - side) u false h6.st.stT)
          have sa : (u.toList != u.toList) = false := bne_self_eq_false _
          obtain ⟨s3, s4⟩ := inc i hi20
          clear h6 HSV HD c0 cs
          go_wp2_with (fail)
          refine HTX.out.mono ?_
          rintro e w7 ⟨rfl, rfl⟩
          go_wp2_with (fail)
          go_roundg (21 - (i + 1))
          case measure => exact meas HGK.out h2
          case rel => exact ⟨i + 1, y, u, g + 1, 1 - side, hv, rfl, h2, rfl, rfl, H6.out⟩
        · have hn5 := HN.out.2
          obtain ⟨hlt, a1, a2, a3, a4, a5, a6, a7⟩ := places i n h2 HN.out.1 HN.out.2
          obtain ⟨kl1, k4⟩ := thirds i hk
          obtain ⟨S, Z, hS0, hS, hZ⟩ := Deed.slot (D := D) (b := b) (T := T) (hb := hb) (n := n) (s := s) (g := g) (side := side) (hv := hv) (i % 3) kl1
          have hSL := store_slot wr b.B T 6 20 n _ _ HD.out.st.stB (i % 3) kl1
          rw [hS0] at hSL
          have HSL := Lib.hid hSL
          have HPU := Lib.hid (HD.out.put HT3.out h2 u hu1 hu20 (i % 3) kl1 hS hZ (i * 5 % n) hlt hn5)
          have ha5 : i * 5 % n < 5 := Nat.lt_of_lt_of_le hlt hn5
          clear hS0 hSL hS hZ hk
          generalize i * 5 % n = a at a3 a4 a6 HPU hlt ha5
          generalize ((i * 5 : Nat) : Int) = i5 at a1 a2 a3 a7
          generalize i % 3 = k at k1 k2 k3 k4 HSL HPU kl1
          have k5 : 0 ≤ (k : Int) := Int.natCast_nonneg k
          have k6 : (k : Int) < 2 := Int.ofNat_lt.2 kl1
          have a8 : 0 ≤ (a : Int) := Int.natCast_nonneg a
          have a9 : (a : Int) < 5 := Int.ofNat_lt.2 ha5
          obtain ⟨s3, s4⟩ := inc i hi20
          go_wp2_with (fail)
          refine HSL.out.mono ?_
          rintro e w6 ⟨rfl, rfl⟩
          go_wp2_with (fail)
          refine HPU.out.mono ?_
          rintro e w6 ⟨rfl, y, h6, hb6, hB6⟩
          have H6 := Lib.hid h6
          have cc := hv_cell hb6 kl1 ha5
          have cf := hv_fz hb6 (k * 5 + a)
          have c1 := st_c0 h6.st.stB
          have HTX := Lib.hid (twin_text _ T b.Zr g side s false h6.st.stT)
          have sa : (s.toList != s.toList) = false := bne_self_eq_false _
          clear h6 hb6 hB6 HSL HPU HD c0 cs a1 a2 a3 a4 a5 a6 a7 k1 k2 k3 k4
          go_wp2_with (fail)
          refine HTX.out.mono ?_
          rintro e w7 ⟨rfl, rfl⟩
          go_wp2_with (fail)
          go_roundg (21 - (i + 1))
          case measure => exact meas HGK.out h2
          case rel => exact ⟨i + 1, y, s, g, side, _, rfl, h2, rfl, rfl, H6.out⟩
      · have y3 : ¬ (i : Int) < 20 := by omega
        have y4 : decide ((i : Int) < 20) = false := decide_eq_false y3
        have HG := Lib.hid HD.out.gen
        have c0 := st_c0 HD.out.st.stB
        have c1 := twin_c0 HD.out.st.stT
        have c2 := zone_c0 (HD.out.st.zn.fix (b.Zr, zobj D 2 6) (by simp [Bl.list]))
        have HSY := Lib.hid (HD.out.sync hi20)
        go_wp2_with (fail)
        refine HSY.out.mono ?_
        rintro e w6 ⟨rfl, y, h6⟩
        have H6 := Lib.hid h6
        clear h6 HSY HD c0 c1 c2 HX HGK
        go_wp2_with (fail)
        refine (disk_image _ w6 D y H6.out.zn.disk).mono ?_
        rintro e w7 ⟨rfl, b7⟩
        rw [H6.out.len]
        have H7 := Lib.hid (H6.out.step b7)
        clear b7 H6
        go_wp2_with (fail)
        refine (disk_Of (fun j => w7.heap.size ≤ j) w7 (imgS (11 + 4 * n) y.safe) (11 + 4 * n) (copy_size n HN.out.2) (copy_few n HN.out.2 y.safe) (fun _ h => h)).mono ?_
        rintro e w8 ⟨D2, rfl, _, h8, b8⟩
        have H8 := Lib.hid (show Zn w7 w8 D2 (copyOf (11 + 4 * n) y.safe) [] from Zn.of_at ⟨h8, b8⟩)
        have HLZ := Lib.hid H7.out.copy
        have HH := Lib.hid (fun (W : World) (hW : Below w7.heap.size w7 W) => show W.heap[hb]? = some (hvO hv) from (hW.block hb (Array.getElem?_eq_some_iff.1 H7.out.hvb).1).trans H7.out.hvb)
        have HC7 := Lib.hid (fun (W : World) (hW : Below w7.heap.size w7 W) => HC.out W (H7.out.zn.below.trans (hW.mono H7.out.zn.below.size)))
        have HB7 := Lib.hid (HB3.out.trans (H7.out.zn.below.mono HB3.out.size))
        have HT7 := Lib.hid (HT3.out.below H7.out.zn.below)
        clear h8 b8 H7 HC
        go_wp2_with (fail)
        generalize copyOf (11 + 4 * n) y.safe = z at H8 HLZ
        refine (H8.out.sopen HT7.out HLZ.out.2.1 (ok HN.out.1 HN.out.2) (by rw [need, HLZ.out.2.2]; exact Nat.add_le_add_right (by decide) _) (HLZ.out.1.super (supz n) (sups n)) (HLZ.out.1.rec_.opens (gen_le hi20 HG.out)) HLZ.out.1.rec_.one).mono ?_
        rintro e w9 ⟨b', T', rfl, h9⟩
        have H9 := Lib.hid h9
        clear h9 H8
        go_wp2_with (fail)
        have HE := run_eqIn_ly 6 20 (n : Int)
        unfold lyA at HE
        have sa : (s.toList != s.toList) = false := bne_self_eq_false _
        have HTX := Lib.hid (fun (W : World) (hW : Below w9.heap.size w9 W) => twin_text W T' b'.Zr g side s false (H9.out.step hW).stT)
        have HLY := Lib.hid (fun (W : World) (hW : Below w9.heap.size w9 W) => store_layout W b'.B T' 6 20 n _ _ (H9.out.step hW).stB)
        unfold lyV lyA at HLY
        have HK := Lib.hid (fun (W : World) (hW : Below w9.heap.size w9 W) => show W.cell? ⟨w1.heap.size, 0, none⟩ = some (.int .i64 6) ∧ W.cell? ⟨w1.heap.size, 1, none⟩ = some (.int .i64 20) ∧ W.cell? ⟨w1.heap.size, 2, none⟩ = some (.int .i64 (n : Int)) ∧ W.cell? ⟨b'.B, 0, none⟩ = some (.pointer (some ⟨T', 0, none⟩)) from by
          have hl := HC7.out W (H9.out.step hW).zn.below
          exact ⟨ly0 hl, ly1 hl, ly2 hl, st_c0 (H9.out.step hW).stB⟩)
        have B9 := Lib.hid (show Below w9.heap.size w9 w9.drew from below_drewN (Below.refl _ _) 1)
        have k0 := HK.out _ B9.out
        go_region_held3 (fun W : World => W.cell? ⟨w1.heap.size, 0, none⟩ = some (.int .i64 6) ∧ W.cell? ⟨w1.heap.size, 1, none⟩ = some (.int .i64 20) ∧ W.cell? ⟨w1.heap.size, 2, none⟩ = some (.int .i64 (n : Int)) ∧ W.cell? ⟨b'.B, 0, none⟩ = some (.pointer (some ⟨T', 0, none⟩))) (first | exact k0 | assumption) (first
          | (go_at_call 16; (with_reducible refine (HTX.out _ B9.out).mono ?_); rintro e wa ⟨rfl, rfl⟩)
          | (go_at_call 26; (with_reducible refine (HLY.out _ B9.out).mono ?_); rintro e wa ⟨rfl, ba⟩; have Ba := Lib.hid (B9.out.trans (ba.mono B9.out.size)); have hsa := HK.out _ Ba.out; clear ba))
        have HR := Lib.hid (H9.out.step Ba.out)
        clear k0 HK HTX HLY HE sa B9 H9 HC7
        go_wp2_with (fail)
        go_loopg [18] 3 (fun gk vk wr => ∃ kk : Nat, gk = 3 - kk ∧ kk ≤ 2 ∧ vk = .int .i64 (kk : Int) ∧ Ly.Stands w7 wr D2 z [] b' T' 6 20 n s g side)
        case atStart => exact ⟨0, rfl, Nat.zero_le _, rfl, HR.out⟩
        case round =>
          clear HR
          obtain ⟨kk, hgk, hkk2, rfl, hst⟩ := hrel
          have HS := Lib.hid hst
          have HGK := Lib.hid hgk
          clear hst hgk
          by_cases hk2 : kk < 2
          · obtain ⟨kx0, kx1, kx2, kx3, kx4⟩ := small_k kk hk2
            go_wp2_with (fail)
            go_loopg [19] 7 (fun gk2 va wr => ∃ a : Nat, gk2 = 7 - a ∧ a ≤ n ∧ va = .int .i64 (a : Int) ∧ Ly.Stands w7 wr D2 z [] b' T' 6 20 n s g side)
            case atStart => exact ⟨0, rfl, Nat.zero_le _, rfl, HS.out⟩
            case round =>
              clear HS
              obtain ⟨a, hgk2, han, rfl, hst⟩ := hrel
              have HS := Lib.hid hst
              have HGK2 := Lib.hid hgk2
              clear hst hgk2
              by_cases ha : a < n
              · obtain ⟨ax0, ax1, ax2, ax3, ax4, ax5, ax6⟩ := small_a a n ha HN.out.2
                obtain ⟨S, Z, hS0, hS, hZ⟩ := slot_in (D := D2) (b := b') (T := T') (n := n) (s := s) (g := g) (side := side) [] kk hk2
                have hSL := store_slot _ b'.B T' 6 20 n _ _ HS.out.stB kk hk2
                rw [hS0] at hSL
                have HSL := Lib.hid hSL
                have hGE := HS.out.zn.sget (S := S) (Z := Z) (k := 20) (c := n) (f := slotF n kk) (nz := n * szN 20) hS hZ HT7.out HLZ.out.2.1 (by rw [HLZ.out.2.2]; exact slot_room n kk hk2) (by decide) (by decide) (Nat.le_refl _) a ha
                rw [(HLZ.out.1.has kk a hk2 ha).got ha] at hGE
                have hhas := HLZ.out.1.has kk a hk2 ha
                have HHC := Lib.hid (fun (W : World) (hW : Zn w7 W D2 z ((T', tobj b'.Zr s g side false) :: b'.list D2 T' 6 20 n ++ [])) => hv_cell (HH.out W hW.below) hk2 ax5)
                have HNE := Lib.hid (And.intro HS.out.new HS.out.ne)
                clear hSL hS0 hS hZ HS
                by_cases he : hv kk a = noT
                · rw [if_pos he] at hGE
                  have HGE := Lib.hid hGE
                  rw [he] at HHC
                  have hnt : noT.toList = [] := by rw [ByteArray.toList_eq]; rfl
                  have sn : (noT.toList != noT.toList) = false := bne_self_eq_false _
                  clear hGE hhas he
                  go_wp2_with (fail)
                  refine HSL.out.mono ?_
                  rintro e wb ⟨rfl, rfl⟩
                  go_wp2_with (fail)
                  refine HGE.out.mono ?_
                  rintro e wb ⟨rfl, hb2⟩
                  have cc := HHC.out wb hb2
                  have HS := Lib.hid (show Ly.Stands w7 wb D2 z [] b' T' 6 20 n s g side from ⟨hb2, HNE.out.1, HNE.out.2⟩)
                  clear hb2 HGE HSL HHC
                  go_wp2_with (fail)
                  go_roundg (7 - (a + 1))
                  case measure => exact meas7 HGK2.out ax5
                  case rel => exact ⟨a + 1, rfl, ha, rfl, HS.out⟩
                · rw [if_neg he] at hGE
                  have HGE := Lib.hid hGE
                  obtain ⟨e0, e1, e2⟩ := text_ne he
                  have sn : ((hv kk a).toList != (hv kk a).toList) = false := bne_self_eq_false _
                  clear hGE hhas he
                  generalize hv kk a = u at HGE HHC e0 e1 e2 sn
                  go_wp2_with (fail)
                  refine HSL.out.mono ?_
                  rintro e wb ⟨rfl, rfl⟩
                  go_wp2_with (fail)
                  refine HGE.out.mono ?_
                  rintro e wb ⟨rfl, hb2⟩
                  have cc := HHC.out wb hb2
                  have HS := Lib.hid (show Ly.Stands w7 wb D2 z [] b' T' 6 20 n s g side from ⟨hb2, HNE.out.1, HNE.out.2⟩)
                  clear hb2 HGE HSL HHC
                  go_wp2_with (fail)
                  go_roundg (7 - (a + 1))
                  case measure => exact meas7 HGK2.out ax5
                  case rel => exact ⟨a + 1, rfl, ha, rfl, HS.out⟩
              · obtain rfl : a = n := eq_of han ha
                have x1 : decide ((a : Int) < (a : Int)) = false := decide_eq_false (Int.lt_irrefl _)
                have x2 : ¬ (a : Int) < (a : Int) := Int.lt_irrefl _
                clear ha
                go_wp2_with (fail)
                go_roundg (3 - (kk + 1))
                case measure => exact meas3 HGK.out hk2
                case rel => exact ⟨kk + 1, rfl, hk2, rfl, HS.out⟩
          · obtain rfl : kk = 2 := two_of hkk2 hk2
            have x1 : decide (((2 : Nat) : Int) < 2) = false := by decide
            clear hk2
            go_wp2_with (fail)
            refine bodyPost_ret (results_tmp rfl _ _ _) rfl ?_
            exact ⟨rfl, HB7.out.trans (HS.out.zn.below.mono HB7.out.size)⟩
    · have y0 : ¬ (i : Int) < (len : Int) := by omega
      have y1 : decide ((i : Int) < (len : Int)) = false := decide_eq_false y0
      have HG := Lib.hid HD.out.gen
      have c0 := st_c0 HD.out.st.stB
      have c1 := twin_c0 HD.out.st.stT
      have c2 := zone_c0 (HD.out.st.zn.fix (b.Zr, zobj D 2 6) (by simp [Bl.list]))
      have HSY := Lib.hid (HD.out.sync hi20)
      go_wp2_with (fail)
      refine HSY.out.mono ?_
      rintro e w6 ⟨rfl, y, h6⟩
      have H6 := Lib.hid h6
      clear h6 HSY HD c0 c1 c2 HX HGK
      go_wp2_with (fail)
      refine (disk_image _ w6 D y H6.out.zn.disk).mono ?_
      rintro e w7 ⟨rfl, b7⟩
      rw [H6.out.len]
      have H7 := Lib.hid (H6.out.step b7)
      clear b7 H6
      go_wp2_with (fail)
      refine (disk_Of (fun j => w7.heap.size ≤ j) w7 (imgS (11 + 4 * n) y.safe) (11 + 4 * n) (copy_size n HN.out.2) (copy_few n HN.out.2 y.safe) (fun _ h => h)).mono ?_
      rintro e w8 ⟨D2, rfl, _, h8, b8⟩
      have H8 := Lib.hid (show Zn w7 w8 D2 (copyOf (11 + 4 * n) y.safe) [] from Zn.of_at ⟨h8, b8⟩)
      have HLZ := Lib.hid H7.out.copy
      have HH := Lib.hid (fun (W : World) (hW : Below w7.heap.size w7 W) => show W.heap[hb]? = some (hvO hv) from (hW.block hb (Array.getElem?_eq_some_iff.1 H7.out.hvb).1).trans H7.out.hvb)
      have HC7 := Lib.hid (fun (W : World) (hW : Below w7.heap.size w7 W) => HC.out W (H7.out.zn.below.trans (hW.mono H7.out.zn.below.size)))
      have HB7 := Lib.hid (HB3.out.trans (H7.out.zn.below.mono HB3.out.size))
      have HT7 := Lib.hid (HT3.out.below H7.out.zn.below)
      clear h8 b8 H7 HC
      go_wp2_with (fail)
      generalize copyOf (11 + 4 * n) y.safe = z at H8 HLZ
      refine (H8.out.sopen HT7.out HLZ.out.2.1 (ok HN.out.1 HN.out.2) (by rw [need, HLZ.out.2.2]; exact Nat.add_le_add_right (by decide) _) (HLZ.out.1.super (supz n) (sups n)) (HLZ.out.1.rec_.opens (gen_le hi20 HG.out)) HLZ.out.1.rec_.one).mono ?_
      rintro e w9 ⟨b', T', rfl, h9⟩
      have H9 := Lib.hid h9
      clear h9 H8
      go_wp2_with (fail)
      have HE := run_eqIn_ly 6 20 (n : Int)
      unfold lyA at HE
      have sa : (s.toList != s.toList) = false := bne_self_eq_false _
      have HTX := Lib.hid (fun (W : World) (hW : Below w9.heap.size w9 W) => twin_text W T' b'.Zr g side s false (H9.out.step hW).stT)
      have HLY := Lib.hid (fun (W : World) (hW : Below w9.heap.size w9 W) => store_layout W b'.B T' 6 20 n _ _ (H9.out.step hW).stB)
      unfold lyV lyA at HLY
      have HK := Lib.hid (fun (W : World) (hW : Below w9.heap.size w9 W) => show W.cell? ⟨w1.heap.size, 0, none⟩ = some (.int .i64 6) ∧ W.cell? ⟨w1.heap.size, 1, none⟩ = some (.int .i64 20) ∧ W.cell? ⟨w1.heap.size, 2, none⟩ = some (.int .i64 (n : Int)) ∧ W.cell? ⟨b'.B, 0, none⟩ = some (.pointer (some ⟨T', 0, none⟩)) from by
        have hl := HC7.out W (H9.out.step hW).zn.below
        exact ⟨ly0 hl, ly1 hl, ly2 hl, st_c0 (H9.out.step hW).stB⟩)
      have B9 := Lib.hid (show Below w9.heap.size w9 w9.drew from below_drewN (Below.refl _ _) 1)
      have k0 := HK.out _ B9.out
      go_region_held3 (fun W : World => W.cell? ⟨w1.heap.size, 0, none⟩ = some (.int .i64 6) ∧ W.cell? ⟨w1.heap.size, 1, none⟩ = some (.int .i64 20) ∧ W.cell? ⟨w1.heap.size, 2, none⟩ = some (.int .i64 (n : Int)) ∧ W.cell? ⟨b'.B, 0, none⟩ = some (.pointer (some ⟨T', 0, none⟩))) (first | exact k0 | assumption) (first
        | (go_at_call 16; (with_reducible refine (HTX.out _ B9.out).mono ?_); rintro e wa ⟨rfl, rfl⟩)
        | (go_at_call 26; (with_reducible refine (HLY.out _ B9.out).mono ?_); rintro e wa ⟨rfl, ba⟩; have Ba := Lib.hid (B9.out.trans (ba.mono B9.out.size)); have hsa := HK.out _ Ba.out; clear ba))
      have HR := Lib.hid (H9.out.step Ba.out)
      clear k0 HK HTX HLY HE sa B9 H9 HC7
      go_wp2_with (fail)
      go_loopg [18] 3 (fun gk vk wr => ∃ kk : Nat, gk = 3 - kk ∧ kk ≤ 2 ∧ vk = .int .i64 (kk : Int) ∧ Ly.Stands w7 wr D2 z [] b' T' 6 20 n s g side)
      case atStart => exact ⟨0, rfl, Nat.zero_le _, rfl, HR.out⟩
      case round =>
        clear HR
        obtain ⟨kk, hgk, hkk2, rfl, hst⟩ := hrel
        have HS := Lib.hid hst
        have HGK := Lib.hid hgk
        clear hst hgk
        by_cases hk2 : kk < 2
        · obtain ⟨kx0, kx1, kx2, kx3, kx4⟩ := small_k kk hk2
          go_wp2_with (fail)
          go_loopg [19] 7 (fun gk2 va wr => ∃ a : Nat, gk2 = 7 - a ∧ a ≤ n ∧ va = .int .i64 (a : Int) ∧ Ly.Stands w7 wr D2 z [] b' T' 6 20 n s g side)
          case atStart => exact ⟨0, rfl, Nat.zero_le _, rfl, HS.out⟩
          case round =>
            clear HS
            obtain ⟨a, hgk2, han, rfl, hst⟩ := hrel
            have HS := Lib.hid hst
            have HGK2 := Lib.hid hgk2
            clear hst hgk2
            by_cases ha : a < n
            · obtain ⟨ax0, ax1, ax2, ax3, ax4, ax5, ax6⟩ := small_a a n ha HN.out.2
              obtain ⟨S, Z, hS0, hS, hZ⟩ := slot_in (D := D2) (b := b') (T := T') (n := n) (s := s) (g := g) (side := side) [] kk hk2
              have hSL := store_slot _ b'.B T' 6 20 n _ _ HS.out.stB kk hk2
              rw [hS0] at hSL
              have HSL := Lib.hid hSL
              have hGE := HS.out.zn.sget (S := S) (Z := Z) (k := 20) (c := n) (f := slotF n kk) (nz := n * szN 20) hS hZ HT7.out HLZ.out.2.1 (by rw [HLZ.out.2.2]; exact slot_room n kk hk2) (by decide) (by decide) (Nat.le_refl _) a ha
              rw [(HLZ.out.1.has kk a hk2 ha).got ha] at hGE
              have hhas := HLZ.out.1.has kk a hk2 ha
              have HHC := Lib.hid (fun (W : World) (hW : Zn w7 W D2 z ((T', tobj b'.Zr s g side false) :: b'.list D2 T' 6 20 n ++ [])) => hv_cell (HH.out W hW.below) hk2 ax5)
              have HNE := Lib.hid (And.intro HS.out.new HS.out.ne)
              clear hSL hS0 hS hZ HS
              by_cases he : hv kk a = noT
              · rw [if_pos he] at hGE
                have HGE := Lib.hid hGE
                rw [he] at HHC
                have hnt : noT.toList = [] := by rw [ByteArray.toList_eq]; rfl
                have sn : (noT.toList != noT.toList) = false := bne_self_eq_false _
                clear hGE hhas he
                go_wp2_with (fail)
                refine HSL.out.mono ?_
                rintro e wb ⟨rfl, rfl⟩
                go_wp2_with (fail)
                refine HGE.out.mono ?_
                rintro e wb ⟨rfl, hb2⟩
                have cc := HHC.out wb hb2
                have HS := Lib.hid (show Ly.Stands w7 wb D2 z [] b' T' 6 20 n s g side from ⟨hb2, HNE.out.1, HNE.out.2⟩)
                clear hb2 HGE HSL HHC
                go_wp2_with (fail)
                go_roundg (7 - (a + 1))
                case measure => exact meas7 HGK2.out ax5
                case rel => exact ⟨a + 1, rfl, ha, rfl, HS.out⟩
              · rw [if_neg he] at hGE
                have HGE := Lib.hid hGE
                obtain ⟨e0, e1, e2⟩ := text_ne he
                have sn : ((hv kk a).toList != (hv kk a).toList) = false := bne_self_eq_false _
                clear hGE hhas he
                generalize hv kk a = u at HGE HHC e0 e1 e2 sn
                go_wp2_with (fail)
                refine HSL.out.mono ?_
                rintro e wb ⟨rfl, rfl⟩
                go_wp2_with (fail)
                refine HGE.out.mono ?_
                rintro e wb ⟨rfl, hb2⟩
                have cc := HHC.out wb hb2
                have HS := Lib.hid (show Ly.Stands w7 wb D2 z [] b' T' 6 20 n s g side from ⟨hb2, HNE.out.1, HNE.out.2⟩)
                clear hb2 HGE HSL HHC
                go_wp2_with (fail)
                go_roundg (7 - (a + 1))
                case measure => exact meas7 HGK2.out ax5
                case rel => exact ⟨a + 1, rfl, ha, rfl, HS.out⟩
            · obtain rfl : a = n := eq_of han ha
              have x1 : decide ((a : Int) < (a : Int)) = false := decide_eq_false (Int.lt_irrefl _)
              have x2 : ¬ (a : Int) < (a : Int) := Int.lt_irrefl _
              clear ha
              go_wp2_with (fail)
              go_roundg (3 - (kk + 1))
              case measure => exact meas3 HGK.out hk2
              case rel => exact ⟨kk + 1, rfl, hk2, rfl, HS.out⟩
        · obtain rfl : kk = 2 := two_of hkk2 hk2
          have x1 : decide (((2 : Nat) : Int) < 2) = false := by decide
          clear hk2
          go_wp2_with (fail)
          refine bodyPost_ret (results_tmp rfl _ _ _) rfl ?_
          exact ⟨rfl, HB7.out.trans (HS.out.zn.below.mono HB7.out.size)⟩
end storeApart
end Go.Proofs.YtnmgkkjnjllpbaaGreatDoor
