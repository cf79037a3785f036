/-
  SlotApart: a chunk that is put changes no other one; those that were synced stay, whatever is kept, but where another was put since. The walk. Condition: both tables of sums lie as the program's text lays them.
-/
import Derived.Test.YtfpkgcofkgpgnaaDoorMg17
import Derived.Test.YtfpkgcofkgpgnaaDoorMg22
import Derived.Test.YtfpkgcofkgpgnaaDoorMg14
import Derived.Test.YtfpkgcofkgpgnaaDoorMg24
import Derived.Deep.LoopGhost
import Derived.Deep.CutBlock
import Derived.Deep.DeepCutAuto
set_option maxRecDepth 100000
namespace Go.Proofs.YtfpkgcofkgpgnaaDoor
open Go.ChangeShapes Go.WideShapes Go.ChangeAt Go.RowKit Pn Dk Sl Sx

namespace slotApart
/-- Five texts, five bools, of a law's own. -/
def five (g : Nat → Value) : Array Value := #[g 0, g 1, g 2, g 3, g 4]
theorem five_get (g : Nat → Value) {c : Nat} (h : c < 5) : (five g)[c]? = some (g c) := by
  rcases (show c = 0 ∨ c = 1 ∨ c = 2 ∨ c = 3 ∨ c = 4 by omega) with rfl | rfl | rfl | rfl | rfl <;> rfl
def strs5 (f : Nat → ByteArray) : Obj := .cells (five fun c => .string (f c)) 33 (0, 0)
def bools5 (u : Nat → Bool) : Obj := .cells (five fun c => .bool (u c)) 34 (0, 0)
theorem strs5_set {W : World} {b : Nat} {f g : Nat → ByteArray} {p : Nat} {s : ByteArray} (h : W.heap[b]? = some (strs5 f)) (hp : p < 5) (hg : ∀ c, g c = if p = c then s else f c) : (W.setCell ⟨b, p, none⟩ (.string s)).heap[b]? = some (strs5 g) := by
  have h1 := heap_setCell_same W b p _ _ (.string s) h
  rw [h1]
  unfold strs5 five
  rcases (show p = 0 ∨ p = 1 ∨ p = 2 ∨ p = 3 ∨ p = 4 by omega) with rfl | rfl | rfl | rfl | rfl <;> simp [hg]
theorem bools5_set {W : World} {b : Nat} {f g : Nat → Bool} {p : Nat} {s : Bool} (h : W.heap[b]? = some (bools5 f)) (hp : p < 5) (hg : ∀ c, g c = if p = c then s else f c) : (W.setCell ⟨b, p, none⟩ (.bool s)).heap[b]? = some (bools5 g) := by
  have h1 := heap_setCell_same W b p _ _ (.bool s) h
  rw [h1]
  unfold bools5 five
  rcases (show p = 0 ∨ p = 1 ∨ p = 2 ∨ p = 3 ∨ p = 4 by omega) with rfl | rfl | rfl | rfl | rfl <;> simp [hg]
theorem strs5_cell {W : World} {b : Nat} {f : Nat → ByteArray} (h : W.heap[b]? = some (strs5 f)) {c : Nat} (hc : c < 5) : W.cell? ⟨b, c, none⟩ = some (.string (f c)) := by rw [cell_of_row W b c _ _ _ h]; exact five_get _ hc
theorem bools5_cell {W : World} {b : Nat} {f : Nat → Bool} (h : W.heap[b]? = some (bools5 f)) {c : Nat} (hc : c < 5) : W.cell? ⟨b, c, none⟩ = some (.bool (f c)) := by rw [cell_of_row W b c _ _ _ h]; exact five_get _ hc
/-- The blocks beside the disk. -/
def fsAt (D b2 b1 S Z : Nat) (u : Nat → Bool) (f : Nat → ByteArray) : List (Nat × Obj) := [(b2, bools5 u), (b1, strs5 f), (S, slobj Z 40 5), (Z, zobj D 0 16)]
structure Apart (w : World) (b2 b1 S Z : Nat) : Prop where
  new2 : w.heap.size ≤ b2
  new1 : w.heap.size ≤ b1
  n21 : b2 ≠ b1
  nS1 : S ≠ b1
  nZ1 : Z ≠ b1
  nS2 : S ≠ b2
  nZ2 : Z ≠ b2
/-- Ahead of the put of the text m. -/
structure St (w wr : World) (D b2 b1 S Z : Nat) (x : Dk.St) (L : Nat → ByteArray) (n m i : Nat) : Prop where
  zn : Zn w wr D x (fsAt D b2 b1 S Z (laterA n m) (safeA L i))
  on : x.away = false
  fz : x.fuse = none
  len : x.n = 16
  few : x.loose.length ≤ 3 * m
  done : x.done ≤ 4 * m + 4
  full : x.Full
section
variable {w wr : World} {D b2 b1 S Z : Nat} {x : Dk.St} {L : Nat → ByteArray} {n m i : Nat} (h : St w wr D b2 b1 S Z x L n m i)
include h
theorem St.c1 : wr.heap[b1]? = some (strs5 (safeA L i)) := h.zn.fix (b1, strs5 (safeA L i)) (by simp [fsAt])
theorem St.c2 : wr.heap[b2]? = some (bools5 (laterA n m)) := h.zn.fix (b2, bools5 (laterA n m)) (by simp [fsAt])
theorem St.cS : wr.heap[S]? = some (slobj Z 40 5) := h.zn.fix (S, slobj Z 40 5) (by simp [fsAt])
theorem St.cZ : wr.heap[Z]? = some (zobj D 0 16) := h.zn.fix (Z, zobj D 0 16) (by simp [fsAt])
theorem St.sync (hm : m ≤ 12) : Calls Tryd.prog 9 #[.pointer (some ⟨D, 0, none⟩)] wr fun e w' => e = .returned (.int .i64 0) ∧ Zn w w' D x.burnt.synced (fsAt D b2 b1 S Z (laterA n m) (safeA L i)) := by
  have h1 := h.few
  have h2 := h.done
  exact h.zn.sync h.on h.fz (by omega) (by omega)
theorem St.put (hT : Tabs w) (hm : m ≤ 12) (hs : (L m).size ≤ 40) :
    Calls Tryd.prog 10 #[.pointer (some ⟨S, 0, none⟩), .int .i64 (pl m : Int), .int .i64 ((m + 1 : Nat) : Int), .string (L m)] wr fun e w' => e = .returned (.int .i64 0) ∧ Zn w w' D (putX x L m) (fsAt D b2 b1 S Z (laterA n m) (safeA L i)) := by
  have h1 := h.few
  have h2 := h.done
  refine h.zn.sput (S := S) (Z := Z) (k := 40) (c := 5) (f := 0) (nz := 16) (by simp [fsAt]) (by simp [fsAt]) hT h.on (by rw [h.len]; decide) (by decide) (by decide) (by decide) h.fz (by omega) (by omega) (m + 1) (L m) (by omega) (by omega) hs (pl m) (pl_lt m)
end
theorem put_rest {x : Dk.St} {L : Nat → ByteArray} {m : Nat} (hs : (L m).size ≤ 40) : (putX x L m).away = x.away ∧ (x.fuse = none → (putX x L m).fuse = none) ∧ (putX x L m).n = x.n ∧ (putX x L m).loose.length ≤ x.loose.length + 3 ∧ (putX x L m).done ≤ x.done + 3 ∧ (x.Full → (putX x L m).Full) := by
  have h3 := sz_three (L := L) (i := m) hs
  exact ⟨laid_away _ _ _ _, fun h => laid_fuse _ _ _ h _, laid_n _ _ _ _, by unfold putX; rw [laid_len]; omega, by unfold putX; rw [laid_done]; omega, fun h => laid_full _ _ _ h _⟩
section
variable {w wr : World} {D b2 b1 S Z : Nat} {x : Dk.St} {L : Nat → ByteArray} {n m i : Nat} (hs : (L m).size ≤ 40) (ha : Apart w b2 b1 S Z)
include hs ha
/-- Behind a put ahead of the sync. -/
theorem St.early (h : St w wr D b2 b1 S Z x L n m m) (hm : m < n) {w' : World} (hz : Zn w w' D (putX x L m) (fsAt D b2 b1 S Z (laterA n m) (safeA L m))) : St w (w'.setCell ⟨b1, pl m, none⟩ (.string (L m))) D b2 b1 S Z (putX x L m) L n (m + 1) (m + 1) := by
  obtain ⟨r1, r2, r3, r4, r5, r6⟩ := put_rest (x := x) (L := L) (m := m) hs
  have hl : laterA n (m + 1) = laterA n m := by funext c; show (if n ≤ m ∧ pl m = c then true else laterA n m c) = _; rw [if_neg (fun e => by omega)]
  have f1 := h.few
  have f2 := h.done
  refine ⟨?_, r1.trans h.on, r2 h.fz, r3.trans h.len, by omega, by omega, r6 h.full⟩
  rw [hl]
  have hz' : Zn w w' D (putX x L m) ((b1, strs5 (safeA L m)) :: [(b2, bools5 (laterA n m)), (S, slobj Z 40 5), (Z, zobj D 0 16)]) := hz.less (by simp [fsAt])
  have h1 := hz'.turn (w' := w'.setCell ⟨b1, pl m, none⟩ (.string (L m))) (o' := strs5 (safeA L (m + 1))) ha.new1 (by simp [ha.n21, ha.nS1, ha.nZ1]) (strs5_set (hz'.fix _ (List.mem_cons_self ..)) (pl_lt m) (fun c => rfl)) (fun i hi => heap_setCell_other w' ⟨b1, pl m, none⟩ i _ hi) ⟨rfl, rfl, rfl⟩ (by simp [World.setCell])
  exact h1.less (by simp [fsAt])
/-- Behind a put behind the sync. -/
theorem St.late (h : St w wr D b2 b1 S Z x L n m i) (hm : n ≤ m) {w' : World} (hz : Zn w w' D (putX x L m) (fsAt D b2 b1 S Z (laterA n m) (safeA L i))) : St w (w'.setCell ⟨b2, pl m, none⟩ (.bool true)) D b2 b1 S Z (putX x L m) L n (m + 1) i := by
  obtain ⟨r1, r2, r3, r4, r5, r6⟩ := put_rest (x := x) (L := L) (m := m) hs
  have f1 := h.few
  have f2 := h.done
  refine ⟨?_, r1.trans h.on, r2 h.fz, r3.trans h.len, by omega, by omega, r6 h.full⟩
  have hz' : Zn w w' D (putX x L m) ((b2, bools5 (laterA n m)) :: [(b1, strs5 (safeA L i)), (S, slobj Z 40 5), (Z, zobj D 0 16)]) := hz
  exact hz'.turn (w' := w'.setCell ⟨b2, pl m, none⟩ (.bool true)) (o' := bools5 (laterA n (m + 1))) ha.new2 (by simp [Ne.symm ha.n21, ha.nS2, ha.nZ2]) (bools5_set (hz'.fix _ (List.mem_cons_self ..)) (pl_lt m) (fun c => by show (if n ≤ m ∧ pl m = c then true else laterA n m c) = _; simp [hm])) (fun i hi => heap_setCell_other w' ⟨b2, pl m, none⟩ i _ hi) ⟨rfl, rfl, rfl⟩ (by simp [World.setCell])
end
/-- Behind the sync. -/
theorem St.synced {w wr : World} {D b2 b1 S Z : Nat} {x : Dk.St} {L : Nat → ByteArray} {n m i : Nat} (h : St w wr D b2 b1 S Z x L n m i) {w' : World} (hz : Zn w w' D x.burnt.synced (fsAt D b2 b1 S Z (laterA n m) (safeA L i))) (hd : x.done ≤ 4 * m + 3) : St w w' D b2 b1 S Z x.burnt.synced L n m i := by
  refine ⟨hz, h.on, ?_, h.len, Nat.zero_le _, by show x.done + 1 ≤ _; omega, (full_synced (x := x.burnt) h.full).1⟩
  show x.fuse.map _ = none
  rw [h.fz]
  rfl
set_option maxRecDepth 100000 in
set_option maxHeartbeats 6400000 in
theorem walk (w : World) (A : Option Addr) (len cap : Nat) (L : Nat → ByteArray) (sy : Int) (K : Option Addr) (klen kcap : Nat) (Y : Nat → Bool) (hlc : len ≤ cap) (hcm : cap ≤ maxLen)
    (hX : 0 < len → ∃ pb po, A = some ⟨pb, po, none⟩ ∧ ∀ k, k < len → w.cell? ⟨pb, po + k, none⟩ = some (.string (L k)))
    (hkc : klen ≤ kcap) (hkm : kcap ≤ maxLen) (hY : 0 < klen → ∃ pb po, K = some ⟨pb, po, none⟩ ∧ ∀ k, k < klen → w.cell? ⟨pb, po + k, none⟩ = some (.bool (Y k))) (hT : Tabs w) :
    Calls Tryd.prog 3 #[.slice A len cap, .int .i64 sy, .slice K klen kcap] w fun e w' => e = .returned (.bool true) ∧ Below w.heap.size w w' := by
  have HAW := Lib.hid (awake09 w hT)
  unfold maxLen at hcm hkm
  have bl : (len : Int) ≤ 9223372036854775807 := by omega
  have bk : (klen : Int) ≤ 9223372036854775807 := by omega
  by_cases c1 : 12 < len
  · have t1 : decide ((12 : Int) < (len : Int)) = true := decide_eq_true (by omega)
    have t1' : (12 : Int) < (len : Int) := by omega
    clear hX hT hY
    go_enter Tryd.func3, Tryd.ntmps3
    go_wp2_with (fail)
    refine HAW.out.mono ?_
    rintro e w1 ⟨rfl, b1⟩
    have B1 := Lib.hid b1
    clear b1
    go_wp2_with (fail)
    exact bodyPost_ret (results_tmp rfl _ _ _) rfl ⟨rfl, B1.out⟩
  have t1 : decide ((12 : Int) < (len : Int)) = false := decide_eq_false (by omega)
  by_cases c2 : 100 < klen
  · have t2 : decide ((100 : Int) < (klen : Int)) = true := decide_eq_true (by omega)
    have t2' : (100 : Int) < (klen : Int) := by omega
    clear hX hT hY
    go_enter Tryd.func3, Tryd.ntmps3
    go_wp2_with (fail)
    refine HAW.out.mono ?_
    rintro e w1 ⟨rfl, b1⟩
    have B1 := Lib.hid b1
    clear b1
    go_wp2_with (fail)
    exact bodyPost_ret (results_tmp rfl _ _ _) rfl ⟨rfl, B1.out⟩
  have t2 : decide ((100 : Int) < (klen : Int)) = false := decide_eq_false (by omega)
  obtain ⟨n, hn, hx⟩ := Bt.cut_u64 sy (len + 1) (by omega)
  have hw := Bt.wrap_u64_ge sy
  have hx2 : (IntKind.u64.wrap sy).tmod ((len : Int) + 1) = (n : Int) := by rw [Int.tmod_eq_emod_of_nonneg hw, show (len : Int) + 1 = ((len + 1 : Nat) : Int) by omega]; exact hx
  have HT := Lib.hid hT
  have HX := Lib.hid hX
  have HBS := Lib.hid (bools_at w K klen kcap Y hkc hY)
  have HKL := Lib.hid (show ((List.range klen).map Y).length ≤ 1099511627776 by rw [List.length_map, List.length_range]; omega)
  have h12 : len ≤ 12 := by omega
  have HB := Lib.hid (And.intro h12 (show n ≤ len by omega))
  have l12 : (len : Int) ≤ 12 := by omega
  have n0 : 0 ≤ (n : Int) := by omega
  have n12 : (n : Int) ≤ 12 := by omega
  generalize (List.range klen).map Y = kl at HBS HKL
  clear hT hX hY c1 c2 hlc hcm hkc hkm h12 hn hx bl bk
  go_enter Tryd.func3, Tryd.ntmps3
  go_wp2_with (fail)
  refine HAW.out.mono ?_
  rintro e w1 ⟨rfl, b1⟩
  have B1 := Lib.hid b1
  clear b1 HAW
  go_wp2_with (fail)
  clear t1 t2
  refine (at_new w w1 B1.out 16 16 (by omega)).mono ?_
  rintro e w2 ⟨D, rfl, h2⟩
  have H2 := Lib.hid (show Zn w w2 D (freshSt 16 fun _ => 0) [] from Zn.of_at h2)
  clear h2 B1
  go_wp2_with (fail)
  refine (Zn.opened w w2 D (freshSt 16 fun _ => 0) [] H2.out 40 (by decide) (by decide) (by decide)).mono ?_
  rintro e w3 ⟨S, Z, rfl, g3, h3⟩
  have H3 := Lib.hid (show Zn w w3 D (freshSt 16 fun _ => 0) [(S, slobj Z 40 5), (Z, zobj D 0 16)] from h3)
  clear h3 H2
  go_wp2_with (fail)
  refine (slot_chunks w3 S Z 40 5 (H3.out.fix (S, slobj Z 40 5) (by simp))).mono ?_
  rintro e w4 ⟨rfl, rfl⟩
  go_wp2_with (fail)
  have HAP := Lib.hid (show Apart w (w3.heap.size + 1) w3.heap.size S Z from by
    have e1 := (Array.getElem?_eq_some_iff.1 (H3.out.fix (S, slobj Z 40 5) (by simp))).1
    have e2 := (Array.getElem?_eq_some_iff.1 (H3.out.fix (Z, zobj D 0 16) (by simp))).1
    have e3 := H3.out.below.size
    exact ⟨by omega, by omega, by omega, by simp only at e1; omega, by simp only at e2; omega, by simp only at e1; omega, by simp only at e2; omega⟩)
  have HS0 := Lib.hid (show St w ((w3.alloc (strs5 fun _ => ⟨#[]⟩)).alloc (bools5 fun _ => false)) D (w3.heap.size + 1) w3.heap.size S Z (freshSt 16 fun _ => 0) L n 0 0 from by
    have z1 := H3.out.add ((Below.refl w3.heap.size w3).alloc (Nat.le_refl _) (strs5 fun _ => ⟨#[]⟩)) (Nat.le_refl _) (heap_alloc_new w3 _)
    have z2 := z1.add ((Below.refl _ (w3.alloc (strs5 fun _ => ⟨#[]⟩))).alloc (Nat.le_refl _) (bools5 fun _ => false)) (Nat.le_refl _) (heap_alloc_new (w3.alloc (strs5 fun _ => ⟨#[]⟩)) _)
    rw [World.size_alloc] at z2
    exact ⟨z2, rfl, rfl, rfl, Nat.zero_le _, by decide, rfl⟩)
  clear H3
  generalize w3.heap.size + 1 = b2 at HAP HS0 ⊢
  generalize w3.heap.size = b1 at HAP HS0 ⊢
  refine gen_world (fun W => St w W D b2 b1 S Z (freshSt 16 fun _ => 0) L n 0 0) HS0.out ?_
  intro w5 h5
  have H5 := Lib.hid h5
  clear h5 HS0
  go_loopg [13] (len + 1) (fun gk vi wr => ∃ (m : Nat) (x : Dk.St), gk = len + 1 - m ∧ m ≤ len ∧ vi = .int .i64 (m : Int) ∧ St w wr D b2 b1 S Z x L n m (min m n) ∧ (m ≤ n → Sx.Good x.now L m ∧ x.done ≤ 3 * m) ∧ (n < m → Late x L n m) ∧ (∀ i, i < m → 1 ≤ (L i).size ∧ (L i).size ≤ 40))
  case atStart => exact ⟨0, _, rfl, Nat.zero_le _, rfl, H5.out, fun _ => ⟨Sx.Good.fresh L, Nat.le_refl _⟩, fun h => by omega, fun i hi => by omega⟩
  case round =>
    clear H5
    obtain ⟨m, x, hgk, hml, rfl, hst, her, hlt, hsz⟩ := hrel
    have HGK := Lib.hid hgk
    have HS := Lib.hid hst
    have HE := Lib.hid her
    have HL := Lib.hid hlt
    have HZ := Lib.hid hsz
    clear hgk hst her hlt hsz
    have m0 : 0 ≤ (m : Int) := by omega
    have m12 : (m : Int) ≤ 12 := by omega
    by_cases hlt : m < len
    · have x0 : (m : Int) < (len : Int) := by omega
      have x1 : decide ((m : Int) < (len : Int)) = true := decide_eq_true x0
      obtain ⟨pb, po, rfl, hc⟩ := HX.out (by omega)
      have hcell0 := hc m hlt
      have hcell := (HS.out.zn.below.cell (p := ⟨pb, po + m, none⟩) (block_lt_of_cell (hc m hlt))).trans (hc m hlt)
      clear hc
      by_cases h40 : 40 < (L m).size
      · have z0 : (40 : Int) < ((L m).size : Int) := by omega
        have z1 : decide ((40 : Int) < ((L m).size : Int)) = true := decide_eq_true z0
        go_wp2_with (fail)
        refine bodyPost_ret (results_tmp rfl _ _ _) rfl ?_
        exact ⟨rfl, HS.out.zn.below⟩
      have z0 : ¬ (40 : Int) < ((L m).size : Int) := by omega
      have z1 : decide ((40 : Int) < ((L m).size : Int)) = false := decide_eq_false z0
      by_cases h00 : (L m).size = 0
      · have z2 : (((L m).size : Int) == 0) = true := beq_iff_eq.2 (by omega)
        go_wp2_with (fail)
        refine bodyPost_ret (results_tmp rfl _ _ _) rfl ?_
        exact ⟨rfl, HS.out.zn.below⟩
      have z2 : (((L m).size : Int) == 0) = false := beq_eq_false_iff_ne.2 (by omega)
      have HSZ := Lib.hid (show ∀ i, i < m + 1 → 1 ≤ (L i).size ∧ (L i).size ≤ 40 from fun i hi => by
        by_cases he : i = m
        · subst he; omega
        · exact HZ.out i (by omega))
      have hs40 : (L m).size ≤ 40 := by omega
      have hat : ((m : Int) * 7).tmod 5 = (pl m : Int) := by
        rw [show (m : Int) * 7 = ((m * 7 : Nat) : Int) by omega]
        exact (Int.ofNat_tmod (m * 7) 5).symm
      have hp5 := pl_lt m
      have p0 : 0 ≤ (pl m : Int) := by omega
      have p5 : (pl m : Int) < 5 := by omega
      have em : (m : Int) + 1 = ((m + 1 : Nat) : Int) := by omega
      have cS := slot_c0 HS.out.cS
      have cZ := zone_c0 HS.out.cZ
      have HW := Lib.hid (show ∀ W : World, w.heap.size ≤ W.heap.size ∧ Below w.heap.size w W → W.cell? ⟨pb, po + m, none⟩ = some (.string (L m)) from fun W hW => (hW.2.cell (p := ⟨pb, po + m, none⟩) (block_lt_of_cell hcell0)).trans hcell0)
      rcases Nat.lt_trichotomy m n with hmn | hmn | hmn
      · have q1 : ((m : Int) == (n : Int)) = false := beq_eq_false_iff_ne.2 (by omega)
        have q2 : (m : Int) < (n : Int) := by omega
        have q3 : decide ((m : Int) < (n : Int)) = true := decide_eq_true q2
        rw [Nat.min_eq_left (Nat.le_of_lt hmn)] at HS
        have HP := Lib.hid (HS.out.put HT.out (by omega) hs40)
        have HN := Lib.hid (fun (w' : World) hz => HS.out.early (w' := w') hs40 HAP.out hmn hz)
        have HG := Lib.hid (And.intro ((HE.out (by omega)).1.put hs40) (show (putX x L m).done ≤ 3 * (m + 1) by have h1 := (put_rest (x := x) (L := L) (m := m) hs40).2.2.2.2.1; have h2 := (HE.out (by omega)).2; omega))
        clear hs40 h40 h00
        generalize L m = s at hcell z0 z1 z2 HP HN HW
        generalize hm1 : ((m + 1 : Nat) : Int) = m1 at em HP
        have HM1 := Lib.hid hm1
        clear hm1
        generalize pl m = p at hat hp5 p0 p5 HP HN
        go_wp2_with (fail)
        refine HP.out.mono ?_
        rintro e w6 ⟨rfl, h6⟩
        have c5 := strs5_cell (h6.fix (b1, strs5 (safeA L m)) (by simp [fsAt])) hp5
        have f5 := frozen_of_row w6 b1 p _ _ (h6.fix (b1, strs5 (safeA L m)) (by simp [fsAt]))
        have cl := HW.out w6 ⟨h6.below.size, h6.below⟩
        have H6 := Lib.hid (HN.out w6 h6)
        clear h6 HP HN
        go_wp2_with (fail)
        go_roundg (len + 1 - (m + 1))
        case measure => have := HGK.out; omega
        case rel => exact ⟨m + 1, putX x L m, rfl, by omega, by rw [HM1.out], by rw [Nat.min_eq_left (by omega)]; exact H6.out, fun _ => HG.out, fun h => by omega, HSZ.out⟩
      · subst hmn
        have q1 : ((m : Int) == (m : Int)) = true := beq_self_eq_true _
        have q2 : ¬ (m : Int) < (m : Int) := by omega
        have q3 : decide ((m : Int) < (m : Int)) = false := decide_eq_false q2
        rw [Nat.min_self] at HS
        have HSY := Lib.hid (HS.out.sync (by omega))
        have HPS := Lib.hid (fun (w' : World) hz => HS.out.synced (w' := w') hz (by have h2 := (HE.out (Nat.le_refl _)).2; omega))
        have HLA := Lib.hid ((Late.synced HS.out.full (HE.out (Nat.le_refl _)).1).put (L := L) (Nat.le_refl _))
        have HN := Lib.hid (fun (w6 w' : World) (h : St w w6 D b2 b1 S Z x.burnt.synced L m m m) hz => h.late (w' := w') hs40 HAP.out (Nat.le_refl _) hz)
        have HP := Lib.hid (fun (w' : World) (h : St w w' D b2 b1 S Z x.burnt.synced L m m m) => h.put HT.out (by omega) hs40)
        clear hs40 h40 h00
        generalize L m = s at hcell z0 z1 z2 HP HN HW
        generalize hm1 : ((m + 1 : Nat) : Int) = m1 at em HP
        have HM1 := Lib.hid hm1
        clear hm1
        generalize pl m = p at hat hp5 p0 p5 HP HN
        go_wp2_with (fail)
        refine HSY.out.mono ?_
        rintro e w6 ⟨rfl, h6⟩
        have HS6 := Lib.hid (HPS.out w6 h6)
        have cl6 := HW.out w6 ⟨h6.below.size, h6.below⟩
        have c6 := slot_c0 HS6.out.cS
        clear h6 HSY cS
        go_wp2_with (fail)
        refine (HP.out w6 HS6.out).mono ?_
        rintro e w7 ⟨rfl, h7⟩
        have c7 := bools5_cell (h7.fix (b2, bools5 (laterA m m)) (by simp [fsAt])) hp5
        have f7 := frozen_of_row w7 b2 p _ _ (h7.fix (b2, bools5 (laterA m m)) (by simp [fsAt]))
        have H7 := Lib.hid (HN.out w6 w7 HS6.out h7)
        clear h7 HP HN
        go_wp2_with (fail)
        go_roundg (len + 1 - (m + 1))
        case measure => have := HGK.out; omega
        case rel => exact ⟨m + 1, putX x.burnt.synced L m, rfl, by omega, by rw [HM1.out], by rw [Nat.min_eq_right (by omega)]; exact H7.out, fun h => by omega, fun _ => HLA.out, HSZ.out⟩
      · have q1 : ((m : Int) == (n : Int)) = false := beq_eq_false_iff_ne.2 (by omega)
        have q2 : ¬ (m : Int) < (n : Int) := by omega
        have q3 : decide ((m : Int) < (n : Int)) = false := decide_eq_false q2
        rw [Nat.min_eq_right (Nat.le_of_lt hmn)] at HS
        have HP := Lib.hid (HS.out.put HT.out (by omega) hs40)
        have HN := Lib.hid (fun (w' : World) hz => HS.out.late (w' := w') hs40 HAP.out (Nat.le_of_lt hmn) hz)
        have HLA := Lib.hid ((HL.out hmn).put (Nat.le_of_lt hmn))
        have HMN := Lib.hid hmn
        clear hs40 h40 h00 hmn
        generalize L m = s at hcell z0 z1 z2 HP HN HW
        generalize hm1 : ((m + 1 : Nat) : Int) = m1 at em HP
        have HM1 := Lib.hid hm1
        clear hm1
        generalize pl m = p at hat hp5 p0 p5 HP HN
        go_wp2_with (fail)
        refine HP.out.mono ?_
        rintro e w6 ⟨rfl, h6⟩
        have c5 := bools5_cell (h6.fix (b2, bools5 (laterA n m)) (by simp [fsAt])) hp5
        have f5 := frozen_of_row w6 b2 p _ _ (h6.fix (b2, bools5 (laterA n m)) (by simp [fsAt]))
        have H6 := Lib.hid (HN.out w6 h6)
        clear h6 HP HN
        go_wp2_with (fail)
        go_roundg (len + 1 - (m + 1))
        case measure => have := HGK.out; omega
        case rel => exact ⟨m + 1, putX x L m, rfl, by omega, by rw [HM1.out], by have := HMN.out; rw [Nat.min_eq_right (by omega)]; exact H6.out, fun h => by have := HMN.out; omega, fun _ => HLA.out, HSZ.out⟩
    · obtain rfl : m = len := by omega
      have x0 : ¬ (m : Int) < (m : Int) := by omega
      have x1 : decide ((m : Int) < (m : Int)) = false := decide_eq_false x0
      have hnm := HB.out.2
      rw [Nat.min_eq_right hnm] at HS
      have cS := slot_c0 HS.out.cS
      have cZ := zone_c0 HS.out.cZ
      clear hlt
      go_upto_region 25 with (fail)
      go_cut [126] (fun v wx => v = .bool false ∧ ∃ x : Dk.St, St w wx D b2 b1 S Z x L n m n ∧ Late x L n m)
      case first =>
        by_cases hmn : n = m
        · subst hmn
          have q1 : ((n : Int) == (n : Int)) = true := beq_self_eq_true _
          have HSY := Lib.hid (HS.out.sync (by omega))
          have HPS := Lib.hid (fun (w' : World) hz => HS.out.synced (w' := w') hz (by have h2 := (HE.out (Nat.le_refl _)).2; omega))
          have HLA := Lib.hid (Late.synced HS.out.full (HE.out (Nat.le_refl _)).1)
          go_wp2_with (fail)
          refine HSY.out.mono ?_
          rintro e w6 ⟨rfl, h6⟩
          have HS6 := Lib.hid (HPS.out w6 h6)
          clear h6 HSY
          go_wp2_with (fail)
          go_meet
          exact ⟨rfl, _, HS6.out, HLA.out⟩
        · have q1 : ((n : Int) == (m : Int)) = false := beq_eq_false_iff_ne.2 (by omega)
          have HMN := Lib.hid hmn
          clear hmn
          go_wp2_with (fail)
          go_meet
          exact ⟨rfl, x, HS.out, HL.out (by have := HMN.out; omega)⟩
      case rest =>
        obtain ⟨rfl, x, h8, hla⟩ := hcut
        clear cS cZ
        have cS := slot_c0 h8.cS
        have cZ := zone_c0 h8.cZ
        have HC8 := Lib.hid (h8.zn.cut h8.on (by have := h8.few; omega) (.slice K klen kcap) kl HKL.out HBS.out)
        have HLA := Lib.hid hla
        have HY := Lib.hid (show (x.fall kl).come.n = 16 from h8.len)
        clear h8 hla HS HE HL
        go_wp2_with (fail)
        refine HC8.out.mono ?_
        rintro e w6 ⟨rfl, h6⟩
        have H6 := Lib.hid h6
        clear cS cZ HC8
        have cS := slot_c0 (h6.fix (S, slobj Z 40 5) (by simp [fsAt]))
        have cZ := zone_c0 (h6.fix (Z, zobj D 0 16) (by simp [fsAt]))
        clear h6
        go_wp2_with (fail)
        refine H6.out.come.mono ?_
        rintro e w7 ⟨rfl, h7⟩
        have H7 := Lib.hid h7
        clear h7 H6 cS cZ
        go_wp2_with (fail)
        go_loopg [15] 6 (fun gk vk wr => ∃ c : Nat, gk = 6 - c ∧ c ≤ 5 ∧ vk = .int .i64 (c : Int) ∧ Zn w wr D (x.fall kl).come (fsAt D b2 b1 S Z (laterA n m) (safeA L n)))
        case atStart => exact ⟨0, rfl, by omega, rfl, H7.out⟩
        case round =>
          clear H7
          obtain ⟨c, hgk, hc5, rfl, hz⟩ := hrel
          have HGK6 := Lib.hid hgk
          have HW := Lib.hid hz
          clear hgk
          have k0 : 0 ≤ (c : Int) := by omega
          by_cases hlt : c < 5
          · have x0 : (c : Int) < 5 := by omega
            have x1 : decide ((c : Int) < 5) = true := decide_eq_true x0
            have hg := hz.sget (S := S) (Z := Z) (k := 40) (c := 5) (f := 0) (nz := 16) (by simp [fsAt]) (by simp [fsAt]) HT.out rfl (by rw [HY.out]; decide) (by decide) (by decide) (by decide) c hlt
            clear hz
            cases hl : laterA n m c with
            | true =>
              have hmx := HLA.out.mixes HZ.out hnm (by have := HB.out.1; omega) kl c hlt
              have HCE := Lib.hid (show ∀ W, Zn w W D (x.fall kl).come (fsAt D b2 b1 S Z (laterA n m) (safeA L n)) → W.cell? ⟨b2, c, none⟩ = some (.bool true) ∧ W.cell? ⟨b1, c, none⟩ = some (.string (safeA L n c)) from fun W h => ⟨by have := bools5_cell (h.fix (b2, bools5 (laterA n m)) (by simp [fsAt])) hlt; rw [hl] at this; exact this, strs5_cell (h.fix (b1, strs5 (safeA L n)) (by simp [fsAt])) hlt⟩)
              generalize getK (x.fall kl).come 0 16 40 c = r at hg hmx
              obtain ⟨t, num, e0⟩ := r
              have HG := Lib.hid hg
              have HF := Lib.hid (show e0 ≠ 0 ∨ (∃ i, n ≤ i ∧ i < m ∧ pl i = c ∧ t = L i) ∨ t = safeA L n c from by
                rcases hmx with h | ⟨i, hi, h, h2⟩
                · injection h with _ h
                  injection h with _ h
                  exact .inl (by rw [h]; decide)
                · injection h with h _
                  subst h
                  rcases h2 with ⟨h3, h4⟩ | h3
                  · exact .inr (.inl ⟨i, h3, hi, h4, rfl⟩)
                  · exact .inr (.inr h3))
              clear hg hmx hl
              generalize safeA L n c = sq at HCE HF
              go_wp2_with (fail)
              refine HG.out.mono ?_
              rintro e w8 ⟨rfl, h8⟩
              have H8 := Lib.hid h8
              obtain ⟨cb, cs⟩ := HCE.out w8 h8
              clear h8 HG HCE HW
              go_upto_region 34 with (fail)
              go_cut [19] (fun v wx => ∃ F : Bool, v = .bool F ∧ Zn w wx D (x.fall kl).come (fsAt D b2 b1 S Z (laterA n m) (safeA L n)) ∧ (F = true ∨ ∃ i, n ≤ i ∧ i < m ∧ pl i = c ∧ t = L i))
              case first =>
                by_cases he : e0 = 0
                · have q1 : ((e0 : Int) != 0) = false := bne_eq_false_iff_eq.2 (by omega)
                  by_cases ht : t = sq
                  · have q2 : (t.toList == sq.toList) = true := by rw [ht]; exact beq_self_eq_true _
                    clear ht he
                    go_wp2_with (fail)
                    go_meet
                    exact ⟨true, rfl, H8.out, .inl rfl⟩
                  · have q2 : (t.toList == sq.toList) = false := texts_ne ht
                    have HE := Lib.hid (show ∃ i, n ≤ i ∧ i < m ∧ pl i = c ∧ t = L i from by
                      rcases HF.out with h | h | h
                      · exact absurd he h
                      · exact h
                      · exact absurd h ht)
                    clear ht he
                    go_wp2_with (fail)
                    go_meet
                    exact ⟨false, rfl, H8.out, .inr HE.out⟩
                · have q1 : ((e0 : Int) != 0) = true := bne_iff_ne.2 (by omega)
                  clear he
                  go_wp2_with (fail)
                  go_meet
                  exact ⟨true, rfl, H8.out, .inl rfl⟩
              case rest =>
                clear cb cs HF H8
                obtain ⟨F, rfl, h9, hF⟩ := hcut
                have H9 := Lib.hid h9
                have HF := Lib.hid hF
                clear h9 hF
                go_wp2_with (fail)
                go_loopg [19, 20] (m + 1 - n) (fun gk vf vi wr => ∃ (j : Nat) (F : Bool), gk = m + 1 - j ∧ n ≤ j ∧ j ≤ m ∧ vf = .bool F ∧ vi = .int .i64 (j : Int) ∧ Zn w wr D (x.fall kl).come (fsAt D b2 b1 S Z (laterA n m) (safeA L n)) ∧ (F = true ∨ ∃ i, j ≤ i ∧ i < m ∧ pl i = c ∧ t = L i))
                case atStart => exact ⟨n, F, rfl, Nat.le_refl _, hnm, rfl, rfl, H9.out, HF.out⟩
                case round =>
                  clear H9 HF
                  obtain ⟨j, F, hgk, hnj, hjm, rfl, rfl, hz, hF⟩ := hrel
                  have HGKJ := Lib.hid (And.intro hgk hnj)
                  have H9 := Lib.hid hz
                  have HF := Lib.hid hF
                  clear hgk hnj hz hF
                  have j0 : 0 ≤ (j : Int) := by omega
                  have j12 : (j : Int) ≤ 12 := by omega
                  by_cases hjl : j < m
                  · have x2 : (j : Int) < (m : Int) := by omega
                    have x3 : decide ((j : Int) < (m : Int)) = true := decide_eq_true x2
                    cases F with
                    | true =>
                      clear HF
                      go_wp2_with (fail)
                      go_roundg (m + 1 - (j + 1))
                      case measure => have := HGKJ.out; omega
                      case rel => exact ⟨j + 1, true, rfl, by have := HGKJ.out; omega, by omega, rfl, rfl, H9.out, .inl rfl⟩
                    | false =>
                      obtain ⟨i, hi1, hi2, hi3, hi4⟩ := HF.out.resolve_left Bool.false_ne_true
                      have HI := Lib.hid (And.intro hi1 (And.intro hi2 (And.intro hi3 hi4)))
                      clear hi1 hi2 hi3 hi4 HF
                      have hat : ((j : Int) * 7).tmod 5 = (pl j : Int) := by
                        rw [show (j : Int) * 7 = ((j * 7 : Nat) : Int) by omega]
                        exact (Int.ofNat_tmod (j * 7) 5).symm
                      by_cases hpc : pl j = c
                      · have q1 : ((pl j : Int) == (c : Int)) = true := beq_iff_eq.2 (by omega)
                        obtain ⟨pb, po, rfl, hc⟩ := HX.out (by omega)
                        have hcell := (H9.out.below.cell (p := ⟨pb, po + j, none⟩) (block_lt_of_cell (hc j hjl))).trans (hc j hjl)
                        clear hc
                        by_cases ht : t = L j
                        · have q2 : (t.toList == (L j).toList) = true := by rw [← ht]; exact beq_self_eq_true _
                          clear ht hpc
                          generalize L j = lj at hcell q2
                          generalize (pl j : Int) = pI at hat q1
                          go_wp2_with (fail)
                          go_roundg (m + 1 - (j + 1))
                          case measure => have := HGKJ.out; omega
                          case rel => exact ⟨j + 1, true, rfl, by have := HGKJ.out; omega, by omega, rfl, rfl, H9.out, .inl rfl⟩
                        · have q2 : (t.toList == (L j).toList) = false := texts_ne ht
                          have HJ := Lib.hid (show j + 1 ≤ i from by
                            have h1 := HI.out.1
                            have h2 : i ≠ j := fun e => ht (by rw [HI.out.2.2.2, e])
                            omega)
                          clear ht hpc
                          generalize L j = lj at hcell q2
                          generalize (pl j : Int) = pI at hat q1
                          go_wp2_with (fail)
                          go_roundg (m + 1 - (j + 1))
                          case measure => have := HGKJ.out; omega
                          case rel => exact ⟨j + 1, false, rfl, by have := HGKJ.out; omega, by omega, rfl, rfl, H9.out, .inr ⟨i, HJ.out, HI.out.2⟩⟩
                      · have q1 : ((pl j : Int) == (c : Int)) = false := beq_eq_false_iff_ne.2 (by omega)
                        have HJ := Lib.hid (show j + 1 ≤ i from by
                            have h1 := HI.out.1
                            have h2 : i ≠ j := fun e => hpc (by rw [← e]; exact HI.out.2.2.1)
                            omega)
                        clear hpc
                        generalize (pl j : Int) = pI at hat q1
                        go_wp2_with (fail)
                        go_roundg (m + 1 - (j + 1))
                        case measure => have := HGKJ.out; omega
                        case rel => exact ⟨j + 1, false, rfl, by have := HGKJ.out; omega, by omega, rfl, rfl, H9.out, .inr ⟨i, HJ.out, HI.out.2⟩⟩
                  · have x2 : ¬ (j : Int) < (m : Int) := by omega
                    have x3 : decide ((j : Int) < (m : Int)) = false := decide_eq_false x2
                    obtain rfl : F = true := by
                      rcases HF.out with h | ⟨i, h1, h2, _⟩
                      · exact h
                      · omega
                    clear HF
                    go_wp2_with (fail)
                    go_roundg (6 - (c + 1))
                    case measure => have := HGK6.out; omega
                    case rel => exact ⟨c + 1, rfl, by omega, rfl, H9.out⟩
            | false =>
              have hkp := HLA.out.keeps HZ.out hnm (by have := HB.out.1; omega) kl c hlt hl
              by_cases hs : safeA L n c = ⟨#[]⟩
              · rw [if_pos hs] at hkp
                rw [hkp] at hg
                have HG := Lib.hid hg
                have HCE := Lib.hid (show ∀ W, Zn w W D (x.fall kl).come (fsAt D b2 b1 S Z (laterA n m) (safeA L n)) → W.cell? ⟨b2, c, none⟩ = some (.bool false) ∧ W.cell? ⟨b1, c, none⟩ = some (.string (safeA L n c)) from fun W h => ⟨by have := bools5_cell (h.fix (b2, bools5 (laterA n m)) (by simp [fsAt])) hlt; rw [hl] at this; exact this, strs5_cell (h.fix (b1, strs5 (safeA L n)) (by simp [fsAt])) hlt⟩)
                clear hg hkp hl
                have t1 : ((safeA L n c).toList == []) = true := by rw [hs, ByteArray.toList_eq]; rfl
                have t2 : ((safeA L n c).toList != []) = false := by rw [hs, ByteArray.toList_eq]; rfl
                clear hs
                generalize safeA L n c = sq at HCE t1 t2
                go_wp2_with (fail)
                refine HG.out.mono ?_
                rintro e w8 ⟨rfl, h8⟩
                have H8 := Lib.hid h8
                obtain ⟨cb, cs⟩ := HCE.out w8 h8
                clear h8 HG HCE
                go_wp2_with (fail)
                go_roundg (6 - (c + 1))
                case measure => have := HGK6.out; omega
                case rel => exact ⟨c + 1, rfl, by omega, rfl, H8.out⟩
              · rw [if_neg hs] at hkp
                generalize (getK (x.fall kl).come 0 16 40 c).2.1 = num at hkp
                rw [hkp] at hg
                have HG := Lib.hid hg
                have HCE := Lib.hid (show ∀ W, Zn w W D (x.fall kl).come (fsAt D b2 b1 S Z (laterA n m) (safeA L n)) → W.cell? ⟨b2, c, none⟩ = some (.bool false) ∧ W.cell? ⟨b1, c, none⟩ = some (.string (safeA L n c)) from fun W h => ⟨by have := bools5_cell (h.fix (b2, bools5 (laterA n m)) (by simp [fsAt])) hlt; rw [hl] at this; exact this, strs5_cell (h.fix (b1, strs5 (safeA L n)) (by simp [fsAt])) hlt⟩)
                clear hg hkp hl
                have hs' : (safeA L n c).toList ≠ [] := fun e => hs (by
                  rw [ByteArray.toList_eq] at e
                  exact ByteArray.ext (Array.toList_inj.1 e))
                have t1 : ((safeA L n c).toList == []) = false := beq_eq_false_iff_ne.2 hs'
                have t2 : ((safeA L n c).toList != []) = true := bne_iff_ne.2 hs'
                have t3 : ((safeA L n c).toList != (safeA L n c).toList) = false := bne_self_eq_false _
                clear hs hs'
                generalize safeA L n c = sq at HCE t1 t2 t3 HG
                go_wp2_with (fail)
                refine HG.out.mono ?_
                rintro e w8 ⟨rfl, h8⟩
                have H8 := Lib.hid h8
                obtain ⟨cb, cs⟩ := HCE.out w8 h8
                clear h8 HG HCE
                go_wp2_with (fail)
                go_roundg (6 - (c + 1))
                case measure => have := HGK6.out; omega
                case rel => exact ⟨c + 1, rfl, by omega, rfl, H8.out⟩
          · have x0 : ¬ (c : Int) < 5 := by omega
            have x1 : decide ((c : Int) < 5) = false := decide_eq_false x0
            clear hz
            go_wp2_with (fail)
            refine bodyPost_ret (results_tmp rfl _ _ _) rfl ?_
            exact ⟨rfl, HW.out.below⟩
end slotApart
end Go.Proofs.YtfpkgcofkgpgnaaDoor
