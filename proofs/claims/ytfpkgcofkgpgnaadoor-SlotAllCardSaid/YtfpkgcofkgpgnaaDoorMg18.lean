/-
  SlotAll in plain words: the pieces of a text, which of them are put, what is got of them, and all of them together. No program's function here. No conditions.
  SlotAll: chunks come together as they were parted, in whatever order they were put; one of another update, or missing, is told. The walk. Condition: both tables of sums lie as the program's text lays them.
-/
import Derived.Test.YtfpkgcofkgpgnaaDoorMg17
import Derived.Test.YtfpkgcofkgpgnaaDoorMg14
import Derived.Deep.LoopGhost
import Derived.Deep.CutBlock
import Derived.Deep.DeepCutAuto
set_option maxRecDepth 100000
namespace Go.Proofs.YtfpkgcofkgpgnaaDoor
open Go Go.RowKit Pn Dk Sl
namespace Sx
/-- The piece i of k bytes. -/
def piece (d : ByteArray) (k i : Nat) : ByteArray := d.extract (i * k) (min (i * k + k) d.size)
theorem piece_list (d : ByteArray) (k i : Nat) : (piece d k i).data.toList = (d.data.toList.drop (i * k)).take k := by
  unfold piece
  rw [ByteArray.data_extract, Array.toList_extract, List.extract_eq_take_drop]
  by_cases h : i * k + k ≤ d.size
  · rw [Nat.min_eq_left h, Nat.add_sub_cancel_left]
  · rw [Nat.min_eq_right (by omega)]
    have hl : (d.data.toList.drop (i * k)).length = d.size - i * k := by rw [List.length_drop]; rfl
    rw [List.take_of_length_le (by omega), List.take_of_length_le (by omega)]
theorem piece_size (d : ByteArray) (k i : Nat) : (piece d k i).size ≤ k := by
  show (piece d k i).data.toList.length ≤ k
  rw [piece_list, List.length_take]
  exact Nat.min_le_left ..
theorem cat_pieces (d : ByteArray) (k : Nat) (T : Nat → ByteArray) : ∀ m, (∀ i, i < m → T i = piece d k i) → catL T m = d.data.toList.take (m * k)
  | 0, _ => by unfold catL; rw [Nat.zero_mul]; rfl
  | m + 1, h => by
    unfold catL
    rw [cat_pieces d k T m fun i hi => h i (by omega), h m (by omega), piece_list, Nat.succ_mul, List.take_add]
/-- A disk of which some pieces are put, each at its place; the others' places are as they were. -/
structure AllSt (x : Dk.St) (d : ByteArray) (k n : Nat) (u : Nat → Bool) (B : Nat) : Prop where
  on : x.away = false
  fz : x.fuse = none
  len : x.n = n * 3
  few : x.loose.length ≤ B
  done : x.done ≤ B
  put : ∀ i, i < n → u i = true → ∀ q, q < szN (piece d k i).size → ∀ j, j < 32 → sect x.now (0 + i * szN k + q) j = secF 9 (sealL (piece d k i)) q j
  not : ∀ i, i < n → u i = false → numG (sect x.now (0 + i * szN k)) = 0
theorem mul_apart {i a s : Nat} (h : i ≠ a) : i * s + s ≤ a * s ∨ a * s + s ≤ i * s := by
  rcases Nat.lt_or_gt_of_ne h with h | h
  · have := Nat.mul_le_mul_right s (Nat.succ_le_of_lt h)
    rw [Nat.succ_mul] at this
    exact .inl this
  · have := Nat.mul_le_mul_right s (Nat.succ_le_of_lt h)
    rw [Nat.succ_mul] at this
    exact .inr this
theorem szN_three {k : Nat} (h : k ≤ 40) : szN k ≤ 3 := by unfold szN; omega
section
variable {x : Dk.St} {d : ByteArray} {k n : Nat} {u : Nat → Bool} {B : Nat} (h : AllSt x d k n u B) (hk : k ≤ 40)
include h hk
theorem AllSt.next {a : Nat} (ha : a < n) : AllSt (x.laid (0 + a * szN k) (secF 9 (sealL (piece d k a))) (szN (piece d k a).size)) d k n (Bt.upd u a true) (B + 3) := by
  have hs := szN_mono (piece_size d k a)
  have h3 := szN_three hk
  refine ⟨(laid_away _ _ _ _).trans h.on, laid_fuse _ _ _ h.fz _, (laid_n _ _ _ _).trans h.len, by rw [laid_len]; have := h.few; omega, by rw [laid_done]; have := h.done; omega, fun i hi hu q hq j hj => ?_, fun i hi hu => ?_⟩
  · by_cases he : i = a
    · subst he
      exact laid_in x _ _ _ q hq j hj
    · have hs2 := szN_mono (piece_size d k i)
      rw [Bt.upd_other u true he] at hu
      rw [laid_out x _ _ _ _ (by rcases mul_apart (s := szN k) he with h1 | h1 <;> omega) j hj]
      exact h.put i hi hu q hq j hj
  · by_cases he : i = a
    · subst he
      rw [Bt.upd_same] at hu
      cases hu
    · have h2 := szN_two k
      rw [Bt.upd_other u true he] at hu
      exact (numG_congr fun j hj => laid_out x _ _ _ _ (by rcases mul_apart (s := szN k) he with h1 | h1 <;> omega) j hj).trans (h.not i hi hu)
theorem AllSt.got_put {i : Nat} (hi : i < n) (hu : u i = true) : getK x 0 (n * 3) k i = (piece d k i, 9, 0) := by
  have h3 := szN_three hk
  have hm : n * szN k ≤ n * 3 := Nat.mul_le_mul_left _ h3
  exact getK_put x 0 (n * 3) k i 9 _ (by decide) (by decide) (piece_size d k i) (by omega) (chunk_in hm hi) (h.put i hi hu)
omit hk in
theorem AllSt.got_none {i : Nat} (hi : i < n) (hu : u i = false) : getK x 0 (n * 3) k i = (⟨#[]⟩, 0, 5) := getK_none x 0 (n * 3) k i (h.not i hi hu)
theorem AllSt.is {i : Nat} (hi : i < n) : isW (getK x 0 (n * 3) k i) 9 = u i := by
  cases hu : u i with
  | true => rw [h.got_put hk hi hu]; exact isW_put rfl
  | false => rw [h.got_none hi hu]; exact isW_none (by decide)
theorem AllSt.scans : firstU n (fun i => isW (getK x 0 (n * 3) k i) 9) = firstU n u := by
  funext i
  unfold firstU
  by_cases hi : i < n
  · show (decide (i < n) && isW (getK x 0 (n * 3) k i) 9) = _
    rw [h.is hk hi]
  · rw [decide_eq_false hi]
    rfl
theorem AllSt.all_not {a : Nat} (ha : a < n) (hu : u a = false) : allU (fun i => isW (getK x 0 (n * 3) k i) 9) n = false := allU_stop _ ha (by show isW (getK x 0 (n * 3) k a) 9 = _; rw [h.is hk ha, hu])
theorem AllSt.all_put (hu : ∀ i, i < n → u i = true) : allU (fun i => isW (getK x 0 (n * 3) k i) 9) n = true := (allU_iff _ n).2 fun i hi => by show isW (getK x 0 (n * 3) k i) 9 = _; rw [h.is hk hi, hu i hi]
theorem AllSt.cat (hu : ∀ i, i < n → u i = true) (hn : d.size ≤ n * k) : (⟨(catL (fun i => wText (getK x 0 (n * 3) k i) 9) n).toArray⟩ : ByteArray) = d := by
  rw [cat_pieces d k _ n fun i hi => by show wText (getK x 0 (n * 3) k i) 9 = _; rw [h.got_put hk hi (hu i hi)]; exact wText_put rfl, List.take_of_length_le (by show d.size ≤ _; exact hn)]
omit h in
/-- Another update's chunk instead. -/
theorem all_other {a : Nat} (ha : a < n) (h1 : 1 ≤ k) (s : ByteArray) (hs : s.size ≤ 1) : allU (fun i => isW (getK (x.laid (0 + a * szN k) (secF 8 (sealL s)) (szN s.size)) 0 (n * 3) k i) 9) n = false := by
  have h3 := szN_three hk
  have hm : n * szN k ≤ n * 3 := Nat.mul_le_mul_left _ h3
  refine allU_stop _ ha ?_
  show isW (getK _ 0 (n * 3) k a) 9 = _
  rw [getK_put _ 0 (n * 3) k a 8 s (by decide) (by decide) (by omega) (by omega) (chunk_in hm ha) (fun q hq j hj => laid_in x _ _ _ q hq j hj)]
  exact isW_other (by decide)
end
theorem AllSt.of_scans {x : Dk.St} {d : ByteArray} {k n : Nat} {u : Nat → Bool} {B : Nat} (h : AllSt x d k n u B) : AllSt x d k n (firstU n u) B := by
  have e : ∀ i, i < n → firstU n u i = u i := fun i hi => by unfold firstU; rw [decide_eq_true hi]; rfl
  exact ⟨h.on, h.fz, h.len, h.few, h.done, fun i hi hu => h.put i hi ((e i hi).symm.trans hu), fun i hi hu => h.not i hi ((e i hi).symm.trans hu)⟩
theorem AllSt.fresh (d : ByteArray) (k n : Nat) : AllSt (freshSt (n * 3) fun _ => 0) d k n (fun _ => false) 0 :=
  ⟨rfl, rfl, rfl, Nat.le_refl _, Nat.le_refl _, fun _ _ h => (by cases h), fun _ _ _ => (numG_congr (g := fun _ => 0) fun _ _ => rfl).trans Tw.num_zero⟩
theorem AllSt.mono {x : Dk.St} {d : ByteArray} {k n : Nat} {u : Nat → Bool} {B C : Nat} (h : AllSt x d k n u B) (hB : B ≤ C) : AllSt x d k n u C :=
  ⟨h.on, h.fz, h.len, Nat.le_trans h.few hB, Nat.le_trans h.done hB, h.put, h.not⟩
end Sx
end Go.Proofs.YtfpkgcofkgpgnaaDoor
namespace Go.Proofs.YtfpkgcofkgpgnaaDoor
open Go.ChangeShapes Go.WideShapes Go.ChangeAt Go.RowKit Pn Dk Sl Sx

namespace slotAll
theorem run_piece (d : ByteArray) (i j : Nat) (I J : Int) (hI : I = (i : Int)) (hJ : J = (j : Int)) (h1 : i ≤ j) (h2 : j ≤ d.size) (W : World) : (Instr.slice 9 (.string d) (some (.int .i64 I)) (some (.int .i64 J)) none).run Tryd.prog W = .ok (.string (d.extract i j)) W := by
  subst hI hJ
  have := run_slice_string (P := Tryd.prog) W 9 d .i64 .i64 (i : Int) (j : Int) Tryd.underlying9 (by omega) (by omega) (by omega)
  simpa using this
def exS : ByteArray := ⟨#[120]⟩
/-- What stands there between the calls. -/
structure St (w wr : World) (D S Z : Nat) (x : Dk.St) (d : ByteArray) (k n c : Nat) (u : Nat → Bool) (B : Nat) (fs : List (Nat × Obj)) : Prop where
  zn : Zn w wr D x fs
  slot : (S, slobj Z k c) ∈ fs
  zone : (Z, zobj D 0 (n * 3)) ∈ fs
  all : AllSt x d k n u B
section
variable {w wr : World} {D S Z : Nat} {x : Dk.St} {d : ByteArray} {k n c : Nat} {u : Nat → Bool} {B : Nat} {fs : List (Nat × Obj)} (h : St w wr D S Z x d k n c u B fs) (hT : Tabs w) (h1 : 1 ≤ k) (h2 : k ≤ 40) (hc : c * szN k ≤ n * 3) (hn : n ≤ c)
include h hT h1 h2 hc hn
theorem St.put (hB : B ≤ 100000) (a : Nat) (ha : a < n) (num : Nat) (hn1 : 1 ≤ num) (hn2 : num ≤ 9) (s : ByteArray) (hs : s.size ≤ k) :
    Calls Tryd.prog 10 #[.pointer (some ⟨S, 0, none⟩), .int .i64 (a : Int), .int .i64 (num : Int), .string s] wr fun e w' => e = .returned (.int .i64 0) ∧ Zn w w' D (x.laid (0 + a * szN k) (secF num (sealL s)) (szN s.size)) fs := by
  have hl := h.all.few
  have hd := h.all.done
  exact h.zn.sput h.slot h.zone hT h.all.on (by rw [h.all.len]; omega) h1 (by omega) hc h.all.fz (by omega) (by omega) num s hn1 (by omega) hs a (by omega)
theorem St.putP (hB : B ≤ 100000) (a : Nat) (ha : a < n) :
    Calls Tryd.prog 10 #[.pointer (some ⟨S, 0, none⟩), .int .i64 (a : Int), .int .i64 9, .string (piece d k a)] wr fun e w' => e = .returned (.int .i64 0) ∧ ∃ y, St w w' D S Z y d k n c (Bt.upd u a true) (B + 3) fs := by
  refine (h.put hT h1 h2 hc hn hB a ha 9 (by decide) (by decide) (piece d k a) (piece_size d k a)).mono ?_
  rintro e w' ⟨rfl, h3⟩
  exact ⟨rfl, _, h3, h.slot, h.zone, h.all.next h2 ha⟩
theorem St.scan (hc4 : c ≤ 64) (hn1 : 1 ≤ n) :
    Calls Tryd.prog 14 #[.pointer (some ⟨S, 0, none⟩), .int .i64 9, .int .i64 (n : Int)] wr fun e w' => ∃ b, e = .returned (.tuple #[.pointer (some ⟨b, 0, none⟩), .int .i64 0]) ∧ w.heap.size ≤ b ∧ (∀ z ∈ fs, z.1 ≠ b) ∧ St w w' D S Z x d k n c (firstU n u) B ((b, Bt.sobj n (firstU n u)) :: fs) := by
  refine (h.zn.scan h.slot h.zone hT h.all.on (by rw [h.all.len]; omega) h1 (by omega) hc 9 n hn1 hn (by omega)).mono ?_
  rw [h.all.scans h2]
  rintro e w' ⟨b, rfl, g1, g2, g3⟩
  exact ⟨b, rfl, g1, g2, g3, List.mem_cons_of_mem _ h.slot, List.mem_cons_of_mem _ h.zone, h.all.of_scans⟩
theorem St.allOf (hc4 : c ≤ 64) (hn1 : 1 ≤ n) (v : Bool) (hv : allU (fun i => isW (getK x 0 (n * 3) k i) 9) n = v) :
    Calls Tryd.prog 16 #[.pointer (some ⟨S, 0, none⟩), .int .i64 9, .int .i64 (n : Int)] wr fun e w' => e = .returned (.tuple #[.string (if v = true then ⟨(catL (fun i => wText (getK x 0 (n * 3) k i) 9) n).toArray⟩ else ⟨#[]⟩), .int .i64 (if v = true then 0 else 5)]) ∧ St w w' D S Z x d k n c u B fs := by
  refine (h.zn.sall h.slot h.zone hT h.all.on (by rw [h.all.len]; omega) h1 (by omega) hc 9 n hn1 hn (by omega) v hv).mono ?_
  rintro e w' ⟨rfl, h3⟩
  exact ⟨rfl, h3, h.slot, h.zone, h.all⟩
end
theorem St.mono {w wr : World} {D S Z : Nat} {x : Dk.St} {d : ByteArray} {k n c : Nat} {u : Nat → Bool} {B C : Nat} {fs : List (Nat × Obj)} (h : St w wr D S Z x d k n c u B fs) (hB : B ≤ C) : St w wr D S Z x d k n c u C fs := ⟨h.zn, h.slot, h.zone, h.all.mono hB⟩
/-- What the walk reckons for a piece. -/
theorem cutting (d : ByteArray) (k n y : Nat) (hk : k ≤ 40) (hy : y < n) (hn : n ≤ 20) (hd : (n - 1) * k < d.size) : ∃ pI hI : Int, IntKind.i64.wrap ((y : Int) * (k : Int)) = pI ∧ 0 ≤ pI ∧ pI ≤ 800 ∧ min (pI + (k : Int)) (d.size : Int) = hI ∧ 0 ≤ hI ∧ hI ≤ 900 ∧ ∀ W, (Instr.slice 9 (.string d) (some (.int .i64 pI)) (some (.int .i64 hI)) none).run Tryd.prog W = .ok (.string (piece d k y)) W := by
  have h1 : y * k ≤ 20 * 40 := Nat.mul_le_mul (by omega) hk
  have h2 : y * k ≤ (n - 1) * k := Nat.mul_le_mul_right _ (by omega)
  have h3 : (y : Int) * (k : Int) = ((y * k : Nat) : Int) := (Int.natCast_mul y k).symm
  refine ⟨((y * k : Nat) : Int), ((min (y * k + k) d.size : Nat) : Int), (IntWalk.i64_in _ (by rw [h3]; omega)).trans h3, by omega, by omega, by omega, by omega, by omega, ?_⟩
  exact run_piece d (y * k) (min (y * k + k) d.size) _ _ rfl rfl (by omega) (by omega)
set_option maxRecDepth 100000 in
set_option maxHeartbeats 6400000 in
theorem walk (w : World) (d : ByteArray) (sz : Int) (A : Option Addr) (len cap : Nat) (xs : Nat → Int) (oth : Int) (hd : d.size ≤ maxLen) (hX : 0 < len → ∃ pb po, A = some ⟨pb, po, none⟩ ∧ ∀ k, k < len → w.cell? ⟨pb, po + k, none⟩ = some (.int .i64 (xs k))) (hT : Tabs w) :
    Calls Tryd.prog 4 #[.string d, .int .i64 sz, .slice A len cap, .int .i64 oth] w fun e w' => e = .returned (.bool true) ∧ Below w.heap.size w w' := by
  have HAW := Lib.hid (awake09 w hT)
  unfold maxLen at hd
  obtain ⟨j, hj, hx⟩ := Bt.cut_u64 sz 40 (by omega)
  have hw := Bt.wrap_u64_ge sz
  have hx2 : (IntKind.u64.wrap sz).tmod 40 = (j : Int) := by rw [Int.tmod_eq_emod_of_nonneg hw]; exact hx
  obtain ⟨k, hk⟩ : ∃ k, k = 1 + j := ⟨_, rfl⟩
  have ek : 1 + (j : Int) = (k : Int) := by omega
  have hk1 : 1 ≤ k := by omega
  have hk2 : k ≤ 40 := by omega
  have hj0 : 0 ≤ (j : Int) := by omega
  have hj1 : (j : Int) < 40 := by omega
  have hdi : (d.size : Int) ≤ 9223372036854775807 := by omega
  clear hx hj hk
  by_cases c1 : 200 < d.size
  · have t1 : decide ((200 : Int) < (d.size : Int)) = true := decide_eq_true (by omega)
    have t1' : (200 : Int) < (d.size : Int) := by omega
    clear hX hT
    go_enter Tryd.func4, Tryd.ntmps4
    go_wp2_with (fail)
    refine HAW.out.mono ?_
    rintro e w1 ⟨rfl, b1⟩
    have B1 := Lib.hid b1
    clear b1
    go_wp2_with (fail)
    exact bodyPost_ret (results_tmp rfl _ _ _) rfl ⟨rfl, B1.out⟩
  have t1 : decide ((200 : Int) < (d.size : Int)) = false := decide_eq_false (by omega)
  by_cases c2 : d.size = 0
  · have t2 : ((d.size : Int) == 0) = true := beq_iff_eq.2 (by omega)
    clear hX hT
    go_enter Tryd.func4, Tryd.ntmps4
    go_wp2_with (fail)
    refine HAW.out.mono ?_
    rintro e w1 ⟨rfl, b1⟩
    have B1 := Lib.hid b1
    clear b1
    go_wp2_with (fail)
    exact bodyPost_ret (results_tmp rfl _ _ _) rfl ⟨rfl, B1.out⟩
  have t2 : ((d.size : Int) == 0) = false := beq_eq_false_iff_ne.2 (by omega)
  obtain ⟨n, hn⟩ : ∃ n, n = (d.size + k - 1) / k := ⟨_, rfl⟩
  have en : ((d.size : Int) + (k : Int) - 1).tdiv (k : Int) = (n : Int) := by
    rw [show (d.size : Int) + (k : Int) - 1 = ((d.size + k - 1 : Nat) : Int) by omega, hn]
    exact (Int.ofNat_tdiv _ _).symm
  have k0 : ((k : Int) == 0) = false := beq_eq_false_iff_ne.2 (by omega)
  have k1 : 1 ≤ (k : Int) := by omega
  have k2 : (k : Int) ≤ 40 := by omega
  have d1 : (d.size : Int) ≤ 200 := by omega
  have hdn : d.size ≤ n * k := by
    have h1 := Nat.div_add_mod (d.size + k - 1) k
    have h2 := Nat.mod_lt (d.size + k - 1) (show 0 < k by omega)
    rw [← hn, Nat.mul_comm] at h1
    omega
  have hn1 : 1 ≤ n := by
    rcases Nat.eq_zero_or_pos n with h | h
    · rw [h, Nat.zero_mul] at hdn
      omega
    · exact h
  have hnm : (n - 1) * k < d.size := by
    have h1 := Nat.div_add_mod (d.size + k - 1) k
    rw [← hn, Nat.mul_comm] at h1
    obtain ⟨m, rfl⟩ : ∃ m, n = m + 1 := ⟨n - 1, by omega⟩
    rw [Nat.succ_mul] at h1
    rw [Nat.add_sub_cancel]
    omega
  have HN := Lib.hid hn
  clear hn
  by_cases c3 : 20 < n
  · have t3 : decide ((20 : Int) < (n : Int)) = true := decide_eq_true (by omega)
    have t3' : (20 : Int) < (n : Int) := by omega
    have n200 : (n : Int) ≤ 201 := by
      have h1 := Nat.mul_le_mul_left (n - 1) hk1
      omega
    clear hX hT
    go_enter Tryd.func4, Tryd.ntmps4
    go_wp2_with (fail)
    refine HAW.out.mono ?_
    rintro e w1 ⟨rfl, b1⟩
    have B1 := Lib.hid b1
    clear b1
    go_wp2_with (fail)
    exact bodyPost_ret (results_tmp rfl _ _ _) rfl ⟨rfl, B1.out⟩
  have t3 : decide ((20 : Int) < (n : Int)) = false := decide_eq_false (by omega)
  have hn2 : n ≤ 20 := by omega
  have n1 : 1 ≤ (n : Int) := by omega
  have n2 : (n : Int) ≤ 20 := by omega
  have hs3 := szN_three hk2
  have hs2 := szN_two k
  have hck := chunks_fit (n * 3) k
  have hcn : n ≤ chunksN (n * 3) k := by
    unfold chunksN
    have h1 : n ≤ n * 3 / szN k := (Nat.le_div_iff_mul_le (by omega)).2 (Nat.mul_le_mul_left _ hs3)
    omega
  have hc64 : chunksN (n * 3) k ≤ 64 := Nat.min_le_right ..
  have hsz : szN k ≤ n * 3 := by omega
  generalize hch : chunksN (n * 3) k = c at hck hcn hc64
  have HCH := Lib.hid hch
  have HSZ := Lib.hid hsz
  have cn0 : ¬ (c : Int) < (n : Int) := by omega
  have cn1 : decide ((c : Int) < (n : Int)) = false := decide_eq_false cn0
  have cn2 : decide (c < n) = false := decide_eq_false (by omega)
  clear hch
  have HT := Lib.hid hT
  have HX := Lib.hid hX
  have HB := Lib.hid (And.intro hk1 (And.intro hk2 (And.intro hck (And.intro hcn (And.intro hc64 (And.intro hn1 (And.intro hn2 (And.intro hdn hnm))))))))
  clear hd hX hT c1 c2 c3 hdn hnm hs3 hs2
  go_enter Tryd.func4, Tryd.ntmps4
  go_wp2_with (fail)
  refine HAW.out.mono ?_
  rintro e w1 ⟨rfl, b1⟩
  have B1 := Lib.hid b1
  clear b1 HAW
  go_wp2_with (fail)
  clear t1 t2 t3 hx2 hw ek hj0 hj1
  refine (at_new w w1 B1.out _ (n * 3) (by omega)).mono ?_
  rintro e w2 ⟨D, rfl, h2⟩
  have H2 := Lib.hid (show Zn w w2 D (freshSt (n * 3) fun _ => 0) [] from Zn.of_at h2)
  clear h2 B1
  go_wp2_with (fail)
  have ho := Zn.opened w w2 D (freshSt (n * 3) fun _ => 0) [] H2.out k hk1 (by omega) HSZ.out
  rw [show chunksN (freshSt (n * 3) fun _ => 0).n k = c from HCH.out] at ho
  have HO := Lib.hid ho
  clear ho H2
  refine HO.out.mono ?_
  rintro e w3 ⟨S, Z, rfl, g3, h3⟩
  have H3 := Lib.hid (show St w w3 D S Z (freshSt (n * 3) fun _ => 0) d k n c (fun _ => false) 0 [(S, slobj Z k c), (Z, zobj D 0 (n * 3))] from ⟨h3, List.mem_cons_self .., List.mem_cons_of_mem _ (List.mem_cons_self ..), AllSt.fresh d k n⟩)
  clear h3 HO HSZ HCH
  go_wp2_with (fail)
  refine (slot_chunks w3 S Z k c (H3.out.zn.fix _ H3.out.slot)).mono ?_
  rintro e w4 ⟨rfl, rfl⟩
  have HM := Lib.hid (And.intro H3.out.slot H3.out.zone)
  obtain ⟨fs, hfs⟩ : ∃ fs, fs = [(S, slobj Z k c), (Z, zobj D 0 (n * 3))] := ⟨_, rfl⟩
  rw [← hfs] at H3 HM
  clear hfs
  go_upto_block 0 with (fail)
  clear cn0 cn1 cn2
  go_cut [14, 15] (fun _ _ wx => ∃ (u : Nat → Bool) (x : Dk.St), St w wx D S Z x d k n c u 1000 fs)
  case first =>
    go_wp2_with (fail)
    go_loopg [14] 31 (fun gk vi wr => ∃ (i : Nat) (u : Nat → Bool) (x : Dk.St), gk = 31 - i ∧ i ≤ 30 ∧ vi = .int .i64 (i : Int) ∧ St w wr D S Z x d k n c u (3 * i) fs)
    case atStart => exact ⟨0, _, _, rfl, by omega, rfl, H3.out⟩
    case round =>
      clear H3
      obtain ⟨i, u, x, hgk, hi, rfl, h⟩ := hrel
      have HGK := Lib.hid hgk
      have H := Lib.hid h
      clear hgk h
      have i0 : 0 ≤ (i : Int) := by omega
      by_cases hlt : i < len ∧ i < 30
      · have x0 : (i : Int) < (len : Int) := by omega
        have x1 : decide ((i : Int) < (len : Int)) = true := decide_eq_true x0
        have y0 : (i : Int) < 30 := by omega
        have y1 : decide ((i : Int) < 30) = true := decide_eq_true y0
        obtain ⟨pb, po, rfl, hc⟩ := HX.out (by omega)
        have hcell := (H.out.zn.below.cell (p := ⟨pb, po + i, none⟩) (block_lt_of_cell (hc i hlt.1))).trans (hc i hlt.1)
        obtain ⟨y, hy, hxy⟩ := Bt.cut_u64 (xs i) n (by omega)
        have hw := Bt.wrap_u64_ge (xs i)
        have hxy2 : (IntKind.u64.wrap (xs i)).tmod (n : Int) = (y : Int) := by rw [Int.tmod_eq_emod_of_nonneg hw]; exact hxy
        obtain ⟨b1, b2, b3, b4, b5, b6, b7, b8, b9⟩ := HB.out
        obtain ⟨pI, hI, e1, e2, e3, e4, e5, e6, hsl⟩ := cutting d k n y b2 hy b7 b9
        have HP := Lib.hid (H.out.putP HT.out b1 b2 b3 b4 (by omega) y hy)
        have y2 : 0 ≤ (y : Int) := by omega
        have y3 : (y : Int) < 20 := by omega
        clear hc hlt hxy hy b1 b2 b3 b4 b5 b6 b7 b8 b9
        generalize xs i = xi at hcell hw hxy2
        generalize piece d k y = pc at hsl HP
        go_wp2_with (fail)
        refine HP.out.mono ?_
        rintro e w5 ⟨rfl, x', h5⟩
        have H5 := Lib.hid h5
        clear h5 HP
        go_wp2_with (fail)
        go_roundg (31 - (i + 1))
        case measure => have := HGK.out; omega
        case rel => exact ⟨i + 1, _, x', rfl, by omega, rfl, H5.out.mono (by omega)⟩
      · by_cases hll : i < len
        · have x0 : (i : Int) < (len : Int) := by omega
          have x1 : decide ((i : Int) < (len : Int)) = true := decide_eq_true x0
          have y0 : ¬ (i : Int) < 30 := by omega
          have y1 : decide ((i : Int) < 30) = false := decide_eq_false y0
          clear hlt
          go_wp2_with (fail)
          go_meet
          exact ⟨u, x, H.out.mono (by omega)⟩
        · have x0 : ¬ (i : Int) < (len : Int) := by omega
          have x1 : decide ((i : Int) < (len : Int)) = false := decide_eq_false x0
          clear hlt
          go_wp2_with (fail)
          go_meet
          exact ⟨u, x, H.out.mono (by omega)⟩
  case rest =>
    clear H3
    obtain ⟨u, x, h⟩ := hcut
    have H := Lib.hid h
    obtain ⟨b1, b2, b3, b4, b5, b6, b7, b8, b9⟩ := HB.out
    have HSC := Lib.hid (h.scan HT.out b1 b2 b3 b4 b5 b6)
    clear h b1 b2 b3 b4 b5 b6 b7 b8 b9 H
    go_wp2_with (fail)
    refine HSC.out.mono ?_
    rintro e w5 ⟨b, rfl, g1, g2, h5⟩
    have H5 := Lib.hid h5
    have G := Lib.hid (And.intro g1 g2)
    clear h5 g1 g2 HSC
    generalize firstU n u = u at H5
    go_wp2_with (fail)
    go_loopg [18] (n - Bt.cnt u n) (fun gk _ wr => ∃ (u : Nat → Bool) (x : Dk.St), gk = n - Bt.cnt u n ∧ St w wr D S Z x d k n c u (1000 + 3 * Bt.cnt u n) ((b, Bt.sobj n u) :: fs))
    case atStart => exact ⟨u, x, rfl, H5.out.mono (by omega)⟩
    case round =>
      clear H5
      obtain ⟨u, x, hgk, h⟩ := hrel
      have HGK := Lib.hid hgk
      have H := Lib.hid h
      clear hgk
      have HFS := Lib.hid (h.zn.bfirst (b := b) (List.mem_cons_self ..) (show n ≤ 1024 by have := HB.out; omega))
      clear h
      rcases Bt.fstB_or n u with ⟨f, hfk, hf, huf, hbe⟩ | ⟨hf, hall⟩
      · rw [hf] at HFS
        have f0 : 0 ≤ (f : Int) := by omega
        have f1 : decide (0 ≤ (f : Int)) = true := decide_eq_true f0
        have f2 : (f : Int) < 20 := by have := HB.out; omega
        have HFK := Lib.hid (And.intro hfk (And.intro huf hf))
        obtain ⟨b1, b2, b3, b4, b5, b6, b7, b8, b9⟩ := HB.out
        obtain ⟨pI, hI, e1, e2, e3, e4, e5, e6, hsl⟩ := cutting d k n f b2 hfk b7 b9
        have HPC := Lib.hid (show piece d k f = piece d k f from rfl)
        clear hf huf hbe hfk b1 b2 b3 b4 b5 b6 b7 b8 b9
        go_wp2_with (fail)
        refine HFS.out.mono ?_
        rintro e w6 ⟨rfl, h6⟩
        have hfs6 := h6.bfirst (b := b) (List.mem_cons_self ..) (show n ≤ 1024 by have := HB.out; omega)
        rw [HFK.out.2.2] at hfs6
        have HFS6 := Lib.hid hfs6
        clear h6 hfs6 HFS
        go_wp2_with (fail)
        refine HFS6.out.mono ?_
        rintro e w7 ⟨rfl, h7⟩
        have HAL := Lib.hid (St.allOf (u := u) (wr := w7) ⟨h7, H.out.slot, H.out.zone, H.out.all⟩ HT.out HB.out.1 HB.out.2.1 HB.out.2.2.1 HB.out.2.2.2.1 HB.out.2.2.2.2.1 HB.out.2.2.2.2.2.1 false (H.out.all.all_not HB.out.2.1 HFK.out.1 HFK.out.2.1))
        clear h7 HFS6 H
        go_wp2_with (fail)
        refine HAL.out.mono ?_
        rintro e w8 ⟨rfl, h8⟩
        simp only [Bool.false_eq_true, if_false]
        have hcl := Bt.cnt_le u n
        have HP := Lib.hid (h8.putP HT.out HB.out.1 HB.out.2.1 HB.out.2.2.1 HB.out.2.2.2.1 (by have := HB.out; omega) f HFK.out.1)
        clear h8 HAL hcl
        generalize piece d k f = pc at hsl HP
        go_wp2_with (fail)
        refine HP.out.mono ?_
        rintro e w9 ⟨rfl, x', h9⟩
        have HAD := Lib.hid (h9.zn.badd G.out.1 G.out.2 (show n ≤ 1024 by have := HB.out; omega) HFK.out.1)
        have HA9 := Lib.hid h9.all
        clear h9 HP
        go_wp2_with (fail)
        refine HAD.out.mono ?_
        rintro e w10 ⟨rfl, h10⟩
        have HCM := Lib.hid (Bt.cnt_more u HFK.out.2.1 n HFK.out.1)
        have H10 := Lib.hid (show St w w10 D S Z x' d k n c (Bt.upd u f true) (1000 + 3 * Bt.cnt (Bt.upd u f true) n) ((b, Bt.sobj n (Bt.upd u f true)) :: fs) from ⟨h10, List.mem_cons_of_mem _ HM.out.1, List.mem_cons_of_mem _ HM.out.2, HA9.out.mono (by rw [HCM.out]; omega)⟩)
        clear h10 HAD HA9
        go_wp2_with (fail)
        go_roundg (n - Bt.cnt (Bt.upd u f true) n)
        case measure => have h1 := HGK.out; have h2 := HCM.out; have h3 := Bt.cnt_lt HFK.out.1 HFK.out.2.1; omega
        case rel => exact ⟨Bt.upd u f true, x', rfl, H10.out⟩
      · rw [hf] at HFS
        have f1 : decide (0 ≤ (-1 : Int)) = false := rfl
        have HA := Lib.hid hall
        clear hall hf
        go_wp2_with (fail)
        refine HFS.out.mono ?_
        rintro e w6 ⟨rfl, h6⟩
        have hct := H.out.all.cat HB.out.2.1 HA.out HB.out.2.2.2.2.2.2.2.1
        have hal := St.allOf (u := u) (wr := w6) ⟨h6, H.out.slot, H.out.zone, H.out.all⟩ HT.out HB.out.1 HB.out.2.1 HB.out.2.2.1 HB.out.2.2.2.1 HB.out.2.2.2.2.1 HB.out.2.2.2.2.2.1 true (H.out.all.all_put HB.out.2.1 HA.out)
        rw [if_pos rfl, if_pos rfl, hct] at hal
        have HAL := Lib.hid hal
        clear h6 HFS H hct hal
        go_wp2_with (fail)
        refine HAL.out.mono ?_
        rintro e w7 ⟨rfl, h7⟩
        have H7 := Lib.hid h7
        clear h7 HAL
        have q1 : (d.toList != d.toList) = false := bne_self_eq_false _
        obtain ⟨y, hy, hxy⟩ := Bt.cut_u64 oth n (by have := HB.out; omega)
        have hw := Bt.wrap_u64_ge oth
        have hxy2 : (IntKind.u64.wrap oth).tmod (n : Int) = (y : Int) := by rw [Int.tmod_eq_emod_of_nonneg hw]; exact hxy
        have y2 : 0 ≤ (y : Int) := by omega
        have y3 : (y : Int) < 20 := by have := HB.out; omega
        have hcl := Bt.cnt_le u n
        have HP := Lib.hid (H7.out.put HT.out HB.out.1 HB.out.2.1 HB.out.2.2.1 HB.out.2.2.2.1 (by have := HB.out; omega) y hy 8 (by decide) (by decide) exS HB.out.1)
        have HY := Lib.hid hy
        clear hxy hy hcl
        go_wp2_with (fail)
        refine HP.out.mono ?_
        rintro e w8 ⟨rfl, h8⟩
        have HAL2 := Lib.hid (h8.sall (S := S) (Z := Z) (f := 0) (nz := n * 3) H7.out.slot H7.out.zone HT.out ((laid_away _ _ _ _).trans H7.out.all.on) (by rw [laid_n, H7.out.all.len]; omega) HB.out.1 (by have := HB.out; omega) HB.out.2.2.1 9 n HB.out.2.2.2.2.2.1 HB.out.2.2.2.1 (by have := HB.out; omega) false (all_other HB.out.2.1 HY.out HB.out.1 exS (by decide)))
        clear h8 HP H7
        go_wp2_with (fail)
        refine HAL2.out.mono ?_
        rintro e w9 ⟨rfl, h9⟩
        simp only [Bool.false_eq_true, if_false]
        go_wp2_with (fail)
        refine bodyPost_ret (results_tmp rfl _ _ _) rfl ?_
        exact ⟨rfl, h9.below⟩
end slotAll
end Go.Proofs.YtfpkgcofkgpgnaaDoor
