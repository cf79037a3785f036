/-
  Sealed texts in plain words: their bytes, their sectors, and what is got of sectors. No program's function here. No conditions.
  A slice of one element of many cells, made by its literal. No program here. No conditions.
  Package seal: Size, sectorsOf, numberOf, sealed. Conditions: both tables of sums lie as the program's text lays them; a text of at most 1024 bytes; a sector of 32.
  Package seal: join, gather, Get. Conditions: the zone stands in its block, its disk in blocks of its own, the power is there; both tables of sums lie as the program's text lays them.
  Package seal: Get. Conditions: the zone stands in its block, its disk in blocks of its own; both tables of sums lie as the program's text lays them.
  Package seal: Lay. Conditions: both tables of sums lie as the program's text lays them.
  Package seal: Put. Conditions: the zone stands in its block; both tables of sums lie as the program's text lays them.
  Texts laid on a disk, sector by sector; what is found there behind a loss of power; of two texts, mixed, nothing is got but one of both. No program here. No conditions.
  Package seal over a disk of blocks that weren't there at the beginning: Put without a fuse, Get. Conditions: the power is there; few writes; both tables of sums lie as the program's text lays them.
-/
import Derived.Test.YtnmgkkjnjllpbaaGreatDoorMg7
import Derived.Test.YtnmgkkjnjllpbaaGreatDoorMg5
import Derived.Test.YtnmgkkjnjllpbaaGreatDoorMg3
import Derived.Test.YtnmgkkjnjllpbaaGreatDoorMg1
import Derived.Test.YtnmgkkjnjllpbaaGreatDoorMg4
import Derived.Test.YtnmgkkjnjllpbaaGreatDoorMg6
import Derived.Great.Walk
import Derived.Deep.RegionHeld3
import Derived.Deep.AppendLies
set_option maxRecDepth 100000
namespace Go.Proofs.YtnmgkkjnjllpbaaGreatDoor
open Go Go.RowKit Pn Dk
namespace Sl

/-- How many sectors a text of so many bytes has. -/
def szN (k : Nat) : Nat := (36 + k + 27) / 28
theorem szN_le (k : Nat) : 36 + k ≤ 28 * szN k := by unfold szN; omega
theorem szN_lt (k : Nat) : 28 * szN k < 36 + k + 28 := by unfold szN; omega
theorem szN_two (k : Nat) : 2 ≤ szN k := by unfold szN; omega
theorem szN_max (k : Nat) (h : k ≤ 1024) : szN k ≤ 38 := by unfold szN; omega
/-- All behind the sum; all. -/
def bodyL (s : ByteArray) : List UInt8 := textL s ++ List.replicate (28 * szN s.size - 36 - s.size) 0
def sealL (s : ByteArray) : List UInt8 := digL (sumF (bodyL s)) ++ bodyL s
theorem bodyL_length (s : ByteArray) : (bodyL s).length = 28 * szN s.size - 32 := by
  unfold bodyL
  rw [List.length_append, textL_length, List.length_replicate]
  have := szN_le s.size
  omega
theorem sealL_length (s : ByteArray) : (sealL s).length = 28 * szN s.size := by
  unfold sealL
  rw [List.length_append, digL_length, bodyL_length]
  have := szN_le s.size
  omega
/-- The sector i of bytes L, with the number n. -/
def secF (n : Nat) (L : List UInt8) (i j : Nat) : UInt8 := if j < 28 then L.getD (28 * i + j) 0 else numF (n : Int) (j - 28)

/-- The number that four bytes tell. -/
def vN (a b c d : UInt8) : Nat := a.toNat + 256 * b.toNat + 65536 * c.toNat + 16777216 * d.toNat
theorem vN_lt (a b c d : UInt8) : vN a b c d < 4294967296 := by
  unfold vN
  have := a.toNat_lt
  have := b.toNat_lt
  have := c.toNat_lt
  have := d.toNat_lt
  omega
theorem numV_nat (n : Nat) (h : n ≤ 4294967295) : numV (n : Int) = n := by
  have := numV_ok (n := (n : Int)) (num_ok (by omega) (by omega))
  omega
theorem numF_nat (n j : Nat) (h : n ≤ 4294967295) : numF (n : Int) j = UInt8.ofNat (n / 256 ^ j) := by unfold numF; rw [numV_nat n h]
theorem vN_num (n : Nat) (h : n ≤ 4294967295) : vN (numF (n : Int) 0) (numF (n : Int) 1) (numF (n : Int) 2) (numF (n : Int) 3) = n := by
  rw [numF_nat _ _ h, numF_nat _ _ h, numF_nat _ _ h, numF_nat _ _ h]
  unfold vN
  simp only [UInt8.toNat_ofNat']
  omega
theorem num_of_vN (a b c d : UInt8) : numF ((vN a b c d : Nat) : Int) 0 = a ∧ numF ((vN a b c d : Nat) : Int) 1 = b ∧ numF ((vN a b c d : Nat) : Int) 2 = c ∧ numF ((vN a b c d : Nat) : Int) 3 = d := by
  have hl := vN_lt a b c d
  have ha := a.toNat_lt
  have hb := b.toNat_lt
  have hc := c.toNat_lt
  have hd := d.toNat_lt
  refine ⟨?_, ?_, ?_, ?_⟩ <;>
  · rw [numF_nat _ _ (by omega)]
    apply UInt8.toNat_inj.1
    rw [UInt8.toNat_ofNat']
    unfold vN
    omega
/-- A sector's number; 0, if it can't be. -/
def numG (g : Nat → UInt8) : Nat := if vN (g 28) (g 29) (g 30) (g 31) ≤ 2147483647 then vN (g 28) (g 29) (g 30) (g 31) else 0
theorem numG_le (g : Nat → UInt8) : numG g ≤ 2147483647 := by unfold numG; split <;> omega
theorem numG_sec (n : Nat) (L : List UInt8) (i : Nat) (h : n ≤ 2147483647) : numG (secF n L i) = n := by
  have e : vN (secF n L i 28) (secF n L i 29) (secF n L i 30) (secF n L i 31) = n := vN_num n (by omega)
  unfold numG
  rw [e, if_pos h]
theorem numG_congr {f g : Nat → UInt8} (h : ∀ j, j < 32 → f j = g j) : numG f = numG g := by
  unfold numG
  rw [h 28 (by omega), h 29 (by omega), h 30 (by omega), h 31 (by omega)]
theorem num_bytes {g : Nat → UInt8} (h : 1 ≤ numG g) (j : Nat) (hj : j < 4) : g (28 + j) = numF ((numG g : Nat) : Int) j := by
  have e : numG g = vN (g 28) (g 29) (g 30) (g 31) := by
    unfold numG at h ⊢
    split
    · rfl
    · rename_i hn
      rw [if_neg hn] at h
      omega
  rw [e]
  obtain ⟨h0, h1, h2, h3⟩ := num_of_vN (g 28) (g 29) (g 30) (g 31)
  match j, hj with
  | 0, _ => exact h0.symm
  | 1, _ => exact h1.symm
  | 2, _ => exact h2.symm
  | 3, _ => exact h3.symm

section
variable (rd : Nat → Nat → UInt8) (n p num : Nat)
/-- Whether the first k sectors from p on are places, with this number; their bytes. -/
def jnOk : Nat → Bool
  | 0 => true
  | k + 1 => jnOk k && (decide (p + k < n) && (numG (rd (p + k)) == num))
def jnL : Nat → List UInt8
  | 0 => []
  | k + 1 => jnL k ++ (List.range 28).map (rd (p + k))
theorem jnOk_iff : ∀ k, jnOk rd n p num k = true ↔ ∀ i, i < k → p + i < n ∧ numG (rd (p + i)) = num
  | 0 => by simp [jnOk]
  | k + 1 => by
    unfold jnOk
    rw [Bool.and_eq_true, Bool.and_eq_true, decide_eq_true_iff, beq_iff_eq, jnOk_iff k]
    constructor
    · rintro ⟨h1, h2⟩ i hi
      by_cases he : i = k
      · subst he; exact h2
      · exact h1 i (by omega)
    · exact fun h => ⟨fun i hi => h i (by omega), h k (by omega)⟩
theorem jnOk_next (k : Nat) (h : jnOk rd n p num k = true) (hp : p + k < n) (hn : numG (rd (p + k)) = num) : jnOk rd n p num (k + 1) = true := by
  unfold jnOk; rw [h, decide_eq_true hp, hn, beq_self_eq_true]; rfl
theorem jnOk_stop {k c : Nat} (hk : k < c) (h : ¬ (p + k < n ∧ numG (rd (p + k)) = num)) : jnOk rd n p num c = false := by
  rw [Bool.eq_false_iff]
  exact fun hc => h ((jnOk_iff rd n p num c).1 hc k hk)
theorem jnL_length : ∀ k, (jnL rd p k).length = 28 * k
  | 0 => rfl
  | k + 1 => by unfold jnL; rw [List.length_append, jnL_length k]; simp; omega
theorem jnL_get : ∀ k i j, i < k → j < 28 → (jnL rd p k).getD (28 * i + j) 0 = rd (p + i) j
  | 0, _, _, h, _ => absurd h (Nat.not_lt_zero _)
  | k + 1, i, j, h, hj => by
    have hl := jnL_length rd p k
    unfold jnL
    rw [List.getD_eq_getElem?_getD]
    by_cases he : i = k
    · subst he
      rw [List.getElem?_append_right (by omega), hl, show 28 * i + j - 28 * i = j by omega]
      simp [hj]
    · rw [List.getElem?_append_left (by omega), ← List.getD_eq_getElem?_getD]
      exact jnL_get k i j (by omega) hj
theorem jnL_eq (L : List UInt8) (k : Nat) (hL : L.length = 28 * k) (h : ∀ i, i < k → ∀ j, j < 28 → rd (p + i) j = L.getD (28 * i + j) 0) : jnL rd p k = L := by
  have hl := jnL_length rd p k
  apply List.ext_getElem (by omega)
  intro q h1 h2
  have e1 := jnL_get rd p k (q / 28) (q % 28) (by omega) (by omega)
  rw [show 28 * (q / 28) + q % 28 = q by omega, h (q / 28) (by omega) (q % 28) (by omega), show 28 * (q / 28) + q % 28 = q by omega] at e1
  rw [List.getD_eq_getElem?_getD, List.getD_eq_getElem?_getD, List.getElem?_eq_getElem h1, List.getElem?_eq_getElem h2] at e1
  exact e1
/-- The text's length, as it is told; whether a text stands there, whole; its bytes. -/
def lenV : Nat := vN (rd (p + 1) 4) (rd (p + 1) 5) (rd (p + 1) 6) (rd (p + 1) 7)
def okG : Bool := decide (1 ≤ numG (rd p)) && (jnOk rd n p (numG (rd p)) 2 && (decide (lenV rd p ≤ 1024) && jnOk rd n p (numG (rd p)) (szN (lenV rd p))))
def allG : List UInt8 := jnL rd p (szN (lenV rd p))
def textG : ByteArray := ⟨(((allG rd p).drop 36).take (lenV rd p)).toArray⟩
/-- What is got: the text, its number, the error. -/
def getR : ByteArray × Nat × Nat := if okG rd n p = true then (if allG rd p = sealL (textG rd p) then (textG rd p, numG (rd p), 0) else (⟨#[]⟩, 0, 6)) else (⟨#[]⟩, 0, 5)
theorem okG_iff : okG rd n p = true ↔ 1 ≤ numG (rd p) ∧ jnOk rd n p (numG (rd p)) 2 = true ∧ lenV rd p ≤ 1024 ∧ jnOk rd n p (numG (rd p)) (szN (lenV rd p)) = true := by
  unfold okG
  rw [Bool.and_eq_true, Bool.and_eq_true, Bool.and_eq_true, decide_eq_true_iff, decide_eq_true_iff]
end
theorem jnL_congr {rd rd' : Nat → Nat → UInt8} {p p' : Nat} : ∀ k, (∀ i, i < k → ∀ j, j < 32 → rd (p + i) j = rd' (p' + i) j) → jnL rd p k = jnL rd' p' k
  | 0, _ => rfl
  | k + 1, h => by
    unfold jnL
    rw [jnL_congr k fun i hi => h i (by omega)]
    congr 1
    exact List.map_congr_left fun j hj => h k (by omega) j (by have := List.mem_range.1 hj; omega)
theorem jnOk_congr {rd rd' : Nat → Nat → UInt8} {n n' p p' num : Nat} (hn : ∀ i, p + i < n ↔ p' + i < n') : ∀ k, (∀ i, i < k → p + i < n → ∀ j, j < 32 → rd (p + i) j = rd' (p' + i) j) → jnOk rd n p num k = jnOk rd' n' p' num k
  | 0, _ => rfl
  | k + 1, h => by
    unfold jnOk
    rw [jnOk_congr hn k fun i hi => h i (by omega)]
    by_cases hk : p + k < n
    · rw [numG_congr (h k (by omega) hk), decide_eq_true hk, decide_eq_true ((hn k).1 hk)]
    · rw [decide_eq_false hk, decide_eq_false (fun e => hk ((hn k).2 e)), Bool.false_and, Bool.false_and]

/-- What was put is got as it was. -/
theorem len_sealed {rd : Nat → Nat → UInt8} {p num : Nat} {s : ByteArray} (hs : s.size ≤ 1024) (h : ∀ i, i < szN s.size → ∀ j, j < 32 → rd (p + i) j = secF num (sealL s) i j) : lenV rd p = s.size := by
  have h2 := szN_two s.size
  have key : ∀ j, j < 4 → rd (p + 1) (4 + j) = numF (s.size : Int) j := fun j hj => by
    rw [h 1 (by omega) (4 + j) (by omega)]
    unfold secF
    rw [if_pos (by omega)]
    unfold sealL bodyL textL
    rw [List.getD_eq_getElem?_getD, List.getElem?_append_right (by rw [digL_length]; omega), digL_length, show 28 * 1 + (4 + j) - 32 = j by omega, List.getElem?_append_left (by rw [List.length_append, numL_length]; omega), List.getElem?_append_left (by rw [numL_length]; omega)]
    unfold numL
    simp [hj]
  unfold lenV
  rw [show rd (p + 1) 4 = _ from key 0 (by omega), show rd (p + 1) 5 = _ from key 1 (by omega), show rd (p + 1) 6 = _ from key 2 (by omega), show rd (p + 1) 7 = _ from key 3 (by omega)]
  exact vN_num _ (by omega)
theorem text_sealed (s : ByteArray) : ((sealL s).drop 36).take s.size = s.data.toList := by
  unfold sealL bodyL textL
  have e : digL (sumF (numL (s.size : Int) ++ s.data.toList ++ List.replicate (28 * szN s.size - 36 - s.size) 0)) ++ (numL (s.size : Int) ++ s.data.toList ++ List.replicate (28 * szN s.size - 36 - s.size) 0) = (digL (sumF (numL (s.size : Int) ++ s.data.toList ++ List.replicate (28 * szN s.size - 36 - s.size) 0)) ++ numL (s.size : Int)) ++ (s.data.toList ++ List.replicate (28 * szN s.size - 36 - s.size) 0) := by simp only [List.append_assoc]
  rw [e, List.drop_left' (by rw [List.length_append, digL_length, numL_length]), List.take_left' (show s.data.toList.length = s.size from rfl)]
theorem all_sealed {rd : Nat → Nat → UInt8} {p num : Nat} {s : ByteArray} (hs : s.size ≤ 1024) (h : ∀ i, i < szN s.size → ∀ j, j < 32 → rd (p + i) j = secF num (sealL s) i j) : allG rd p = sealL s := by
  unfold allG
  rw [len_sealed hs h]
  refine jnL_eq rd p (sealL s) _ (sealL_length s) fun i hi j hj => ?_
  rw [h i hi j (by omega)]
  unfold secF
  rw [if_pos hj]
theorem got {rd : Nat → Nat → UInt8} {n p num : Nat} {s : ByteArray} (h1 : 1 ≤ num) (h2 : num ≤ 2147483647) (hs : s.size ≤ 1024) (hn : p + szN s.size ≤ n) (h : ∀ i, i < szN s.size → ∀ j, j < 32 → rd (p + i) j = secF num (sealL s) i j) : getR rd n p = (s, num, 0) := by
  have hl := len_sealed hs h
  have ha := all_sealed hs h
  have hz := szN_two s.size
  have hg : ∀ i, i < szN s.size → numG (rd (p + i)) = num := fun i hi => (numG_congr (h i hi)).trans (numG_sec num _ _ h2)
  have hg0 : numG (rd p) = num := hg 0 (by omega)
  have ht : textG rd p = s := by
    unfold textG
    rw [ha, hl, text_sealed]
  have ho : okG rd n p = true := by
    rw [okG_iff, hg0, hl]
    exact ⟨h1, (jnOk_iff _ _ _ _ _).2 fun i hi => ⟨by omega, hg i (by omega)⟩, hs, (jnOk_iff _ _ _ _ _).2 fun i hi => ⟨by omega, hg i hi⟩⟩
  unfold getR
  rw [if_pos ho, ht, ha, if_pos rfl, hg0]
end Sl
end Go.Proofs.YtnmgkkjnjllpbaaGreatDoor
namespace Go.Proofs.YtnmgkkjnjllpbaaGreatDoor
open Go Go.RowKit

theorem wpList_one {P : Program} {ops : Array Oper} {rest : List Oper} {o : Oper} {a : Act} {w : World} {Q : Exit → Act → World → Prop} (hg : o.guard = none) (t e : TypeId) (x : Operand) (ho : o.op = .buildSlice t 1 #[(0, x)])
    (dst : Option Tmp) (hdst : o.dst = dst) (hu : P.underlying t = some (.slice e)) (cells : Array Value) (hx : a.eval x = .agg cells) (hf : P.builtSlice e 1 [(0, .agg cells)] = some cells)
    (h : wpList P ops Q rest (a.put dst (.slice (some ⟨w.heap.size, 0, none⟩) 1 1)) (w.alloc (.cells cells e))) : wpList P ops Q (o :: rest) a w :=
  Great.wpList_buildSliceTo hg t e 1 #[(0, x)] ho _ rfl dst hdst hu cells (by
    have e : ((#[(0, x)] : Array (Nat × Operand)).map fun (i, y) => (i, a.eval y)).toList = [(0, a.eval x)] := by simp
    rw [e, hx]
    exact hf) h
end Go.Proofs.YtnmgkkjnjllpbaaGreatDoor
namespace Go.Proofs.YtnmgkkjnjllpbaaGreatDoor
open Go.ChangeShapes Go.WideShapes Go.ChangeAt Go.RowKit Pn Dk Sl

theorem gen_calls {P : Program} {f : FuncId} {args : Array Value} {w : World} {Q : Ending → World → Prop} (R : World → Prop) (h0 : R w) (h : ∀ wr, R wr → Calls P f args wr Q) : Calls P f args w Q := h w h0
theorem retI {a b : Int} (h : a = b) : Ending.returned (.int .i64 a) = .returned (.int .i64 b) := by rw [h]
theorem seal_sectorsOf (w : World) (k : Nat) (hk : k ≤ 1099511627776) :
    Calls Tryz.prog 83 #[.int .i64 (k : Int)] w fun e w' => e = .returned (.int .i64 (szN k : Int)) ∧ w = w' := by
  have l0 : 0 ≤ (k : Int) := by omega
  have l1 : (k : Int) ≤ 1099511627776 := by omega
  go_enter Tryz.func83, Tryz.ntmps83
  go_wp2
  go_ret
  exact ⟨retI (by unfold szN; omega), rfl⟩
theorem seal_size (w : World) (s : ByteArray) (hs : s.size ≤ 1099511627776) :
    Calls Tryz.prog 61 #[.string s] w fun e w' => e = .returned (.int .i64 (szN s.size : Int)) ∧ w = w' := by
  have H := Lib.hid (seal_sectorsOf w s.size hs)
  clear hs
  go_enter Tryz.func61, Tryz.ntmps61
  go_wp2_with (fail)
  refine H.out.mono ?_
  rintro e w' ⟨rfl, rfl⟩
  go_wp2
  go_ret
  exact ⟨rfl, rfl⟩

namespace Sl
theorem sec_tail (g : Nat → UInt8) : (secS g).extract 28 32 = ⟨#[g 28, g 29, g 30, g 31]⟩ := by
  apply ByteArray.ext
  apply Array.toList_inj.1
  rw [ByteArray.data_extract, Array.toList_extract, List.extract_eq_take_drop]
  show List.take 4 (List.drop 28 ((List.range 32).map g)) = _
  simp [List.range, List.range.loop]
theorem nm_four (a b c d : UInt8) (most : Nat) : nmOut ⟨#[a, b, c, d]⟩ (most : Int) = if vN a b c d ≤ most then vN a b c d else 0 := by
  have e : le4 ⟨#[a, b, c, d]⟩ = vN a b c d := rfl
  unfold nmOut nmOk
  rw [e, decide_eq_true (show 4 ≤ (⟨#[a, b, c, d]⟩ : ByteArray).size from Nat.le_refl 4), Bool.true_and]
  by_cases h : vN a b c d ≤ most
  · rw [if_pos h, if_pos (decide_eq_true (by omega))]
  · rw [if_neg h, if_neg (by rw [decide_eq_true_iff]; omega)]
theorem nm_sec (g : Nat → UInt8) : nmOut ((secS g).extract 28 32) 2147483647 = numG g := by
  rw [sec_tail]
  exact nm_four _ _ _ _ 2147483647
end Sl
set_option maxRecDepth 100000 in
set_option maxHeartbeats 800000 in
theorem seal_numberOf (w : World) (g : Nat → UInt8) :
    Calls Tryz.prog 78 #[.string (secS g)] w fun e w' => e = .returned (.int .i64 (numG g : Int)) ∧ Below w.heap.size w w' := by
  have HN := Lib.hid (nm_sec g)
  have hz : (secS g).size = 32 := secS_size g
  generalize secS g = q at hz HN ⊢
  have hz1 : (28 : Int) ≤ (q.size : Int) := by omega
  have HX := Lib.hid (show q.extract 28 q.size = q.extract 28 32 by rw [hz])
  clear hz
  go_enter Tryz.func78, Tryz.ntmps78
  go_wp2_with (fail)
  rw [HX.out]
  refine (eye_of _ w).mono ?_
  rintro e w1 ⟨rfl, h1, b1⟩
  have H1 := Lib.hid h1
  have B1 := Lib.hid b1
  clear h1 b1
  go_wp2_with (fail)
  refine (eye_num w1 w.heap.size _ false H1.out 2147483647).mono ?_
  rintro e w2 ⟨rfl, _, o2⟩
  rw [HN.out]
  have O2 := Lib.hid o2
  clear o2
  go_wp2_with (fail)
  refine bodyPost_ret (results_tmp rfl _ _ _) rfl ?_
  exact ⟨rfl, B1.out.trans (O2.out.below (Nat.le_refl _) B1.out.size)⟩

theorem Chain.keepT {w w' : World} {p b : Nat} {last : Option Addr} {bad : Bool} (hb : PenHd w b last bad) (ho : Only w w' b) : ∀ {l : List ByteArray} {a : Option Addr}, Chain w p a l → Chain w' p a l
  | [], _, h => h
  | _ :: _, _, ⟨g, ah, e, hg, hx, hr⟩ => ⟨g, ah, e, hg, (ho.block g (Array.getElem?_eq_some_iff.1 hx).1 (ne_type hx hb (by decide))).trans hx, hr.keepT hb ho⟩
/-- Another pen's call leaves a pen as it is. -/
theorem PenAt.beside {w w' : World} {p b : Nat} {l : List ByteArray} {bad : Bool} {last : Option Addr} {bad' : Bool} (h : PenAt w p l bad) (hb : PenHd w b last bad') (hne : p ≠ b) (ho : Only w w' b) : PenAt w' p l bad := by
  obtain ⟨a, h1, h2⟩ := h
  exact ⟨a, h1.of_block (ho.block p h1.lt hne), h2.keepT hb ho⟩
theorem dgOneS (f : Nat → UInt8) : Tryz.prog.builtSlice 130 1 [(0, .agg (dgV f))] = some (dgV f) := by kernel_rfl
namespace Sl
theorem one_text (s : ByteArray) : textsL (fun _ => s) 1 = textL s := by simp [textsL, List.range, List.range.loop]
theorem one_digS (f : Nat → UInt8) : digsL (fun _ => f) 1 = digL f := by simp [digsL, List.range, List.range.loop]
theorem pen_body (s : ByteArray) (N : Nat) (hN : N = 28 * szN s.size - 36 - s.size) : penL [⟨(List.replicate N 0).toArray⟩, ⟨(textL s).toArray⟩] = bodyL s := by
  subst hN
  simp only [penL, List.nil_append]
  rfl
theorem pen_sum (L : List UInt8) : penL [⟨L.toArray⟩] = L := by simp [penL]
theorem seal_cat (s : ByteArray) : (⟨(digL (sumF (bodyL s))).toArray⟩ : ByteArray) ++ ⟨(bodyL s).toArray⟩ = ⟨(sealL s).toArray⟩ := by
  apply ByteArray.ext
  simp [ByteArray.data_append, sealL]
theorem szList (L : List UInt8) : (⟨L.toArray⟩ : ByteArray).size = L.length := by simp [ByteArray.size]
end Sl
set_option maxRecDepth 100000 in
set_option maxHeartbeats 3200000 in
theorem seal_sealed (w : World) (s : ByteArray) (hs : s.size ≤ 1024) (hT : Tabs w) :
    Calls Tryz.prog 82 #[.string s] w fun e w' => e = .returned (.string ⟨(sealL s).toArray⟩) ∧ Below w.heap.size w w' := by
  obtain ⟨N, hN⟩ : ∃ N, N = 28 * szN s.size - 36 - s.size := ⟨_, rfl⟩
  have hle := szN_le s.size
  have hmx := szN_max s.size hs
  have hNi : 28 * (szN s.size : Int) - 36 - (s.size : Int) = (N : Int) := by omega
  have HM := Lib.hid (show ∀ W, (Instr.makeSlice 40 (.int .i64 (28 * (szN s.size : Int) - 36 - (s.size : Int))) (.int .i64 (28 * (szN s.size : Int) - 36 - (s.size : Int)))).run Tryz.prog W = .ok (.slice (some ⟨W.heap.size, 0, none⟩) N N) (W.alloc (.cells (vals N fun _ => .int .u8 0) 5)) from fun W => by rw [hNi]; exact run_make_bytes N (by omega) W)
  have HT := Lib.hid hT
  have HPB := Lib.hid (pen_body s N hN)
  have HZ := Lib.hid (seal_size · s (by omega))
  have HCAT := Lib.hid (seal_cat s)
  have hbl := bodyL_length s
  have HBL := Lib.hid (show (bodyL s).length ≤ 1064 by omega)
  have hNb : N ≤ 64 := by have := szN_lt s.size; omega
  have z0 : 0 ≤ (szN s.size : Int) := by omega
  have z1 : (szN s.size : Int) ≤ 38 := by omega
  have y1 : (s.size : Int) ≤ 1024 := by omega
  have y2 : 36 + (s.size : Int) ≤ 28 * (szN s.size : Int) := by omega
  have hs1 : s.size ≤ 1000000 := by omega
  have htt : (textsL (fun _ => s) 1).length ≤ 1028 := by rw [one_text, textL_length]; omega
  have HTT := Lib.hid htt
  clear hs hT hN hle hmx hNi hbl htt
  generalize (szN s.size : Int) = Z at HM HZ z0 z1 y2
  go_enter Tryz.func82, Tryz.ntmps82
  go_wp2_with (fail)
  refine gen_calls (fun W => W.heap.size = w.heap.size + 3 ∧ PenHd W w.heap.size none false ∧ PenHd W (w.heap.size + 1) none false ∧ W.heap[w.heap.size + 1 + 1]? = some (.cells #[.string s] 9 (0, 0)) ∧ Below w.heap.size w W) ?_ ?_
  · refine ⟨by simp, ?_, ?_, ?_, (((Below.refl _ _).alloc (Nat.le_refl _) _).alloc (by simp) _).alloc (by simp; omega) _⟩
    · exact (heap_alloc_old _ _ (by simp; omega)).trans ((heap_alloc_old _ _ (by simp)).trans (heap_alloc_new w _))
    · exact (heap_alloc_old _ _ (by simp)).trans (heap_alloc2_new w _ _)
    · have := heap_alloc_new ((w.alloc (.cells #[.pointer none, .bool false] 119)).alloc (.cells #[.pointer none, .bool false] 119)) (.cells #[.string s] 9)
      simpa using this
  rintro w1 ⟨s1, p1, q1, c1, b1⟩
  have hne : w.heap.size + 1 ≠ w.heap.size := by omega
  refine (pen_text w1 w.heap.size [] false ⟨none, p1, rfl⟩ (some ⟨w.heap.size + 1 + 1, 0, none⟩) 1 1 (fun _ => s) (by omega) (fun _ _ => hs1) (fun _ => ⟨_, 0, rfl, by omega, fun k hk => ?_⟩) (by simp only [total]; omega)).mono ?_
  · obtain rfl : k = 0 := by omega
    exact cell_of_row _ _ 0 _ _ _ c1
  rintro e w2 ⟨rfl, h2, o2⟩
  rw [one_text] at h2
  have H2 := Lib.hid h2
  have Q2 := Lib.hid (q1.of_block (o2.block _ (by omega) hne))
  have B2 := Lib.hid (b1.trans (o2.below (Nat.le_refl _) (by omega)))
  clear h2 o2 s1 p1 q1 c1 b1
  go_wp2_with (fail)
  refine (HZ.out w2).mono ?_
  rintro e w3 ⟨rfl, rfl⟩
  have hmk := HM.out w2
  go_wp2_with (fail)
  have hzl : (List.replicate N (0 : UInt8)).length = N := List.length_replicate ..
  have H3 := Lib.hid (H2.out.below ((Below.refl w2.heap.size w2).alloc (Nat.le_refl _) (.cells (vals N fun _ => .int .u8 0) 5)))
  have Q3 := Lib.hid (Q2.out.below ((Below.refl w2.heap.size w2).alloc (Nat.le_refl _) (.cells (vals N fun _ => .int .u8 0) 5)))
  have B3 := Lib.hid (B2.out.alloc B2.out.size (.cells (vals N fun _ => .int .u8 0) 5))
  have hCV : ∀ W : World, W.heap = (w2.alloc (.cells (vals N fun _ => .int .u8 0) 5)).heap → (convert 40 9 (.slice (some ⟨w2.heap.size, 0, none⟩) N N)).run Tryz.prog W = .ok (.string ⟨(List.replicate N 0).toArray⟩) W := fun W hW => by
    refine run_text W _ N N (List.replicate N 0) hzl.symm fun j u hj => ?_
    have hjN : j < N := by have := (List.getElem?_eq_some_iff.1 hj).1; rwa [bcells_length, hzl] at this
    rw [Addr.add_lit, Nat.zero_add, World.cell?_of_block (w := w2.alloc (.cells (vals N fun _ => .int .u8 0) 5)) (by rw [hW]), cell_of_row _ _ _ _ _ _ (heap_alloc_new w2 _), vals_get N _ j hjN, ← hj, bcells_get _ _ (by rw [hzl]; exact hjN)]
    simp [hjN]
  refine (pen_byte _ w.heap.size _ false H3.out (some ⟨w2.heap.size, 0, none⟩) N N ⟨(List.replicate N 0).toArray⟩ (by rw [szList, hzl]) (by simp only [total, szList, hzl, textL_length]; omega) hCV).mono ?_
  clear hCV hmk
  rintro e w4 ⟨rfl, h4, o4⟩
  have H4 := Lib.hid h4
  have Q4 := Lib.hid (Q3.out.of_block (o4.block _ Q3.out.lt hne))
  have B4 := Lib.hid (B3.out.trans (o4.below (Nat.le_refl _) B3.out.size))
  clear h4 o4 H2 Q2 B2 H3 Q3 B3
  have HTL := Lib.hid (show total [⟨(List.replicate N 0).toArray⟩, ⟨(textL s).toArray⟩] < 1099511627776 by simp only [total, szList, hzl, textL_length]; omega)
  go_wp2_with (fail)
  refine (pen_bytes w4 w.heap.size _ false H4.out HTL.out).mono ?_
  rintro e w5 ⟨rfl, b5⟩
  rw [HPB.out]
  have H5 := Lib.hid (H4.out.below b5)
  have Q5 := Lib.hid (Q4.out.below b5)
  have B5 := Lib.hid (B4.out.trans (b5.mono B4.out.size))
  clear b5 H4 Q4 B4
  go_wp2_with (fail)
  have b6 : Below w5.heap.size w5 (w5.alloc (.cells #[.string ⟨(bodyL s).toArray⟩] 9)) := (Below.refl _ _).alloc (Nat.le_refl _) _
  have H6 := Lib.hid (H5.out.below b6)
  have Q6 := Lib.hid (Q5.out.below b6)
  have B6 := Lib.hid (B5.out.trans (b6.mono B5.out.size))
  have T6 := Lib.hid (HT.out.below (B6.out.mono (Nat.le_refl _)))
  clear b6
  refine (of_here [⟨(bodyL s).toArray⟩] (bodyL s) (by simp [flat]) _ (some ⟨w5.heap.size, 0, none⟩) 1 1 rfl (by omega) (fun _ => ⟨_, 0, rfl, fun k hk => ?_⟩) T6.out.f T6.out.k (by have := HBL.out; omega)).mono ?_
  · obtain rfl : k = 0 := by omega
    exact cell_of_row _ _ 0 _ _ _ (heap_alloc_new w5 _)
  rintro e w7 ⟨rfl, b7⟩
  have H7 := Lib.hid (H6.out.below b7)
  have Q7 := Lib.hid (Q6.out.below b7)
  have B7 := Lib.hid (B6.out.trans (b7.mono B6.out.size))
  clear b7 H5 Q5 B5 H6 Q6 B6 T6
  generalize hF : sumF (bodyL s) = F at HCAT
  have HFF := Lib.hid hF
  clear hF
  rw [show digF F = dgV F from rfl]
  go_wp2_with (refine wpList_one rfl 170 130 (.tmp 19) rfl (some 20) rfl Tryz.underlying170 (dgV F) rfl (dgOneS F) ?_)
  have b8 : Below w7.heap.size w7 (w7.alloc (.cells (dgV F) 130)) := (Below.refl _ _).alloc (Nat.le_refl _) _
  have H8 := Lib.hid (H7.out.below b8)
  have Q8 := Lib.hid (Q7.out.below b8)
  have B8 := Lib.hid (B7.out.trans (b8.mono B7.out.size))
  have q8 : w.heap.size + 1 < w7.heap.size := Q7.out.lt
  clear b8
  refine (pen_digest _ (w.heap.size + 1) [] false ⟨none, Q8.out, rfl⟩ (some ⟨w7.heap.size, 0, none⟩) 1 1 (fun _ => F) (by omega) (fun _ => ⟨_, 0, rfl, by omega, fun k hk j v hj => ?_⟩) (by simp only [total]; omega)).mono ?_
  · obtain rfl : k = 0 := by omega
    rw [cell_of_row _ _ _ _ _ _ (heap_alloc_new w7 _), ← Array.getElem?_toList, ← hj]
    congr 1
    omega
  rintro e w9 ⟨rfl, h9, o9⟩
  rw [one_digS] at h9
  have S9 := Lib.hid h9
  have H9 := Lib.hid (H8.out.beside Q8.out (by omega) o9)
  have B9 := Lib.hid (B8.out.trans (o9.below (by omega) B8.out.size))
  clear h9 o9 H7 Q7 B7 H8 Q8 B8
  go_wp2_with (fail)
  refine (pen_bytes w9 (w.heap.size + 1) _ false S9.out (by simp only [total, szList, digL_length]; omega)).mono ?_
  rintro e wa ⟨rfl, ba⟩
  rw [pen_sum]
  have Ha := Lib.hid (H9.out.below ba)
  have Ba := Lib.hid (B9.out.trans (ba.mono B9.out.size))
  clear ba S9 H9 B9
  go_wp2_with (fail)
  refine (pen_bytes wa w.heap.size _ false Ha.out HTL.out).mono ?_
  rintro e wb ⟨rfl, bb⟩
  rw [HPB.out]
  have Bb := Lib.hid (Ba.out.trans (bb.mono Ba.out.size))
  clear bb Ha Ba
  have n1 : ¬ 9223372036854775807 < (⟨(digL F).toArray⟩ : ByteArray).size + (⟨(bodyL s).toArray⟩ : ByteArray).size := by rw [szList, szList, digL_length]; have := HBL.out; omega
  generalize (⟨(bodyL s).toArray⟩ : ByteArray) = bb at n1 HCAT ⊢
  generalize (⟨(digL F).toArray⟩ : ByteArray) = dd at n1 HCAT ⊢
  go_wp2_with (fail)
  refine bodyPost_ret (results_tmp rfl _ _ _) rfl ?_
  rw [HCAT.out]
  exact ⟨rfl, Bb.out⟩
end Go.Proofs.YtnmgkkjnjllpbaaGreatDoor
namespace Go.Proofs.YtnmgkkjnjllpbaaGreatDoor
open Go.ChangeShapes Go.WideShapes Go.ChangeAt Go.RowKit Pn Dk Sl

namespace Sl
theorem sec_head (g : Nat → UInt8) : ((secS g).extract 0 28).data.toList = (List.range 28).map g := by
  rw [ByteArray.data_extract, Array.toList_extract, List.extract_eq_take_drop]
  show List.take 28 (List.drop 0 ((List.range 32).map g)) = _
  simp [List.range, List.range.loop]
theorem sec_head_size (g : Nat → UInt8) : ((secS g).extract 0 28).size = 28 := by
  show ((secS g).extract 0 28).data.toList.length = 28
  rw [sec_head]; simp
/-- What stands in a zone's places. -/
def rdZ (x : Dk.St) (f : Nat) (q : Nat) : Nat → UInt8 := sect x.now (f + q)
end Sl
/-- What the zone reads, of a disk whose power is there. -/
structure Reads (w : World) (Z : Nat) (n : Nat) (rd : Nat → Nat → UInt8) : Prop where
  here : ∀ W, Below w.heap.size w W → ∀ q : Nat, q < n → Calls Tryz.prog 77 #[.pointer (some ⟨Z, 0, none⟩), .int .i64 (q : Int)] W fun e w' => e = .returned (.tuple #[.string (secS (rd q)), .int .i64 0]) ∧ Below W.heap.size W w'
  out : ∀ W, Below w.heap.size w W → ∀ q : Int, (q < 0 ∨ (n : Int) ≤ q) → Calls Tryz.prog 77 #[.pointer (some ⟨Z, 0, none⟩), .int .i64 q] W fun e w' => e = .returned (.tuple #[.string ⟨#[]⟩, .int .i64 3]) ∧ W = w'
theorem Reads.below {w w1 : World} {Z n : Nat} {rd : Nat → Nat → UInt8} (h : Reads w Z n rd) (hb : Below w.heap.size w w1) : Reads w1 Z n rd :=
  ⟨fun W hW => h.here W (hb.trans (hW.mono hb.size)), fun W hW => h.out W (hb.trans (hW.mono hb.size))⟩
theorem reads_zone (w : World) (Z D f n : Nat) (K : Nat → Prop) (x : Dk.St) (hz : w.heap[Z]? = some (zobj D f n)) (h : DiskAt K w D x) (ha : x.away = false) (hfn : f + n ≤ x.n) : Reads w Z n (rdZ x f) := by
  have hnb : x.n ≤ 4096 := by obtain ⟨_, _, _, _, _, _, h⟩ := h; exact h.nb
  have hz' : ∀ W, Below w.heap.size w W → W.heap[Z]? = some (zobj D f n) := fun W hW => (hW.block Z (Array.getElem?_eq_some_iff.1 hz).1).trans hz
  refine ⟨fun W hW q hq => ?_, fun W hW q hq => zone_read_out W Z D f n (hz' W hW) q hq⟩
  refine (zone_read_by W Z D f n (hz' W hW) q hq (by omega) (secS (sect x.now (f + q))) 0 (fun i => disk_read K (W.drewN i) D x ((h.below hW).drewN i) ha (f + q) (by omega))).mono ?_
  rintro e w' ⟨rfl, i, rfl⟩
  exact ⟨rfl, below_drewN (Below.refl _ _) i⟩
section
variable (w : World) (Z n : Nat) (rd : Nat → Nat → UInt8)
set_option maxRecDepth 100000 in
set_option maxHeartbeats 3200000 in
theorem seal_join (hr : Reads w Z n rd) (p num c : Nat) (hp : p ≤ 4096) (hc : c ≤ 64) (b : Bool) (hb : (decide (1 ≤ num) && jnOk rd n p num c) = b) :
    Calls Tryz.prog 103 #[.pointer (some ⟨Z, 0, none⟩), .int .i64 (p : Int), .int .i64 (num : Int), .int .i64 (c : Int)] w fun e w' => e = .returned (.tuple #[.string (if b = true then ⟨(jnL rd p c).toArray⟩ else ⟨#[]⟩), .bool b]) ∧ Below w.heap.size w w' := by
  rcases Decidable.em (¬ 1 ≤ num) with h1 | h1
  · have h1' : (num : Int) < 1 := by omega
    obtain rfl : b = false := by rw [← hb, decide_eq_false h1, Bool.false_and]
    clear hr hb
    go_enter Tryz.func103, Tryz.ntmps103
    go_wp2_with (fail)
    refine bodyPost_ret (results_tmp2 rfl _ _ _) rfl ?_
    exact ⟨rfl, Below.refl _ _⟩
  replace h1 := Decidable.not_not.1 h1
  rw [decide_eq_true h1, Bool.true_and] at hb
  have HR := Lib.hid hr
  have HB := Lib.hid hb
  have h1' : ¬ (num : Int) < 1 := by omega
  clear hr hb h1
  have e1 : IntKind.i64.wrap ((c : Int) * 28) = ((28 * c : Nat) : Int) := (IntWalk.i64_in _ (by omega)).trans (by omega)
  obtain ⟨i0, hi, hz0, hz1, hz2⟩ := info_parts infoU
  have HI := Lib.hid hi
  have HZ0 := Lib.hid hz0
  have HZ1 := Lib.hid hz1
  have HZ2 := Lib.hid hz2
  clear hi hz0 hz1 hz2
  go_enter Tryz.func103, Tryz.ntmps103
  go_wp2_with (at_make; refine wpList_make_own _ rfl _ _ 40 rfl w.heap.size 5 i0 _ 1 Tryz.underlying40 HI.out HZ0.out HZ1.out .i64 .i64 _ (28 * c) rfl rfl (by first | exact e1 | rfl | omega) (by rw [HZ2.out]; omega) (by unfold maxLen; omega) (Nat.le_refl _) ?_; intro w1 hown hg1; have hb1 : Below w.heap.size w w1 := (Below.refl _ _).grown hg1 (Nat.le_refl _) (fun k hk => by cases hk); have HB1 := Lib.hid hb1; have HW1 := Lib.hid hown; clear hg1 hb1 hown e1)
  go_loopw [10, 20] (fun row i wr => ∃ k g cp : Nat, i = .int .i64 (k : Int) ∧ k ≤ c ∧ row = .slice (some ⟨g, 0, none⟩) (28 * k) cp ∧ jnOk rd n p num k = true ∧ wr.ownsRow w.heap.size 5 1 row (28 * k) (bcells (jnL rd p k)) ∧ Below w.heap.size w wr) (fun _ i _ => match i with | .int _ k => c - k.toNat | _ => 0)
  case atStart => exact ⟨0, w.heap.size, 28 * c, rfl, Nat.zero_le _, rfl, rfl, HW1.out, HB1.out⟩
  case round =>
    clear HW1 HB1
    obtain ⟨k, g, cp, rfl, hkn, rfl, hok, hown, hb⟩ := hrel
    have HOK := Lib.hid hok
    have HOW := Lib.hid hown
    have HBL := Lib.hid hb
    clear hown hb hok
    by_cases hlt : k < c
    · have x0 : (k : Int) < (c : Int) := by omega
      have x1 : decide ((k : Int) < (c : Int)) = true := decide_eq_true x0
      have x2 : 0 ≤ (k : Int) := by omega
      have e2 : IntKind.i64.wrap ((p : Int) + (k : Int)) = ((p + k : Nat) : Int) := (IntWalk.i64_in _ (by omega)).trans (by omega)
      by_cases hin : p + k < n
      · have HRD := Lib.hid (HR.out.here wr HBL.out (p + k) hin)
        generalize hg : rd (p + k) = sc at HRD
        have HG := Lib.hid hg
        clear hg
        generalize hpk : ((p + k : Nat) : Int) = pk at e2 HRD
        clear hpk
        go_wp2_with (fail)
        refine HRD.out.mono ?_
        rintro e w2 ⟨rfl, b2⟩
        have HOW2 := Lib.hid (own_keep HOW.out (fun i hi => b2.block i (HOW.out.lt i hi).2))
        have HB2 := Lib.hid (HBL.out.trans (b2.mono HBL.out.size))
        clear b2 HOW HBL HRD
        go_wp2_with (fail)
        refine (seal_numberOf w2 sc).mono ?_
        rintro e w3 ⟨rfl, b3⟩
        have HOW3 := Lib.hid (own_keep HOW2.out (fun i hi => b3.block i (HOW2.out.lt i hi).2))
        have HB3 := Lib.hid (HB2.out.trans (b3.mono HB2.out.size))
        clear b3 HOW2 HB2
        by_cases hnum : numG sc = num
        · have t1 : ((numG sc : Int) != (num : Int)) = false := by rw [hnum]; exact bne_self_eq_false _
          have HNX := Lib.hid (jnOk_next rd n p num k HOK.out hin (by rw [HG.out]; exact hnum))
          have HLN := Lib.hid (show bcells (jnL rd p k) ++ Lib.strCells ((secS sc).extract 0 28) = bcells (jnL rd p (k + 1)) by rw [bcells_text, sec_head, ← bcells_append, ← HG.out]; rfl)
          have HSZ := Lib.hid (sec_head_size sc)
          have hz32 : (28 : Int) ≤ ((secS sc).size : Int) := by rw [secS_size]; omega
          clear hnum HG hin
          generalize (numG sc : Int) = nsc at t1
          generalize secS sc = q at HLN HSZ hz32 ⊢
          go_wp2_with (at_builtin; refine Lib.wpList_append_own_string w3 rfl (.tmp 39) (.tmp 41) 40 9 rfl w.heap.size 5 i0 Tryz.underlying40 Tryz.underlying9 HI.out HZ0.out HZ1.out HZ2.out (.slice (some ⟨g, 0, none⟩) (28 * k) cp) (28 * k) (bcells (jnL rd p k)) rfl HOW3.out (q.extract 0 28) rfl (by rw [HSZ.out]; unfold maxLen; omega) (by rw [HSZ.out]; omega) HB3.out.size ?_
                       intro v9 w9 hown9 hg9 hnil
                       rw [HLN.out, HSZ.out, show 28 * k + 28 = 28 * (k + 1) by omega] at hown9
                       obtain ⟨g9, c9, rfl, hg9b⟩ := own_form hown9 (fun h' => by have := (hnil.1 h').2; rw [HSZ.out] at this; omega)
                       have HO9 := Lib.hid hown9
                       have HB9 := Lib.hid (HB3.out.grown hg9 HB3.out.size (fun i hi => (HOW3.out.lt i hi).1))
                       clear hown9 hg9 hnil)
          exact ⟨⟨k + 1, g9, c9, rfl, by omega, rfl, HNX.out, HO9.out, HB9.out⟩, by show c - ((k : Int) + 1).toNat < c - (k : Int).toNat; omega⟩
        · have t1 : ((numG sc : Int) != (num : Int)) = true := bne_iff_ne.2 (fun e => hnum (by omega))
          obtain rfl : b = false := HB.out.symm.trans (jnOk_stop rd n p num hlt (fun e => hnum (by rw [← HG.out]; exact e.2)))
          clear HB HOK HG hnum
          generalize (numG sc : Int) = nsc at t1
          go_wp2_with (fail)
          refine bodyPost_ret (results_tmp2 rfl _ _ _) rfl ?_
          exact ⟨rfl, HB3.out⟩
      · have HRD := Lib.hid (HR.out.out wr HBL.out ((p + k : Nat) : Int) (by omega))
        obtain rfl : b = false := HB.out.symm.trans (jnOk_stop rd n p num hlt (fun e => hin e.1))
        clear HB HOK hin
        generalize hpk : ((p + k : Nat) : Int) = pk at e2 HRD
        clear hpk
        go_wp2_with (fail)
        refine HRD.out.mono ?_
        rintro e w2 ⟨rfl, rfl⟩
        go_wp2_with (fail)
        refine bodyPost_ret (results_tmp2 rfl _ _ _) rfl ?_
        exact ⟨rfl, HBL.out⟩
    · have hke : k = c := by omega
      subst hke
      obtain rfl : b = true := HB.out.symm.trans HOK.out
      have x0 : ¬ (k : Int) < (k : Int) := by omega
      have x1 : decide ((k : Int) < (k : Int)) = false := decide_eq_false x0
      have hcv := own_text HOW.out rfl wr rfl
      clear hlt x0 HB HOK
      go_wp2_with (fail)
      refine bodyPost_ret (results_tmp2 rfl _ _ _) rfl ?_
      exact ⟨rfl, HBL.out⟩
end
namespace Sl
theorem szB (L : List UInt8) : (⟨L.toArray⟩ : ByteArray).size = L.length := by simp [ByteArray.size]
theorem drop_list (L : List UInt8) (k : Nat) : (⟨L.toArray⟩ : ByteArray).extract k (⟨L.toArray⟩ : ByteArray).size = ⟨(L.drop k).toArray⟩ := by
  apply ByteArray.ext
  apply Array.toList_inj.1
  rw [ByteArray.data_extract, Array.toList_extract, List.extract_eq_take_drop, szB]
  show List.take (L.length - k) (List.drop k L) = L.drop k
  rw [List.take_of_length_le (by rw [List.length_drop]; omega)]
theorem take_list (L : List UInt8) (k : Nat) : (⟨L.toArray⟩ : ByteArray).extract 0 k = ⟨(L.take k).toArray⟩ := by
  apply ByteArray.ext
  apply Array.toList_inj.1
  rw [ByteArray.data_extract, Array.toList_extract, List.extract_eq_take_drop]
  rfl
section
variable (rd : Nat → Nat → UInt8) (p : Nat)
/-- Behind the sum. -/
def tailG (k : Nat) : ByteArray := ⟨((jnL rd p k).drop 32).toArray⟩
theorem tail_rest (k : Nat) (hk : 2 ≤ k) : tkRest ⟨(jnL rd p k).toArray⟩ 32 = tailG rd p k := by
  have hl := jnL_length rd p k
  rw [tk_rest_yes (by rw [szB]; omega), drop_list]
  rfl
theorem tail_ok (k : Nat) (hk : 2 ≤ k) : tkBad ⟨(jnL rd p k).toArray⟩ false 32 = false := by
  have hl := jnL_length rd p k
  exact tk_bad_yes false (by rw [szB]; omega)
theorem tail_size (k : Nat) : (tailG rd p k).size = 28 * k - 32 := by
  unfold tailG
  rw [szB, List.length_drop, jnL_length]
theorem tail_at (k : Nat) (hk : 2 ≤ k) (j : Nat) (hj : j < 24) : byAt (tailG rd p k) j = rd (p + 1) (4 + j) := by
  have e : (tailG rd p k).data.toList = (jnL rd p k).drop 32 := rfl
  unfold byAt
  rw [e, List.getD_eq_getElem?_getD, List.getElem?_drop, ← List.getD_eq_getElem?_getD, show 32 + j = 28 * 1 + (4 + j) by omega]
  exact jnL_get rd p k 1 (4 + j) (by omega) (by omega)
theorem tail_len (k : Nat) (hk : 2 ≤ k) : le4 (tailG rd p k) = lenV rd p := by
  unfold le4
  rw [tail_at rd p k hk 0 (by omega), tail_at rd p k hk 1 (by omega), tail_at rd p k hk 2 (by omega), tail_at rd p k hk 3 (by omega)]
  rfl
theorem tail_num (k : Nat) (hk : 2 ≤ k) (h : lenV rd p ≤ 1024) : nmOk (tailG rd p k) 1024 = true := nm_ok (by rw [tail_size]; omega) (by rw [tail_len rd p k hk]; omega)
theorem tail_not (k : Nat) (hk : 2 ≤ k) (h : ¬ lenV rd p ≤ 1024) : nmOk (tailG rd p k) 1024 = false := nm_great (by rw [tail_len rd p k hk]; omega)
theorem text_got (h : lenV rd p ≤ 1024) : txOut (tailG rd p (szN (lenV rd p))) 1024 = textG rd p := by
  have h2 := szN_two (lenV rd p)
  have hn := tail_num rd p (szN (lenV rd p)) h2 h
  have hl := szN_le (lenV rd p)
  have hz := tail_size rd p (szN (lenV rd p))
  unfold txOut
  rw [nm_rest_yes hn, nm_out_yes hn, tail_len rd p _ h2]
  unfold tailG at hz ⊢
  rw [szB] at hz
  rw [drop_list, List.drop_drop, tk_out_yes (by rw [szB, List.length_drop, jnL_length]; omega), take_list]
  rfl
theorem textG_size (h : lenV rd p ≤ 1024) : (textG rd p).size ≤ 1024 := by
  unfold textG
  rw [szB, List.length_take]
  omega
end
end Sl
section
variable (w : World) (Z n : Nat) (rd : Nat → Nat → UInt8)
set_option maxRecDepth 100000 in
set_option maxHeartbeats 3200000 in
theorem seal_gather (hr : Reads w Z n rd) (p num : Nat) (hp : p ≤ 4096) (b : Bool) (hb : (decide (1 ≤ num) && (jnOk rd n p num 2 && (decide (lenV rd p ≤ 1024) && jnOk rd n p num (szN (lenV rd p))))) = b) :
    Calls Tryz.prog 79 #[.pointer (some ⟨Z, 0, none⟩), .int .i64 (p : Int), .int .i64 (num : Int)] w fun e w' => e = .returned (.tuple #[.string (if b = true then ⟨(allG rd p).toArray⟩ else ⟨#[]⟩), .bool b]) ∧ Below w.heap.size w w' := by
  have HJ := Lib.hid (fun (c : Nat) (hc : c ≤ 64) W (hW : Below w.heap.size w W) => seal_join W Z n rd (hr.below hW) p num c hp hc)
  clear hr
  cases hb2 : (decide (1 ≤ num) && jnOk rd n p num 2) with
  | false =>
    obtain rfl : b = false := by rw [← hb, ← Bool.and_assoc, hb2, Bool.false_and]
    have h2' := HJ.out 2 (by omega) w (Below.refl _ _) false hb2
    rw [if_neg Bool.false_ne_true] at h2'
    have H2 := Lib.hid h2'
    clear h2'
    clear HJ hb hb2
    go_enter Tryz.func79, Tryz.ntmps79
    go_wp2_with (fail)
    refine H2.out.mono ?_
    rintro e w1 ⟨rfl, b1⟩
    have B1 := Lib.hid b1
    clear b1 H2
    go_wp2_with (fail)
    refine bodyPost_ret (results_tmp2 rfl _ _ _) rfl ?_
    exact ⟨rfl, B1.out⟩
  | true =>
    rw [← Bool.and_assoc, hb2, Bool.true_and] at hb
    have h2' := HJ.out 2 (by omega) w (Below.refl _ _) true hb2
    rw [if_pos rfl] at h2'
    have H2 := Lib.hid h2'
    clear h2'
    have h1 : decide (1 ≤ num) = true := by
      rw [Bool.and_eq_true] at hb2
      exact hb2.1
    have TR := Lib.hid (tail_rest rd p 2 (Nat.le_refl _))
    have TB := Lib.hid (tail_ok rd p 2 (Nat.le_refl _))
    by_cases hlen : lenV rd p ≤ 1024
    · have TN := Lib.hid (tail_num rd p 2 (Nat.le_refl _) hlen)
      have TL := Lib.hid (tail_len rd p 2 (Nat.le_refl _))
      rw [decide_eq_true hlen, Bool.true_and] at hb
      have HC := Lib.hid (fun W (hW : Below w.heap.size w W) => HJ.out (szN (lenV rd p)) (by have := szN_max _ hlen; omega) W hW b (by rw [h1, Bool.true_and]; exact hb))
      have HSO := Lib.hid (fun W => seal_sectorsOf W (lenV rd p) (by omega))
      have HALL := Lib.hid (show allG rd p = jnL rd p (szN (lenV rd p)) from rfl)
      rw [HALL.out]
      clear hb hb2 h1 HJ hlen HALL
      generalize szN (lenV rd p) = sz at HC HSO ⊢
      generalize (if b = true then (⟨(jnL rd p sz).toArray⟩ : ByteArray) else ⟨#[]⟩) = q at HC ⊢
      generalize lenV rd p = ln at TL HSO
      generalize tailG rd p 2 = rest at TR TN TL
      generalize (⟨(jnL rd p 2).toArray⟩ : ByteArray) = hd at H2 TR TB
      go_enter Tryz.func79, Tryz.ntmps79
      go_wp2_with (fail)
      refine H2.out.mono ?_
      rintro e w1 ⟨rfl, b1⟩
      have B1 := Lib.hid b1
      clear b1 H2
      go_wp2_with (fail)
      refine (eye_of _ w1).mono ?_
      rintro e w2 ⟨rfl, h2, b2⟩
      have E2 := Lib.hid h2
      have B2 := Lib.hid (B1.out.trans (b2.mono B1.out.size))
      have s1 := B1.out.size
      clear h2 b2 B1
      go_wp2_with (fail)
      refine (eye_digest w2 w1.heap.size _ false E2.out).mono ?_
      rintro e w3 ⟨rfl, h3, o3⟩
      rw [TR.out, TB.out] at h3
      have E3 := Lib.hid h3
      have B3 := Lib.hid (B2.out.trans (o3.below s1 B2.out.size))
      clear h3 o3 E2 B2 TR TB
      generalize dgV (dgOut hd) = dgs
      go_wp2_with (fail)
      refine (eye_num w3 w1.heap.size _ false E3.out 1024).mono ?_
      rintro e w4 ⟨rfl, h4, o4⟩
      rw [nm_bad_yes false TN.out] at h4
      have E4 := Lib.hid h4
      have B4 := Lib.hid (B3.out.trans (o4.below s1 B3.out.size))
      rw [nm_out_yes TN.out, TL.out]
      clear h4 o4 E3 B3
      go_wp2_with (fail)
      refine (eye_err w4 w1.heap.size _ false E4.out).mono ?_
      rintro e w5 ⟨rfl, rfl⟩
      rw [show errOf false = 0 from rfl]
      go_wp2_with (fail)
      refine (HSO.out w4).mono ?_
      rintro e w5 ⟨rfl, rfl⟩
      go_wp2_with (fail)
      refine (HC.out w4 B4.out).mono ?_
      rintro e w5 ⟨rfl, b5⟩
      have B5 := Lib.hid (B4.out.trans (b5.mono B4.out.size))
      clear b5
      go_wp2_with (fail)
      refine bodyPost_ret (results_tmp2 rfl _ _ _) rfl ?_
      exact ⟨rfl, B5.out⟩
    · have TN := Lib.hid (tail_not rd p 2 (Nat.le_refl _) hlen)
      obtain rfl : b = false := by rw [← hb, decide_eq_false hlen, Bool.false_and]
      clear hb hb2 h1 HJ hlen
      generalize tailG rd p 2 = rest at TR TN
      generalize (⟨(jnL rd p 2).toArray⟩ : ByteArray) = hd at H2 TR TB
      go_enter Tryz.func79, Tryz.ntmps79
      go_wp2_with (fail)
      refine H2.out.mono ?_
      rintro e w1 ⟨rfl, b1⟩
      have B1 := Lib.hid b1
      clear b1 H2
      go_wp2_with (fail)
      refine (eye_of _ w1).mono ?_
      rintro e w2 ⟨rfl, h2, b2⟩
      have E2 := Lib.hid h2
      have B2 := Lib.hid (B1.out.trans (b2.mono B1.out.size))
      have s1 := B1.out.size
      clear h2 b2 B1
      go_wp2_with (fail)
      refine (eye_digest w2 w1.heap.size _ false E2.out).mono ?_
      rintro e w3 ⟨rfl, h3, o3⟩
      rw [TR.out, TB.out] at h3
      have E3 := Lib.hid h3
      have B3 := Lib.hid (B2.out.trans (o3.below s1 B2.out.size))
      clear h3 o3 E2 B2 TR TB
      generalize dgV (dgOut hd) = dgs
      go_wp2_with (fail)
      refine (eye_num w3 w1.heap.size _ false E3.out 1024).mono ?_
      rintro e w4 ⟨rfl, h4, o4⟩
      rw [nm_bad_no false TN.out] at h4
      have E4 := Lib.hid h4
      have B4 := Lib.hid (B3.out.trans (o4.below s1 B3.out.size))
      clear h4 o4 E3 B3
      go_wp2_with (fail)
      refine (eye_err w4 w1.heap.size _ true E4.out).mono ?_
      rintro e w5 ⟨rfl, rfl⟩
      rw [show errOf true = 5 from rfl]
      go_wp2_with (fail)
      refine bodyPost_ret (results_tmp2 rfl _ _ _) rfl ?_
      exact ⟨rfl, B4.out⟩
end
end Go.Proofs.YtnmgkkjnjllpbaaGreatDoor
namespace Go.Proofs.YtnmgkkjnjllpbaaGreatDoor
open Go.ChangeShapes Go.WideShapes Go.ChangeAt Go.RowKit Pn Dk Sl

theorem zone_read_nil (w : World) (p : Int) : Calls Tryz.prog 77 #[.pointer none, .int .i64 p] w fun e w' => e = .returned (.tuple #[.string ⟨#[]⟩, .int .i64 2]) ∧ w = w' := by
  go_enter Tryz.func77, Tryz.ntmps77
  go_wp2
  refine bodyPost_ret (results_tmp2 rfl _ _ _) rfl ?_
  exact ⟨rfl, rfl⟩
theorem seal_get_err (w : World) (z : Value) (p : Int) (s : ByteArray) (m : Int) (hm : m ≠ 0) (R : World → Prop)
    (hr : Calls Tryz.prog 77 #[z, .int .i64 p] w fun e w' => e = .returned (.tuple #[.string s, .int .i64 m]) ∧ R w') :
    Calls Tryz.prog 56 #[z, .int .i64 p] w fun e w' => e = .returned (.tuple #[.string ⟨#[]⟩, .int .i64 0, .int .i64 m]) ∧ R w' := by
  have HR := Lib.hid hr
  have t1 : (m != 0) = true := bne_iff_ne.2 hm
  clear hr hm
  go_enter Tryz.func56, Tryz.ntmps56
  go_wp2_with (fail)
  refine HR.out.mono ?_
  rintro e w1 ⟨rfl, r1⟩
  have R1 := Lib.hid r1
  clear r1 HR
  go_wp2_with (fail)
  refine bodyPost_ret (results_tmp3 rfl _ _ _) rfl ?_
  exact ⟨rfl, R1.out⟩
theorem seal_get_nil (w : World) (p : Int) : Calls Tryz.prog 56 #[.pointer none, .int .i64 p] w fun e w' => e = .returned (.tuple #[.string ⟨#[]⟩, .int .i64 0, .int .i64 2]) ∧ w = w' :=
  seal_get_err w _ p _ 2 (by decide) _ (zone_read_nil w p)
theorem texts_diff {s q : ByteArray} (h : s.data.toList ≠ q.data.toList) : (s.toList == q.toList) = false := by
  rw [beq_eq_false_iff_ne, ByteArray.toList_eq, ByteArray.toList_eq]
  exact h
section
variable (w : World) (Z n : Nat) (rd : Nat → Nat → UInt8)
theorem seal_get_out (hr : Reads w Z n rd) (p : Int) (hp : p < 0 ∨ (n : Int) ≤ p) : Calls Tryz.prog 56 #[.pointer (some ⟨Z, 0, none⟩), .int .i64 p] w fun e w' => e = .returned (.tuple #[.string ⟨#[]⟩, .int .i64 0, .int .i64 3]) ∧ w = w' :=
  seal_get_err w _ p _ 3 (by decide) _ (hr.out w (Below.refl _ _) p hp)
set_option maxRecDepth 100000 in
set_option maxHeartbeats 3200000 in
theorem seal_get (hr : Reads w Z n rd) (hT : Tabs w) (hn : n ≤ 4096) (p : Nat) (hp : p < n) :
    Calls Tryz.prog 56 #[.pointer (some ⟨Z, 0, none⟩), .int .i64 (p : Int)] w fun e w' => e = .returned (.tuple #[.string (getR rd n p).1, .int .i64 ((getR rd n p).2.1 : Int), .int .i64 ((getR rd n p).2.2 : Int)]) ∧ Below w.heap.size w w' := by
  have HRD := Lib.hid (hr.here w (Below.refl _ _) p hp)
  have HG := Lib.hid (fun (b : Bool) (hb : okG rd n p = b) W (hW : Below w.heap.size w W) => seal_gather W Z n rd (hr.below hW) p (numG (rd p)) (by omega) b hb)
  have HNU := Lib.hid (fun W => seal_numberOf W (rd p))
  have HT := Lib.hid hT
  clear hr hT hn hp
  cases hok : okG rd n p with
  | false =>
    have g0 := HG.out false hok
    simp only [Bool.false_eq_true, if_false] at g0
    have G0 := Lib.hid g0
    have e0 : getR rd n p = (⟨#[]⟩, 0, 5) := by unfold getR; rw [if_neg (by rw [hok]; exact Bool.false_ne_true)]
    rw [e0]
    show Calls _ _ _ _ fun e w' => e = .returned (.tuple #[.string ⟨#[]⟩, .int .i64 0, .int .i64 5]) ∧ _
    clear HG hok e0 HT g0
    generalize secS (rd p) = q at HRD HNU
    generalize (numG (rd p) : Int) = nn at HNU G0
    go_enter Tryz.func56, Tryz.ntmps56
    go_wp2_with (fail)
    refine HRD.out.mono ?_
    rintro e w1 ⟨rfl, b1⟩
    have B1 := Lib.hid b1
    clear b1 HRD
    go_wp2_with (fail)
    refine (HNU.out w1).mono ?_
    rintro e w2 ⟨rfl, b2⟩
    have B2 := Lib.hid (B1.out.trans (b2.mono B1.out.size))
    clear b2 B1 HNU
    go_wp2_with (fail)
    refine (G0.out w2 B2.out).mono ?_
    rintro e w3 ⟨rfl, b3⟩
    have B3 := Lib.hid (B2.out.trans (b3.mono B2.out.size))
    clear b3 B2 G0
    go_wp2_with (fail)
    refine bodyPost_ret (results_tmp3 rfl _ _ _) rfl ?_
    exact ⟨rfl, B3.out⟩
  | true =>
    have g0 := HG.out true hok
    simp only [if_true] at g0
    have G0 := Lib.hid g0
    have hlen : lenV rd p ≤ 1024 := ((okG_iff rd n p).1 hok).2.2.1
    have h2 := szN_two (lenV rd p)
    have TR := Lib.hid (tail_rest rd p _ h2)
    have TB := Lib.hid (tail_ok rd p _ h2)
    have TX := Lib.hid (text_got rd p hlen)
    have TS := Lib.hid (textG_size rd p hlen)
    have TZ := Lib.hid (show (tailG rd p (szN (lenV rd p))).size ≤ 281474976710656 by rw [tail_size]; have := szN_max _ hlen; omega)
    have HSE := Lib.hid (fun W (hW : Below w.heap.size w W) => seal_sealed W (textG rd p) TS.out (HT.out.below hW))
    have HA := Lib.hid (show (⟨(allG rd p).toArray⟩ : ByteArray) = ⟨(jnL rd p (szN (lenV rd p))).toArray⟩ from rfl)
    rw [← HA.out] at TR TB
    have e0 : getR rd n p = if allG rd p = sealL (textG rd p) then (textG rd p, numG (rd p), 0) else (⟨#[]⟩, 0, 6) := by unfold getR; rw [if_pos hok]
    by_cases hsum : allG rd p = sealL (textG rd p)
    · rw [if_pos hsum] at e0
      rw [e0]
      show Calls _ _ _ _ fun e w' => e = .returned (.tuple #[.string (textG rd p), .int .i64 (numG (rd p) : Int), .int .i64 0]) ∧ _
      have t1 : ((⟨(allG rd p).toArray⟩ : ByteArray).toList == (⟨(sealL (textG rd p)).toArray⟩ : ByteArray).toList) = true := by rw [hsum]; exact beq_self_eq_true _
      clear HG hok e0 g0 hlen h2 TS HT HA hsum
      generalize (⟨(allG rd p).toArray⟩ : ByteArray) = al at G0 TR TB t1
      generalize (⟨(sealL (textG rd p)).toArray⟩ : ByteArray) = se at HSE t1
      generalize textG rd p = tx at TX HSE ⊢
      generalize tailG rd p (szN (lenV rd p)) = tl at TR TX TZ
      generalize secS (rd p) = q at HRD HNU
      generalize (numG (rd p) : Int) = nn at HNU G0 ⊢
      go_enter Tryz.func56, Tryz.ntmps56
      go_wp2_with (fail)
      refine HRD.out.mono ?_
      rintro e w1 ⟨rfl, b1⟩
      have B1 := Lib.hid b1
      clear b1 HRD
      go_wp2_with (fail)
      refine (HNU.out w1).mono ?_
      rintro e w2 ⟨rfl, b2⟩
      have B2 := Lib.hid (B1.out.trans (b2.mono B1.out.size))
      clear b2 B1 HNU
      go_wp2_with (fail)
      refine (G0.out w2 B2.out).mono ?_
      rintro e w3 ⟨rfl, b3⟩
      have B3 := Lib.hid (B2.out.trans (b3.mono B2.out.size))
      clear b3 B2 G0
      go_wp2_with (fail)
      refine (eye_of _ w3).mono ?_
      rintro e w4 ⟨rfl, h4, b4⟩
      have E4 := Lib.hid h4
      have B4 := Lib.hid (B3.out.trans (b4.mono B3.out.size))
      have s3 := B3.out.size
      clear h4 b4 B3
      go_wp2_with (fail)
      refine (eye_digest w4 w3.heap.size _ false E4.out).mono ?_
      rintro e w5 ⟨rfl, h5, o5⟩
      rw [TR.out, TB.out] at h5
      have E5 := Lib.hid h5
      have B5 := Lib.hid (B4.out.trans (o5.below s3 B4.out.size))
      clear h5 o5 E4 B4 TR TB
      generalize dgV (dgOut al) = dgs
      go_wp2_with (fail)
      refine (eye_text w5 w3.heap.size _ false E5.out TZ.out 1024).mono ?_
      rintro e w6 ⟨rfl, _, o6⟩
      rw [TX.out]
      have B6 := Lib.hid (B5.out.trans (o6.below s3 B5.out.size))
      clear o6 E5 B5 TX
      go_wp2_with (fail)
      refine (HSE.out w6 B6.out).mono ?_
      rintro e w7 ⟨rfl, b7⟩
      have B7 := Lib.hid (B6.out.trans (b7.mono B6.out.size))
      clear b7 B6
      go_wp2_with (fail)
      refine bodyPost_ret (results_tmp3 rfl _ _ _) rfl ?_
      exact ⟨rfl, B7.out⟩
    · rw [if_neg hsum] at e0
      rw [e0]
      show Calls _ _ _ _ fun e w' => e = .returned (.tuple #[.string ⟨#[]⟩, .int .i64 0, .int .i64 6]) ∧ _
      have t1 : ((⟨(allG rd p).toArray⟩ : ByteArray).toList == (⟨(sealL (textG rd p)).toArray⟩ : ByteArray).toList) = false := texts_diff hsum
      clear HG hok e0 g0 hlen h2 TS HT HA hsum
      generalize (⟨(allG rd p).toArray⟩ : ByteArray) = al at G0 TR TB t1
      generalize (⟨(sealL (textG rd p)).toArray⟩ : ByteArray) = se at HSE t1
      generalize textG rd p = tx at TX HSE
      generalize tailG rd p (szN (lenV rd p)) = tl at TR TX TZ
      generalize secS (rd p) = q at HRD HNU
      generalize (numG (rd p) : Int) = nn at HNU G0
      go_enter Tryz.func56, Tryz.ntmps56
      go_wp2_with (fail)
      refine HRD.out.mono ?_
      rintro e w1 ⟨rfl, b1⟩
      have B1 := Lib.hid b1
      clear b1 HRD
      go_wp2_with (fail)
      refine (HNU.out w1).mono ?_
      rintro e w2 ⟨rfl, b2⟩
      have B2 := Lib.hid (B1.out.trans (b2.mono B1.out.size))
      clear b2 B1 HNU
      go_wp2_with (fail)
      refine (G0.out w2 B2.out).mono ?_
      rintro e w3 ⟨rfl, b3⟩
      have B3 := Lib.hid (B2.out.trans (b3.mono B2.out.size))
      clear b3 B2 G0
      go_wp2_with (fail)
      refine (eye_of _ w3).mono ?_
      rintro e w4 ⟨rfl, h4, b4⟩
      have E4 := Lib.hid h4
      have B4 := Lib.hid (B3.out.trans (b4.mono B3.out.size))
      have s3 := B3.out.size
      clear h4 b4 B3
      go_wp2_with (fail)
      refine (eye_digest w4 w3.heap.size _ false E4.out).mono ?_
      rintro e w5 ⟨rfl, h5, o5⟩
      rw [TR.out, TB.out] at h5
      have E5 := Lib.hid h5
      have B5 := Lib.hid (B4.out.trans (o5.below s3 B4.out.size))
      clear h5 o5 E4 B4 TR TB
      generalize dgV (dgOut al) = dgs
      go_wp2_with (fail)
      refine (eye_text w5 w3.heap.size _ false E5.out TZ.out 1024).mono ?_
      rintro e w6 ⟨rfl, _, o6⟩
      rw [TX.out]
      have B6 := Lib.hid (B5.out.trans (o6.below s3 B5.out.size))
      clear o6 E5 B5 TX
      go_wp2_with (fail)
      refine (HSE.out w6 B6.out).mono ?_
      rintro e w7 ⟨rfl, b7⟩
      have B7 := Lib.hid (B6.out.trans (b7.mono B6.out.size))
      clear b7 B6
      go_wp2_with (fail)
      refine bodyPost_ret (results_tmp3 rfl _ _ _) rfl ?_
      exact ⟨rfl, B7.out⟩
end
end Go.Proofs.YtnmgkkjnjllpbaaGreatDoor
namespace Go.Proofs.YtnmgkkjnjllpbaaGreatDoor
open Go.ChangeShapes Go.WideShapes Go.ChangeAt Go.RowKit Pn Dk Sl

namespace Sl
/-- Whether there are sectors of a number and a text. -/
def layB (n : Int) (s : ByteArray) : Bool := decide (1 ≤ n) && (decide (n ≤ 2147483647) && decide (s.size ≤ 1024))
theorem layB_true {n : Int} {s : ByteArray} (h : layB n s = true) : 1 ≤ n ∧ n ≤ 2147483647 ∧ s.size ≤ 1024 := by
  unfold layB at h
  rw [Bool.and_eq_true, Bool.and_eq_true, decide_eq_true_iff, decide_eq_true_iff, decide_eq_true_iff] at h
  exact h
theorem lay_sec (n : Nat) (L : List UInt8) (k sz : Nat) (hL : L.length = 28 * sz) (hk : k < sz) : (⟨(L.drop (28 * k)).toArray⟩ : ByteArray).extract 0 28 ++ ⟨(numL (n : Int)).toArray⟩ = secS (secF n L k) := by
  apply ByteArray.ext
  apply Array.toList_inj.1
  rw [ByteArray.data_append, Array.toList_append, ByteArray.data_extract, Array.toList_extract, List.extract_eq_take_drop]
  show List.take 28 (List.drop 0 (L.drop (28 * k))) ++ numL (n : Int) = (List.range 32).map (secF n L k)
  rw [List.drop_zero]
  apply List.ext_getElem?
  intro j
  have hl : ((L.drop (28 * k)).take 28).length = 28 := by rw [List.length_take, List.length_drop]; omega
  by_cases h28 : j < 28
  · rw [List.getElem?_append_left (by omega), List.getElem?_take_of_lt h28, List.getElem?_drop, List.getElem?_map, List.getElem?_range (by omega)]
    show _ = some (secF n L k j)
    unfold secF
    rw [if_pos h28, List.getD_eq_getElem?_getD, List.getElem?_eq_getElem (by omega)]
    rfl
  · rw [List.getElem?_append_right (by omega), hl]
    by_cases h32 : j < 32
    · rw [List.getElem?_map, List.getElem?_range h32]
      show _ = some (secF n L k j)
      unfold secF numL
      rw [if_neg h28, List.getElem?_map, List.getElem?_range (by omega)]
      rfl
    · rw [List.getElem?_eq_none (by rw [numL_length]; omega), List.getElem?_eq_none (by rw [List.length_map, List.length_range]; omega)]
theorem szL4 (L : List UInt8) : (⟨L.toArray⟩ : ByteArray).size = L.length := by simp [ByteArray.size]
theorem lay_rest (L : List UInt8) (k : Nat) : (⟨(L.drop (28 * k)).toArray⟩ : ByteArray).extract 28 (⟨(L.drop (28 * k)).toArray⟩ : ByteArray).size = ⟨(L.drop (28 * (k + 1))).toArray⟩ := by
  apply ByteArray.ext
  apply Array.toList_inj.1
  rw [ByteArray.data_extract, Array.toList_extract, List.extract_eq_take_drop, szL4]
  show List.take ((L.drop (28 * k)).length - 28) (List.drop 28 (L.drop (28 * k))) = L.drop (28 * (k + 1))
  rw [List.take_of_length_le (by rw [List.length_drop]; exact Nat.le_refl _), List.drop_drop, Nat.mul_succ]
def secsV (n : Nat) (L : List UInt8) (k : Nat) : List Value := (List.range k).map fun i => .string (secS (secF n L i))
theorem secsV_next (n : Nat) (L : List UInt8) (k : Nat) : secsV n L k ++ [.string (secS (secF n L k))] = secsV n L (k + 1) := by
  unfold secsV; rw [List.range_succ, List.map_append]; rfl
theorem secsV_length (n : Nat) (L : List UInt8) (k : Nat) : (secsV n L k).length = k := by simp [secsV]
theorem secsV_get (n : Nat) (L : List UInt8) (k i : Nat) (h : i < k) : (secsV n L k)[i]? = some (.string (secS (secF n L i))) := by simp [secsV, h]
theorem one_num (n : Int) : numsL (fun _ => n) 1 = numL n := by simp [numsL, List.range, List.range.loop]
theorem one_ok (n : Int) (h : numOk n = true) : (false || !numsOk (fun _ => n) 1) = false := by simp [numsOk, List.range, List.range.loop, h]
end Sl
theorem Chain.grown {w w' : World} {p : Nat} {row : Option Nat} (hg : w.grownBy w' row) (hr : ∀ g, row = some g → ∃ c, w.heap[g]? = some (.cells c 9 (0, 0))) : ∀ {l : List ByteArray} {a : Option Addr}, Chain w p a l → Chain w' p a l
  | [], _, h => h
  | _ :: _, _, ⟨g, ah, e, hne, hx, hc⟩ => ⟨g, ah, e, hne, (hg.block g (Array.getElem?_eq_some_iff.1 hx).1 (fun e => by obtain ⟨c, hb⟩ := hr g e.symm; exact ne_type hx hb (by decide) rfl)).trans hx, hc.grown hg hr⟩
/-- A row of texts that grows leaves a pen as it is. -/
theorem PenAt.grown {w w' : World} {p : Nat} {l : List ByteArray} {bad : Bool} {row : Option Nat} (h : PenAt w p l bad) (hg : w.grownBy w' row) (hr : ∀ g, row = some g → ∃ c, w.heap[g]? = some (.cells c 9 (0, 0))) : PenAt w' p l bad := by
  obtain ⟨a, h1, h2⟩ := h
  exact ⟨a, h1.of_block (hg.block p h1.lt (fun e => by obtain ⟨c, hb⟩ := hr p e.symm; exact ne_type h1 hb (by decide) rfl)), h2.grown hg hr⟩
theorem infoStr : (Tryz.prog.info? 9).map (fun i => (i.zero, i.size, i.bytes)) = some (some (.string ⟨#[]⟩), 1, 16) := by kernel_rfl
set_option maxRecDepth 100000 in
theorem seal_lay_not (w : World) (n : Int) (s : ByteArray) (hs : s.size ≤ maxLen) (h : layB n s = false) :
    Calls Tryz.prog 67 #[.int .i64 n, .string s] w fun e w' => e = .returned (.tuple #[.slice none 0 0, .int .i64 1]) ∧ w = w' := by
  unfold maxLen at hs
  by_cases h1 : n < 1
  · have t1 : decide (n < 1) = true := decide_eq_true h1
    go_enter Tryz.func67, Tryz.ntmps67
    go_wp2
    refine bodyPost_ret (results_tmp2 rfl _ _ _) rfl ?_
    exact ⟨rfl, rfl⟩
  have t1 : decide (n < 1) = false := decide_eq_false h1
  by_cases h2 : 2147483647 < n
  · have t2 : decide (2147483647 < n) = true := decide_eq_true h2
    go_enter Tryz.func67, Tryz.ntmps67
    go_wp2
    refine bodyPost_ret (results_tmp2 rfl _ _ _) rfl ?_
    exact ⟨rfl, rfl⟩
  have t2 : decide (2147483647 < n) = false := decide_eq_false h2
  have h3 : 1024 < s.size := by
    unfold layB at h
    rw [decide_eq_true (show 1 ≤ n by omega), decide_eq_true (show n ≤ 2147483647 by omega), Bool.true_and, Bool.true_and, decide_eq_false_iff_not] at h
    omega
  have h3i : (1024 : Int) < (s.size : Int) := by omega
  have t3 : decide ((1024 : Int) < (s.size : Int)) = true := decide_eq_true h3i
  clear h
  go_enter Tryz.func67, Tryz.ntmps67
  go_wp2
  refine bodyPost_ret (results_tmp2 rfl _ _ _) rfl ?_
  exact ⟨rfl, rfl⟩
theorem own_cells {w : World} {base g n cap : Nat} {xs : List Value} (h : w.ownsRow base 9 1 (.slice (some ⟨g, 0, none⟩) n cap) n xs) : base ≤ g ∧ n ≤ cap ∧ ∀ i u, xs[i]? = some u → w.cell? ⟨g, i, none⟩ = some u := by
  refine ⟨(h.lt g rfl).1, ?_, fun i u hi => ?_⟩
  · rcases h.2 with ⟨hn, _⟩ | ⟨g', cap', cur, hv, _, _, hle, _⟩
    · cases hn
    · injection hv with _ _ h3
      omega
  · have := h.cells (g := g) rfl i u hi
    rwa [Addr.add_lit, Nat.zero_add] at this
/-- New texts in a row. -/
def Sects (w : World) (n : Nat) (L : List UInt8) (sz : Nat) (e : Ending) (w' : World) : Prop :=
  ∃ g cap, e = .returned (.tuple #[.slice (some ⟨g, 0, none⟩) sz cap, .int .i64 0]) ∧ w.heap.size ≤ g ∧ sz ≤ cap ∧ (∀ i, i < sz → w'.cell? ⟨g, i, none⟩ = some (.string (secS (secF n L i)))) ∧ Below w.heap.size w w'
set_option maxRecDepth 100000 in
set_option maxHeartbeats 3200000 in
theorem seal_lay (w : World) (n : Nat) (s : ByteArray) (h1 : 1 ≤ n) (h2 : n ≤ 2147483647) (hs : s.size ≤ 1024) (hT : Tabs w) :
    Calls Tryz.prog 67 #[.int .i64 (n : Int), .string s] w (Sects w n (sealL s) (szN s.size)) := by
  have HZ := Lib.hid (seal_size · s (by omega))
  have HSE := Lib.hid (fun W (hW : Below w.heap.size w W) => seal_sealed W s hs (hT.below hW))
  have hL := sealL_length s
  have h2z := szN_two s.size
  have hmx := szN_max s.size hs
  have y1 : ¬ (n : Int) < 1 := by omega
  have y2 : ¬ (2147483647 : Int) < (n : Int) := by omega
  have y3 : ¬ (1024 : Int) < (s.size : Int) := by omega
  have t1 : decide ((n : Int) < 1) = false := decide_eq_false y1
  have t2 : decide ((2147483647 : Int) < (n : Int)) = false := decide_eq_false y2
  have t3 : decide ((1024 : Int) < (s.size : Int)) = false := decide_eq_false y3
  have HOK := Lib.hid (num_ok (n := (n : Int)) (by omega) (by omega))
  have HLL := Lib.hid hL
  have HNL := Lib.hid (numL_length (n : Int))
  have HPB := Lib.hid (show ∀ W, PenAt W w.heap.size [⟨(numL (n : Int)).toArray⟩] false → Calls Tryz.prog 71 #[.pointer (some ⟨w.heap.size, 0, none⟩)] W fun e w' => e = .returned (.string ⟨(numL (n : Int)).toArray⟩) ∧ Below W.heap.size W w' from fun W h => by
    have hb := pen_bytes W w.heap.size _ false h (by simp only [total, szL4, numL_length]; omega)
    rw [show penL [⟨(numL (n : Int)).toArray⟩] = numL (n : Int) by simp [penL]] at hb
    exact hb)
  clear h1 h2 hs hT hL y1 y2 y3
  generalize sealL s = L at HSE HLL ⊢
  generalize szN s.size = sz at HZ HLL h2z hmx ⊢
  obtain ⟨i0, hi, hz0, hz1, hz2⟩ := info_parts infoStr
  have HI := Lib.hid hi
  have HZ0 := Lib.hid hz0
  have HZ1 := Lib.hid hz1
  have HZ2 := Lib.hid hz2
  clear hi hz0 hz1 hz2
  go_enter Tryz.func67, Tryz.ntmps67
  go_wp2_with (fail)
  clear t1 t2 t3
  refine gen_calls (fun W => W.heap.size = w.heap.size + 2 ∧ PenHd W w.heap.size none false ∧ W.heap[w.heap.size + 1]? = some (.cells #[.int .i64 (n : Int)] 3 (0, 0)) ∧ Below w.heap.size w W) ?_ ?_
  · refine ⟨by simp, ?_, ?_, ((Below.refl _ _).alloc (Nat.le_refl _) _).alloc (by simp) _⟩
    · exact (heap_alloc_old _ _ (by simp)).trans (heap_alloc_new w _)
    · exact heap_alloc2_new w _ _
  rintro w1 ⟨s1, p1, c1, b1⟩
  refine (pen_num w1 w.heap.size [] false ⟨none, p1, rfl⟩ (some ⟨w.heap.size + 1, 0, none⟩) 1 1 (fun _ => (n : Int)) (by omega) (fun _ => ⟨_, 0, rfl, by omega, fun k hk => ?_⟩) (by simp only [total]; omega)).mono ?_
  · obtain rfl : k = 0 := by omega
    exact cell_of_row _ _ 0 _ _ _ c1
  rintro e w2 ⟨rfl, h2, o2⟩
  rw [one_num, one_ok _ HOK.out] at h2
  have H2 := Lib.hid h2
  have B2 := Lib.hid (b1.trans (o2.below (Nat.le_refl _) (by omega)))
  have hs2 : w.heap.size + 1 ≤ w2.heap.size := H2.out.lt
  clear h2 o2 s1 p1 c1 b1
  go_wp2_with (fail)
  refine (HZ.out w2).mono ?_
  rintro e w3 ⟨rfl, rfl⟩
  go_wp2_with (at_make; refine wpList_make_own _ rfl _ _ 48 rfl (w.heap.size + 1) 9 i0 _ 1 Tryz.underlying48 HI.out HZ0.out HZ1.out .i64 .i64 _ sz rfl rfl (by first | rfl | omega) (by rw [HZ2.out]; omega) (by unfold maxLen; omega) hs2 ?_; intro w4 hown hg4; have b4 : Below w2.heap.size w2 w4 := (Below.refl _ _).grown hg4 (Nat.le_refl _) (fun k hk => by cases hk); have HB4 := Lib.hid b4; have HW4 := Lib.hid hown; clear hg4 b4 hown)
  have H4 := Lib.hid (H2.out.below HB4.out)
  have B4 := Lib.hid (B2.out.trans (HB4.out.mono B2.out.size))
  clear HB4 H2 B2
  refine (HSE.out w4 B4.out).mono ?_
  rintro e w5 ⟨rfl, b5⟩
  have H5 := Lib.hid (H4.out.below b5)
  have W5 := Lib.hid (own_keep HW4.out (fun i hi => b5.block i (HW4.out.lt i hi).2))
  have B5 := Lib.hid (B4.out.trans (b5.mono B4.out.size))
  clear b5 H4 HW4 B4 HSE HZ
  go_wp2_with (fail)
  go_loopw [7, 8] (fun row rest wr => ∃ k g c : Nat, k ≤ sz ∧ row = .slice (some ⟨g, 0, none⟩) k c ∧ rest = .string ⟨(L.drop (28 * k)).toArray⟩ ∧ wr.ownsRow (w.heap.size + 1) 9 1 row k (secsV n L k) ∧ PenAt wr w.heap.size [⟨(numL (n : Int)).toArray⟩] false ∧ Below w.heap.size w wr) (fun _ rest _ => match rest with | .string q => q.size | _ => 0)
  case atStart => exact ⟨0, _, sz, Nat.zero_le _, rfl, rfl, W5.out, H5.out, B5.out⟩
  case round =>
    clear W5 H5 B5
    obtain ⟨k, g, c, hk, rfl, rfl, hown, hpen, hb⟩ := hrel
    have HOW := Lib.hid hown
    have HP := Lib.hid hpen
    have HB := Lib.hid hb
    clear hown hpen hb
    by_cases hlt : k < sz
    · have hz := szL4 (L.drop (28 * k))
      have hzz : (⟨(L.drop (28 * k)).toArray⟩ : ByteArray).size = 28 * (sz - k) := by rw [hz, List.length_drop, HLL.out]; omega
      have hne := not_empty (q := ⟨(L.drop (28 * k)).toArray⟩) (by omega)
      have HSC := Lib.hid (lay_sec n L k sz HLL.out hlt)
      have HRS := Lib.hid (lay_rest L k)
      have HNX := Lib.hid (secsV_next n L k)
      have hz28 : (28 : Int) ≤ ((⟨(L.drop (28 * k)).toArray⟩ : ByteArray).size : Int) := by omega
      have HNS := Lib.hid (show (⟨(L.drop (28 * (k + 1))).toArray⟩ : ByteArray).size < (⟨(L.drop (28 * k)).toArray⟩ : ByteArray).size by rw [szL4, szL4, List.length_drop, List.length_drop, HLL.out]; omega)
      have hs2r : w.heap.size + 1 ≤ wr.heap.size := HP.out.lt
      clear hz hzz
      generalize (⟨(L.drop (28 * k)).toArray⟩ : ByteArray) = q at hne HSC HRS hz28 HNS ⊢
      have hpb := HPB.out wr.drew (HP.out.below (below_drewN (Below.refl _ _) 1))
      have hnm : (⟨(numL (n : Int)).toArray⟩ : ByteArray).size = 4 := by rw [szL4, HNL.out]
      have hsn : ¬ 9223372036854775807 < (q.extract 0 28).size + (⟨(numL (n : Int)).toArray⟩ : ByteArray).size := by rw [extract_size _ _ _ (by omega), hnm]; omega
      have hsn2 : ¬ 9223372036854775807 < min 28 q.size + (⟨(numL (n : Int)).toArray⟩ : ByteArray).size := by rw [hnm]; omega
      clear hnm
      have HPP := Lib.hid hpb
      clear hpb
      generalize hNM : (⟨(numL (n : Int)).toArray⟩ : ByteArray) = nm at HPP HSC hsn hsn2
      have HP2 := Lib.hid (show PenAt wr w.heap.size [nm] false by rw [← hNM]; exact HP.out)
      clear hNM
      have hsx : (q.extract 0 28 ++ nm).size = 32 := by rw [HSC.out]; exact secS_size _
      go_wp2_with (fail)
      go_region_held3 (fun _ : World => True) (first | exact trivial) (first
        | (go_at_call 71; (with_reducible refine HPP.out.mono ?_); rintro e w9 ⟨rfl, b9⟩)
        | ((refine step_append_lies _ (by rfl) _ _ _ (by rfl) (w.heap.size + 1) 9 i0 _ 1 16 Tryz.underlying48 HI.out HZ0.out HZ1.out HZ2.out rfl (by omega) (.slice (some ⟨g, 0, none⟩) k c) k (secsV n L k) (by rfl) (own_keep HOW.out (fun i hi => (heap_alloc_old w9 _ (Nat.lt_of_lt_of_le (HOW.out.lt i hi).2 b9.size)).trans (b9.block i (HOW.out.lt i hi).2)))
                ⟨w9.heap.size, 0, none⟩ 1 1 [.string (q.extract 0 28 ++ nm)] (by rfl) (by rfl) (World.news_of_block (cs := #[.string (q.extract 0 28 ++ nm)]) (t := 9) (fr := (0, 0)) (heap_alloc_new w9 _)) (by simp [Value.oneCell'])
                (by omega) (by unfold maxLen; omega) (by omega) (by have := HB.out.size; have := b9.size; have := hs2r; simp at *; omega) (w9.heap.size + 1) (by simp) ?_; intro gg cap wz hownz hgrow hat hltz)))
      have b10 : Below wr.heap.size wr (w9.alloc (.cells #[.string (q.extract 0 28 ++ nm)] 9)) := ((below_drewN (Below.refl _ wr) 1).trans b9).alloc b9.size _
      have hw10 := own_keep HOW.out (fun i hi => b10.block i (HOW.out.lt i hi).2)
      rw [HSC.out, HNX.out] at hownz
      rw [HSC.out] at hgrow b10 hw10
      have HF := Lib.hid (show (∃ j g' c' : Nat, j ≤ sz ∧ Value.slice (some ⟨gg, 0, none⟩) (k + 1) cap = .slice (some ⟨g', 0, none⟩) j c' ∧ Value.string ⟨(L.drop (28 * (k + 1))).toArray⟩ = .string ⟨(L.drop (28 * j)).toArray⟩ ∧ wz.ownsRow (w.heap.size + 1) 9 1 (Value.slice (some ⟨gg, 0, none⟩) (k + 1) cap) j (secsV n L j) ∧ PenAt wz w.heap.size [nm] false ∧ Below w.heap.size w wz) from
        ⟨k + 1, gg, cap, by omega, rfl, rfl, hownz, (HP2.out.below b10).grown hgrow (fun g' hg' => own_type hw10 g' hg'), (HB.out.trans (b10.mono HB.out.size)).grown hgrow (by have := HB.out.size; have := b10.size; omega) (fun i hi => by have := (hw10.lt i hi).1; omega)⟩)
      clear hownz hgrow b10 hw10 b9 hsx hat hltz
      go_wp2_with (fail)
      rw [HRS.out]
      exact ⟨HF.out, HNS.out⟩
    · have hke : k = sz := by omega
      subst hke
      have HE := Lib.hid (show (⟨(L.drop (28 * k)).toArray⟩ : ByteArray) = ⟨#[]⟩ by rw [List.drop_of_length_le (by rw [HLL.out]; exact Nat.le_refl _)])
      rw [HE.out]
      clear hlt HE
      go_wp2_with (fail)
      refine bodyPost_ret (results_tmp2 rfl _ _ _) rfl ?_
      obtain ⟨hb0, hcc, hc⟩ := own_cells HOW.out
      exact ⟨g, c, rfl, by omega, hcc, fun i hi => hc i _ (secsV_get n L k i hi), HB.out⟩
end Go.Proofs.YtnmgkkjnjllpbaaGreatDoor
namespace Go.Proofs.YtnmgkkjnjllpbaaGreatDoor
open Go.ChangeShapes Go.WideShapes Go.ChangeAt Go.RowKit Pn Dk Sl

theorem seal_put_nil (w : World) (p n : Int) (s : ByteArray) : Calls Tryz.prog 40 #[.pointer none, .int .i64 p, .int .i64 n, .string s] w fun e w' => e = .returned (.int .i64 2) ∧ w = w' := by
  go_enter Tryz.func40, Tryz.ntmps40
  go_wp2
  refine bodyPost_ret (results_tmp rfl _ _ _) rfl ?_
  exact ⟨rfl, rfl⟩
theorem seal_put_arg (w : World) (Z : Nat) (p n : Int) (s : ByteArray) (hs : s.size ≤ maxLen) (h : layB n s = false) :
    Calls Tryz.prog 40 #[.pointer (some ⟨Z, 0, none⟩), .int .i64 p, .int .i64 n, .string s] w fun e w' => e = .returned (.int .i64 1) ∧ w = w' := by
  have HL := Lib.hid (seal_lay_not w n s hs h)
  clear hs h
  go_enter Tryz.func40, Tryz.ntmps40
  go_wp2_with (fail)
  refine HL.out.mono ?_
  rintro e w1 ⟨rfl, rfl⟩
  go_wp2
  refine bodyPost_ret (results_tmp rfl _ _ _) rfl ?_
  exact ⟨rfl, rfl⟩
section
variable (w : World) (Z D f nz : Nat) (hz : w.heap[Z]? = some (zobj D f nz)) (hnz : nz ≤ 4096) (n : Nat) (s : ByteArray) (h1 : 1 ≤ n) (h2 : n ≤ 2147483647) (hs : s.size ≤ 1024) (hT : Tabs w)
include hz hnz h1 h2 hs hT
set_option maxRecDepth 100000 in
theorem seal_put_range (p : Int) (hp2 : p ≤ 9223372036854775807) (hp : p < 0 ∨ (nz : Int) - (szN s.size : Int) < p) :
    Calls Tryz.prog 40 #[.pointer (some ⟨Z, 0, none⟩), .int .i64 p, .int .i64 (n : Int), .string s] w fun e w' => e = .returned (.int .i64 3) ∧ Below w.heap.size w w' := by
  have HL := Lib.hid (seal_lay w n s h1 h2 hs hT)
  have HZ := Lib.hid (show ∀ W, Below w.heap.size w W → Calls Tryz.prog 68 #[.pointer (some ⟨Z, 0, none⟩)] W fun e w' => e = .returned (.int .i64 (nz : Int)) ∧ W = w' from fun W hW => zone_len W Z D f nz ((hW.block Z (Array.getElem?_eq_some_iff.1 hz).1).trans hz))
  have hmx := szN_max s.size hs
  clear hz h1 h2 hs hT
  generalize sealL s = L at HL
  generalize szN s.size = sz at HL hp hmx
  by_cases h0 : p < 0
  · have t0 : decide (p < 0) = true := decide_eq_true h0
    clear hp
    go_enter Tryz.func40, Tryz.ntmps40
    go_wp2_with (fail)
    refine HL.out.mono ?_
    rintro e w1 ⟨g, c, rfl, _, _, _, b1⟩
    have B1 := Lib.hid b1
    clear b1
    go_wp2_with (fail)
    refine bodyPost_ret (results_tmp rfl _ _ _) rfl ?_
    exact ⟨rfl, B1.out⟩
  · have t0 : decide (p < 0) = false := decide_eq_false h0
    have x1 : (nz : Int) - (sz : Int) < p := by omega
    have t1 : decide ((nz : Int) - (sz : Int) < p) = true := decide_eq_true x1
    have e1 : IntKind.i64.wrap ((nz : Int) - (sz : Int)) = (nz : Int) - (sz : Int) := IntWalk.i64_in _ (by omega)
    clear hp
    go_enter Tryz.func40, Tryz.ntmps40
    go_wp2_with (fail)
    refine HL.out.mono ?_
    rintro e w1 ⟨g, c, rfl, _, _, _, b1⟩
    have B1 := Lib.hid b1
    clear b1
    go_wp2_with (fail)
    refine (HZ.out w1 B1.out).mono ?_
    rintro e w2 ⟨rfl, rfl⟩
    go_wp2_with (fail)
    refine bodyPost_ret (results_tmp rfl _ _ _) rfl ?_
    exact ⟨rfl, B1.out⟩
set_option maxRecDepth 100000 in
set_option maxHeartbeats 1600000 in
/-- The sectors are written, one by one, rising; the first error ends it. -/
theorem seal_put_by (p : Nat) (hp : p + szN s.size ≤ nz) (I : Nat → Nat → Obj → World → Prop) (E : Int → World → Prop)
    (h0 : ∀ g o W, Below w.heap.size w W → w.heap.size ≤ g → W.heap[g]? = some o → I 0 g o W)
    (hk : ∀ k g o W, k < szN s.size → I k g o W → W.heap[g]? = some o ∧ Calls Tryz.prog 69 #[.pointer (some ⟨Z, 0, none⟩), .int .i64 ((p + k : Nat) : Int), .string (secS (secF n (sealL s) k))] W fun e w' => ∃ m, e = .returned (.int .i64 m) ∧ (m = 0 ∧ I (k + 1) g o w' ∨ m ≠ 0 ∧ E m w')) :
    Calls Tryz.prog 40 #[.pointer (some ⟨Z, 0, none⟩), .int .i64 (p : Int), .int .i64 (n : Int), .string s] w fun e w' => ∃ m, e = .returned (.int .i64 m) ∧ (m = 0 ∧ (∃ g o, I (szN s.size) g o w') ∨ m ≠ 0 ∧ E m w') := by
  have HL := Lib.hid (seal_lay w n s h1 h2 hs hT)
  have HZ := Lib.hid (show ∀ W, Below w.heap.size w W → Calls Tryz.prog 68 #[.pointer (some ⟨Z, 0, none⟩)] W fun e w' => e = .returned (.int .i64 (nz : Int)) ∧ W = w' from fun W hW => zone_len W Z D f nz ((hW.block Z (Array.getElem?_eq_some_iff.1 hz).1).trans hz))
  have hmx := szN_max s.size hs
  have h2z := szN_two s.size
  have H0 := Lib.hid h0
  have HK := Lib.hid hk
  clear hz h1 h2 hs hT h0 hk
  generalize sealL s = L at HL HK
  generalize szN s.size = sz at HL HK hp hmx h2z ⊢
  have x0 : ¬ (p : Int) < 0 := by omega
  have t0 : decide ((p : Int) < 0) = false := decide_eq_false x0
  have x1 : ¬ (nz : Int) - (sz : Int) < (p : Int) := by omega
  have t1 : decide ((nz : Int) - (sz : Int) < (p : Int)) = false := decide_eq_false x1
  have e1 : IntKind.i64.wrap ((nz : Int) - (sz : Int)) = (nz : Int) - (sz : Int) := IntWalk.i64_in _ (by omega)
  go_enter Tryz.func40, Tryz.ntmps40
  go_wp2_with (fail)
  refine HL.out.mono ?_
  rintro e w1 ⟨g, c, rfl, hg, hc, hcell, b1⟩
  have B1 := Lib.hid b1
  obtain ⟨o, ho⟩ : ∃ o, w1.heap[g]? = some o := ⟨_, Array.getElem?_eq_getElem (block_lt_of_cell (hcell 0 (by omega)))⟩
  have HC := Lib.hid (show ∀ W : World, W.heap[g]? = some o → ∀ i, i < sz → W.cell? ⟨g, i, none⟩ = some (.string (secS (secF n L i))) from fun W hW i hi => (World.cell?_of_block (w := w1) (hW.trans ho.symm)).trans (hcell i hi))
  have HI0 := Lib.hid (H0.out g o w1 b1 hg ho)
  clear b1 hcell ho H0 HL hg hc
  go_wp2_with (fail)
  refine (HZ.out w1 B1.out).mono ?_
  rintro e w2 ⟨rfl, rfl⟩
  go_wp2_with (fail)
  clear t0 t1 e1 x0 x1
  go_loopw [38] (fun i wr => ∃ k : Nat, i = .int .i64 (k : Int) ∧ k ≤ sz ∧ I k g o wr) (fun i _ => match i with | .int _ k => sz - k.toNat | _ => 0)
  case atStart => exact ⟨0, rfl, Nat.zero_le _, HI0.out⟩
  case round =>
    clear HI0 B1 HZ
    obtain ⟨k, rfl, hkn, hi⟩ := hrel
    have HKI := Lib.hid hi
    clear hi
    by_cases hlt : k < sz
    · obtain ⟨ho, hw⟩ := HK.out k g o wr hlt HKI.out
      have HW := Lib.hid hw
      have hck := HC.out wr ho k hlt
      have y0 : (k : Int) < (sz : Int) := by omega
      have y1 : decide ((k : Int) < (sz : Int)) = true := decide_eq_true y0
      have y2 : 0 ≤ (k : Int) := by omega
      have e2 : IntKind.i64.wrap ((p : Int) + (k : Int)) = ((p + k : Nat) : Int) := (IntWalk.i64_in _ (by omega)).trans (by omega)
      clear ho hw HC HK
      generalize secS (secF n L k) = q at hck HW
      generalize ((p + k : Nat) : Int) = pk at e2 HW
      go_wp2_with (fail)
      refine HW.out.mono ?_
      rintro e w3 ⟨m, rfl, ⟨rfl, h3⟩ | ⟨hm, h3⟩⟩
      · have H3 := Lib.hid h3
        clear h3 HW hck
        go_wp2_with (fail)
        exact ⟨⟨k + 1, rfl, by omega, H3.out⟩, by show sz - ((k : Int) + 1).toNat < sz - (k : Int).toNat; omega⟩
      · have H3 := Lib.hid h3
        have hm1 : (m != 0) = true := bne_iff_ne.2 hm
        have HM := Lib.hid hm
        clear h3 hm HW hck
        go_wp2_with (fail)
        refine bodyPost_ret (results_tmp rfl _ _ _) rfl ?_
        exact ⟨m, rfl, .inr ⟨HM.out, H3.out⟩⟩
    · have hke : k = sz := by omega
      subst hke
      have y0 : ¬ (k : Int) < (k : Int) := by omega
      have y1 : decide ((k : Int) < (k : Int)) = false := decide_eq_false y0
      clear hlt y0 HC HK
      go_wp2_with (fail)
      refine bodyPost_ret (results_tmp rfl _ _ _) rfl ?_
      exact ⟨0, rfl, .inl ⟨rfl, g, o, HKI.out⟩⟩
end
end Go.Proofs.YtnmgkkjnjllpbaaGreatDoor
namespace Go.Proofs.YtnmgkkjnjllpbaaGreatDoor
open Go Go.RowKit Pn Dk Sl
namespace Dk
/-- The first k sectors from p on are written. -/
def St.laid (x : St) (p : Nat) (G : Nat → Nat → UInt8) : Nat → St
  | 0 => x
  | k + 1 => (x.laid p G k).burnt.put (p + k) (bs (secS (G k)))
section
variable (x : St) (p : Nat) (G : Nat → Nat → UInt8)
theorem laid_n : ∀ k, (x.laid p G k).n = x.n
  | 0 => rfl
  | k + 1 => laid_n k
theorem laid_away : ∀ k, (x.laid p G k).away = x.away
  | 0 => rfl
  | k + 1 => laid_away k
theorem laid_safe : ∀ k, (x.laid p G k).safe = x.safe
  | 0 => rfl
  | k + 1 => laid_safe k
theorem laid_fuse (h : x.fuse = none) : ∀ k, (x.laid p G k).fuse = none
  | 0 => h
  | k + 1 => by
    show (x.laid p G k).fuse.map _ = none
    rw [laid_fuse h k]
    rfl
theorem laid_done : ∀ k, (x.laid p G k).done = x.done + k
  | 0 => rfl
  | k + 1 => by
    show (x.laid p G k).done + 1 = _
    rw [laid_done k]
    rfl
theorem laid_loose : ∀ k, (x.laid p G k).loose = x.loose ++ (List.range k).map fun i => (p + i, bs (secS (G i)))
  | 0 => (List.append_nil _).symm
  | k + 1 => by
    show (x.laid p G k).loose ++ [_] = _
    rw [laid_loose k, List.range_succ, List.map_append, List.append_assoc]
    rfl
theorem laid_len (k : Nat) : (x.laid p G k).loose.length = x.loose.length + k := by rw [laid_loose]; simp
theorem laid_in : ∀ k i, i < k → ∀ j, j < 32 → sect (x.laid p G k).now (p + i) j = G i j
  | 0, i, h, _, _ => absurd h (Nat.not_lt_zero i)
  | k + 1, i, h, j, hj => by
    show sect (putS (x.laid p G k).now (p + k) (bs (secS (G k)))) (p + i) j = _
    by_cases he : i = k
    · subst he
      rw [sect_put_same _ _ _ _ hj, bs_secS _ _ hj]
    · rw [sect_put_other _ _ _ _ _ hj (by omega)]
      exact laid_in k i (by omega) j hj
theorem laid_out : ∀ k q, (q < p ∨ p + k ≤ q) → ∀ j, j < 32 → sect (x.laid p G k).now q j = sect x.now q j
  | 0, _, _, _, _ => rfl
  | k + 1, q, h, j, hj => by
    show sect (putS (x.laid p G k).now (p + k) (bs (secS (G k)))) q j = _
    rw [sect_put_other _ _ _ _ _ hj (by omega)]
    exact laid_out k q (by omega) j hj
theorem laid_full (h : x.Full) : ∀ k, (x.laid p G k).Full
  | 0 => h
  | k + 1 => full_put (x := (x.laid p G k).burnt) (laid_full h k) _ _
def laidL (m : Nat) : List Wr := (List.range m).map fun i => (p + i, bs (secS (G i)))
theorem laidL_get (m i : Nat) (h : i < m) : (laidL p G m).getD i noWr = (p + i, bs (secS (G i))) := by
  unfold laidL
  rw [List.getD_eq_getElem?_getD, List.getElem?_map, List.getElem?_range h]
  rfl
theorem fs_laid (safe : Nat → UInt8) (K : Nat → Bool) (m : Nat) : ∀ k, k ≤ m → ∀ q j, j < 32 → sect (fs safe (laidL p G m) K k) q j = if p ≤ q ∧ q < p + k ∧ K (q - p) = true then G (q - p) j else sect safe q j
  | 0, _, q, j, _ => by rw [if_neg (by omega)]; rfl
  | k + 1, hk, q, j, hj => by
    unfold fs
    have ih := fs_laid safe K m k (by omega) q j hj
    rw [laidL_get p G m k (by omega)]
    by_cases hK : K k = true
    · rw [if_pos hK]
      by_cases he : q = p + k
      · subst he
        rw [show (p + k, bs (secS (G k))).1 = p + k from rfl, sect_put_same _ _ _ _ hj, if_pos ⟨by omega, by omega, by rw [Nat.add_sub_cancel_left]; exact hK⟩, Nat.add_sub_cancel_left]
        exact bs_secS _ _ hj
      · rw [sect_put_other _ _ _ _ _ hj (Ne.symm he), ih]
        by_cases h1 : p ≤ q ∧ q < p + k ∧ K (q - p) = true
        · rw [if_pos h1, if_pos ⟨h1.1, by omega, h1.2.2⟩]
        · rw [if_neg h1, if_neg (fun h => h1 ⟨h.1, by omega, h.2.2⟩)]
    · rw [if_neg hK, ih]
      by_cases h1 : p ≤ q ∧ q < p + k ∧ K (q - p) = true
      · rw [if_pos h1, if_pos ⟨h1.1, by omega, h1.2.2⟩]
      · rw [if_neg h1, if_neg (fun h => h1 ⟨h.1, by
          by_cases he : q = p + k
          · subst he
            rw [Nat.add_sub_cancel_left] at h
            exact absurd h.2.2 hK
          · omega, h.2.2⟩)]
theorem fn_laid (S now : Nat → UInt8) (m : Nat) : ∀ k, k ≤ m → ∀ q j, j < 32 → sect (fn S now (laidL p G m) k) q j = if p ≤ q ∧ q < p + k then sect S q j else sect now q j
  | 0, _, q, j, _ => by rw [if_neg (by omega)]; rfl
  | k + 1, hk, q, j, hj => by
    unfold fn
    have ih := fn_laid S now m k (by omega) q j hj
    rw [laidL_get p G m k (by omega), show (p + k, bs (secS (G k))).1 = p + k from rfl]
    by_cases he : q = p + k
    · subst he
      rw [sect_put_same _ _ _ _ hj, if_pos ⟨by omega, by omega⟩]
    · rw [sect_put_other _ _ _ _ _ hj (Ne.symm he), ih]
      by_cases h1 : p ≤ q ∧ q < p + k
      · rw [if_pos h1, if_pos ⟨h1.1, by omega⟩]
      · rw [if_neg h1, if_neg (by omega)]
/-- What is found behind a loss of power, where nothing was loose ahead of these writes. -/
theorem laid_fall (hl : x.loose = []) (m : Nat) (kl : List Bool) (q j : Nat) (hj : j < 32) :
    sect ((x.laid p G m).fall kl).now q j = if p ≤ q ∧ q < p + m then (if kp kl (q - p) = true then G (q - p) j else sect x.safe q j) else sect x.now q j := by
  have hL : (x.laid p G m).loose = laidL p G m := by rw [laid_loose, hl]; rfl
  have hm : (laidL p G m).length = m := by simp [laidL]
  show sect (fn (fs (x.laid p G m).safe (x.laid p G m).loose (kp kl) (x.laid p G m).loose.length) (x.laid p G m).now (x.laid p G m).loose (x.laid p G m).loose.length) q j = _
  rw [hL, hm, laid_safe, fn_laid p G _ _ m m (Nat.le_refl _) q j hj]
  by_cases h1 : p ≤ q ∧ q < p + m
  · rw [if_pos h1, if_pos h1, fs_laid p G _ _ m m (Nat.le_refl _) q j hj]
    by_cases h2 : kp kl (q - p) = true
    · rw [if_pos ⟨h1.1, h1.2, h2⟩, if_pos h2]
    · rw [if_neg (fun h => h2 h.2.2), if_neg h2]
  · rw [if_neg h1, if_neg h1]
    exact laid_out x p G m q (by omega) j hj
end
end Dk
namespace Sl
/-- Whether all of the first m are kept; none. -/
def allB (kl : List Bool) : Nat → Bool
  | 0 => true
  | m + 1 => allB kl m && kp kl m
def noneB (kl : List Bool) : Nat → Bool
  | 0 => true
  | m + 1 => noneB kl m && !kp kl m
theorem allB_false {kl : List Bool} : ∀ {m q : Nat}, q < m → kp kl q = false → allB kl m = false
  | 0, q, h, _ => absurd h (Nat.not_lt_zero q)
  | m + 1, q, h, hk => by
    unfold allB
    by_cases he : q = m
    · rw [← he, hk, Bool.and_false]
    · rw [allB_false (by omega) hk, Bool.false_and]
theorem noneB_false {kl : List Bool} : ∀ {m q : Nat}, q < m → kp kl q = true → noneB kl m = false
  | 0, q, h, _ => absurd h (Nat.not_lt_zero q)
  | m + 1, q, h, hk => by
    unfold noneB
    by_cases he : q = m
    · rw [← he, hk, Bool.not_true, Bool.and_false]
    · rw [noneB_false (by omega) hk, Bool.false_and]
theorem ok_not {rd : Nat → Nat → UInt8} {n p : Nat} (h : okG rd n p = false) : getR rd n p = (⟨#[]⟩, 0, 5) := by
  unfold getR
  rw [if_neg (by rw [h]; exact Bool.false_ne_true)]
/-- Of two texts with unlike numbers, mixed, nothing is got but one of both. -/
theorem mixed_got (a b : ByteArray) (i k : Nat) (kl : List Bool) (ha : a.size ≤ 1024) (hb : b.size ≤ 1024) (hi1 : 1 ≤ i) (hi2 : i ≤ 2147483647) (hk1 : 1 ≤ k) (hk2 : k ≤ 2147483647) (hne : i ≠ k) (rd : Nat → Nat → UInt8) (n p : Nat)
    (hpa : p + szN a.size ≤ n) (hpb : p + szN b.size ≤ n) (z : Nat → Nat → UInt8) (hz : ∀ q, numG (z q) ≠ k)
    (hrd : ∀ q, p + q < n → ∀ j, j < 32 → rd (p + q) j = if q < szN b.size ∧ kp kl q = true then secF k (sealL b) q j else if q < szN a.size then secF i (sealL a) q j else z q j) :
    getR rd n p = (b, k, 0) ∨ (getR rd n p = (a, i, 0) ∧ allB kl (szN b.size) = false) ∨ (getR rd n p = (⟨#[]⟩, 0, 5) ∧ allB kl (szN b.size) = false ∧ noneB kl (szN b.size) = false) := by
  have h2a := szN_two a.size
  have h2b := szN_two b.size
  have nB : ∀ q, q < szN b.size → kp kl q = true → numG (rd (p + q)) = k := fun q hq hk => (numG_congr fun j hj => by rw [hrd q (by omega) j hj, if_pos ⟨hq, hk⟩]).trans (numG_sec k _ _ hk2)
  have nA : ∀ q, q < szN a.size → ¬ (q < szN b.size ∧ kp kl q = true) → numG (rd (p + q)) = i := fun q hq hn => (numG_congr fun j hj => by rw [hrd q (by omega) j hj, if_neg hn, if_pos hq]).trans (numG_sec i _ _ hi2)
  have nZ : ∀ q, q < szN b.size → kp kl q = false → numG (rd (p + q)) ≠ k := fun q hq hk => by
    by_cases hqa : q < szN a.size
    · rw [nA q hqa (fun h => by rw [hk] at h; exact Bool.false_ne_true h.2)]
      exact hne
    · rw [numG_congr (g := z q) fun j hj => by rw [hrd q (by omega) j hj, if_neg (fun h => by rw [hk] at h; exact Bool.false_ne_true h.2), if_neg hqa]]
      exact hz q
  have stop : ∀ num c q, numG (rd p) = num → q < c → numG (rd (p + q)) ≠ num → (c = 2 ∨ c = szN (lenV rd p)) → okG rd n p = false := fun num c q h0 hq hnum hc => by
    rw [Bool.eq_false_iff]
    intro ho
    obtain ⟨_, o2, _, o4⟩ := (okG_iff rd n p).1 ho
    rw [h0] at o2 o4
    rcases hc with rfl | rfl
    · exact hnum ((jnOk_iff _ _ _ _ _).1 o2 q hq).2
    · exact hnum ((jnOk_iff _ _ _ _ _).1 o4 q hq).2
  cases hk0 : kp kl 0 with
  | true =>
    have e0 : numG (rd p) = k := nB 0 (by omega) hk0
    cases hk1' : kp kl 1 with
    | false =>
      exact .inr (.inr ⟨ok_not (stop k 2 1 e0 (by omega) (nZ 1 (by omega) hk1') (.inl rfl)), allB_false (q := 1) (by omega) hk1', noneB_false (q := 0) (by omega) hk0⟩)
    | true =>
      by_cases hall : ∀ q, q < szN b.size → kp kl q = true
      · refine .inl (got hk1 hk2 hb hpb fun q hq j hj => ?_)
        rw [hrd q (by omega) j hj, if_pos ⟨hq, hall q hq⟩]
      · obtain ⟨q, hq, hqk⟩ : ∃ q, q < szN b.size ∧ kp kl q = false := by
          refine Classical.byContradiction fun h => hall fun q hq => ?_
          cases hh : kp kl q with
          | true => rfl
          | false => exact absurd ⟨q, hq, hh⟩ h
        have hlen : lenV rd p = b.size := by
          refine (show lenV rd p = lenV (fun r => secF k (sealL b) (r - p)) p from ?_).trans (len_sealed (rd := fun r => secF k (sealL b) (r - p)) (num := k) hb fun q hq j hj => by rw [Nat.add_sub_cancel_left])
          unfold lenV
          have h1 : ∀ j, j < 32 → rd (p + 1) j = secF k (sealL b) (p + 1 - p) j := fun j hj => by rw [hrd 1 (by omega) j hj, if_pos ⟨by omega, hk1'⟩, Nat.add_sub_cancel_left]
          rw [h1 4 (by omega), h1 5 (by omega), h1 6 (by omega), h1 7 (by omega)]
        exact .inr (.inr ⟨ok_not (stop k (szN (lenV rd p)) q e0 (by rw [hlen]; exact hq) (nZ q hq hqk) (.inr rfl)), allB_false hq hqk, noneB_false (q := 0) (by omega) hk0⟩)
  | false =>
    have hF : allB kl (szN b.size) = false := allB_false (q := 0) (by omega) hk0
    have e0 : numG (rd p) = i := nA 0 (by omega) (fun h => by rw [hk0] at h; exact Bool.false_ne_true h.2)
    cases hk1' : kp kl 1 with
    | true =>
      refine .inr (.inr ⟨ok_not (stop i 2 1 e0 (by omega) ?_ (.inl rfl)), hF, noneB_false (q := 1) (by omega) hk1'⟩)
      rw [nB 1 (by omega) hk1']
      exact hne.symm
    | false =>
      by_cases hall : ∀ q, q < szN a.size → ¬ (q < szN b.size ∧ kp kl q = true)
      · refine .inr (.inl ⟨got hi1 hi2 ha hpa fun q hq j hj => ?_, hF⟩)
        rw [hrd q (by omega) j hj, if_neg (hall q hq), if_pos hq]
      · obtain ⟨q, hq, hqb, hqk⟩ : ∃ q, q < szN a.size ∧ q < szN b.size ∧ kp kl q = true := by
          refine Classical.byContradiction fun h => hall fun q hq hh => h ⟨q, hq, hh⟩
        have hlen : lenV rd p = a.size := by
          refine (show lenV rd p = lenV (fun r => secF i (sealL a) (r - p)) p from ?_).trans (len_sealed (rd := fun r => secF i (sealL a) (r - p)) (num := i) ha fun q hq j hj => by rw [Nat.add_sub_cancel_left])
          unfold lenV
          have h1 : ∀ j, j < 32 → rd (p + 1) j = secF i (sealL a) (p + 1 - p) j := fun j hj => by rw [hrd 1 (by omega) j hj, if_neg (fun h => by rw [hk1'] at h; exact Bool.false_ne_true h.2), if_pos (by omega), Nat.add_sub_cancel_left]
          rw [h1 4 (by omega), h1 5 (by omega), h1 6 (by omega), h1 7 (by omega)]
        refine .inr (.inr ⟨ok_not (stop i (szN (lenV rd p)) q e0 (by rw [hlen]; exact hq) ?_ (.inr rfl)), hF, noneB_false hqb hqk⟩)
        rw [nB q hqb hqk]
        exact hne.symm
end Sl
end Go.Proofs.YtnmgkkjnjllpbaaGreatDoor
namespace Go.Proofs.YtnmgkkjnjllpbaaGreatDoor
open Go.ChangeShapes Go.WideShapes Go.ChangeAt Go.RowKit Pn Dk Sl

namespace Zn
variable {w0 w w' : World} {D : Nat} {x : Dk.St} {fs : List (Nat × Obj)}
theorem tabs (h : Zn w0 w D x fs) (hT : Tabs w0) : Tabs w := hT.below h.below
theorem put (h : Zn w0 w D x fs) {Z f nz : Nat} (hz : (Z, zobj D f nz) ∈ fs) (hT : Tabs w0) (ha : x.away = false) (hf : x.fuse = none) (hl : x.loose.length ≤ 1073741000) (hd : x.done < 4611686018427380000) (hfn : f + nz ≤ x.n)
    (n : Nat) (s : ByteArray) (h1 : 1 ≤ n) (h2 : n ≤ 2147483647) (hs : s.size ≤ 1024) (p : Nat) (hp : p + szN s.size ≤ nz) :
    Calls Tryz.prog 40 #[.pointer (some ⟨Z, 0, none⟩), .int .i64 (p : Int), .int .i64 (n : Int), .string s] w fun e w' => e = .returned (.int .i64 0) ∧ Zn w0 w' D (x.laid (f + p) (secF n (sealL s)) (szN s.size)) fs := by
  have hnb : x.n ≤ 4096 := by obtain ⟨_, _, _, _, _, _, h⟩ := h.disk; exact h.nb
  have hmx := szN_max s.size hs
  refine (seal_put_by w Z D f nz (h.fix _ hz) (by omega) n s h1 h2 hs (h.tabs hT) p hp (fun k g o W => Zn w0 W D (x.laid (f + p) (secF n (sealL s)) k) ((g, o) :: fs)) (fun _ _ => False)
    (fun g o W hW hg ho => h.add hW hg ho) (fun k g o W hk hW => ⟨hW.fix (g, o) (List.mem_cons_self ..), ?_⟩)).mono ?_
  · refine (hW.write (List.mem_cons_of_mem _ hz) ((laid_away _ _ _ _).trans ha) (laid_fuse _ _ _ hf _) (by rw [laid_len]; omega) (by rw [laid_done]; omega) (by rw [laid_n]; exact hfn) (p + k) (by omega) _ (secS_size _)).mono ?_
    rintro e w' ⟨rfl, h3⟩
    rw [← Nat.add_assoc] at h3
    exact ⟨0, rfl, .inl ⟨rfl, h3⟩⟩
  · rintro e w' ⟨m, rfl, ⟨rfl, g, o, h3⟩ | ⟨_, h3⟩⟩
    · exact ⟨rfl, h3.disk.mono fun i hi => ⟨hi.1, fun z hz => hi.2 z (List.mem_cons_of_mem _ hz)⟩, fun z hz => h3.fix z (List.mem_cons_of_mem _ hz), h3.below⟩
    · exact h3.elim
theorem reads (h : Zn w0 w D x fs) {Z f nz : Nat} (hz : (Z, zobj D f nz) ∈ fs) (ha : x.away = false) (hfn : f + nz ≤ x.n) : Reads w Z nz (rdZ x f) :=
  reads_zone w Z D f nz _ x (h.fix _ hz) h.disk ha hfn
theorem get (h : Zn w0 w D x fs) {Z f nz : Nat} (hz : (Z, zobj D f nz) ∈ fs) (hT : Tabs w0) (ha : x.away = false) (hfn : f + nz ≤ x.n) (p : Nat) (hp : p < nz) {s : ByteArray} {m e0 : Nat} (hg : getR (rdZ x f) nz p = (s, m, e0)) :
    Calls Tryz.prog 56 #[.pointer (some ⟨Z, 0, none⟩), .int .i64 (p : Int)] w fun e w' => e = .returned (.tuple #[.string s, .int .i64 (m : Int), .int .i64 (e0 : Int)]) ∧ Zn w0 w' D x fs := by
  have hnb : x.n ≤ 4096 := by obtain ⟨_, _, _, _, _, _, h⟩ := h.disk; exact h.nb
  have hh := seal_get w Z nz (rdZ x f) (h.reads hz ha hfn) (h.tabs hT) (by omega) p hp
  rw [hg] at hh
  refine hh.mono ?_
  rintro e w' ⟨rfl, b⟩
  exact ⟨rfl, h.step b⟩
end Zn
end Go.Proofs.YtnmgkkjnjllpbaaGreatDoor
