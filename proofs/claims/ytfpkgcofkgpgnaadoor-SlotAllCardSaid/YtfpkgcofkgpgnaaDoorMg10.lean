/-
  Sealed texts in plain words: their bytes, their sectors, and what is got of sectors. No program's function here. No conditions.
  A slice of one element of many cells, made by its literal. No program here. No conditions.
-/
import Derived.Test.YtfpkgcofkgpgnaaDoorMg8
import Derived.Test.YtfpkgcofkgpgnaaDoorMg9
import Derived.Test.YtfpkgcofkgpgnaaDoorMg4
import Derived.Test.YtfpkgcofkgpgnaaDoorMg1
import Derived.Great.Walk
set_option maxRecDepth 100000
namespace Go.Proofs.YtfpkgcofkgpgnaaDoor
open Go Go.RowKit Pn Dk
namespace Sl

/-- How many sectors a text of so many bytes has. -/
def szN (k : Nat) : Nat := (36 + k + 27) / 28
theorem szN_le (k : Nat) : 36 + k ≤ 28 * szN k := by unfold szN; omega
theorem szN_lt (k : Nat) : 28 * szN k < 36 + k + 28 := by unfold szN; omega
theorem szN_two (k : Nat) : 2 ≤ szN k := by unfold szN; omega
theorem szN_max (k : Nat) (h : k ≤ 1024) : szN k ≤ 38 := by unfold szN; omega
/-- All behind the sum; all. -/
def bodyL (s : ByteArray) : List UInt8 := textL s ++ List.replicate (28 * szN s.size - 36 - s.size) 0
def sealL (s : ByteArray) : List UInt8 := digL (sumF (bodyL s)) ++ bodyL s
theorem bodyL_length (s : ByteArray) : (bodyL s).length = 28 * szN s.size - 32 := by
  unfold bodyL
  rw [List.length_append, textL_length, List.length_replicate]
  have := szN_le s.size
  omega
theorem sealL_length (s : ByteArray) : (sealL s).length = 28 * szN s.size := by
  unfold sealL
  rw [List.length_append, digL_length, bodyL_length]
  have := szN_le s.size
  omega
/-- The sector i of bytes L, with the number n. -/
def secF (n : Nat) (L : List UInt8) (i j : Nat) : UInt8 := if j < 28 then L.getD (28 * i + j) 0 else numF (n : Int) (j - 28)

/-- The number that four bytes tell. -/
def vN (a b c d : UInt8) : Nat := a.toNat + 256 * b.toNat + 65536 * c.toNat + 16777216 * d.toNat
theorem vN_lt (a b c d : UInt8) : vN a b c d < 4294967296 := by
  unfold vN
  have := a.toNat_lt
  have := b.toNat_lt
  have := c.toNat_lt
  have := d.toNat_lt
  omega
theorem numV_nat (n : Nat) (h : n ≤ 4294967295) : numV (n : Int) = n := by
  have := numV_ok (n := (n : Int)) (num_ok (by omega) (by omega))
  omega
theorem numF_nat (n j : Nat) (h : n ≤ 4294967295) : numF (n : Int) j = UInt8.ofNat (n / 256 ^ j) := by unfold numF; rw [numV_nat n h]
theorem vN_num (n : Nat) (h : n ≤ 4294967295) : vN (numF (n : Int) 0) (numF (n : Int) 1) (numF (n : Int) 2) (numF (n : Int) 3) = n := by
  rw [numF_nat _ _ h, numF_nat _ _ h, numF_nat _ _ h, numF_nat _ _ h]
  unfold vN
  simp only [UInt8.toNat_ofNat']
  omega
theorem num_of_vN (a b c d : UInt8) : numF ((vN a b c d : Nat) : Int) 0 = a ∧ numF ((vN a b c d : Nat) : Int) 1 = b ∧ numF ((vN a b c d : Nat) : Int) 2 = c ∧ numF ((vN a b c d : Nat) : Int) 3 = d := by
  have hl := vN_lt a b c d
  have ha := a.toNat_lt
  have hb := b.toNat_lt
  have hc := c.toNat_lt
  have hd := d.toNat_lt
  refine ⟨?_, ?_, ?_, ?_⟩ <;>
  · rw [numF_nat _ _ (by omega)]
    apply UInt8.toNat_inj.1
    rw [UInt8.toNat_ofNat']
    unfold vN
    omega
/-- A sector's number; 0, if it can't be. -/
def numG (g : Nat → UInt8) : Nat := if vN (g 28) (g 29) (g 30) (g 31) ≤ 2147483647 then vN (g 28) (g 29) (g 30) (g 31) else 0
theorem numG_le (g : Nat → UInt8) : numG g ≤ 2147483647 := by unfold numG; split <;> omega
theorem numG_sec (n : Nat) (L : List UInt8) (i : Nat) (h : n ≤ 2147483647) : numG (secF n L i) = n := by
  have e : vN (secF n L i 28) (secF n L i 29) (secF n L i 30) (secF n L i 31) = n := vN_num n (by omega)
  unfold numG
  rw [e, if_pos h]
theorem numG_congr {f g : Nat → UInt8} (h : ∀ j, j < 32 → f j = g j) : numG f = numG g := by
  unfold numG
  rw [h 28 (by omega), h 29 (by omega), h 30 (by omega), h 31 (by omega)]
theorem num_bytes {g : Nat → UInt8} (h : 1 ≤ numG g) (j : Nat) (hj : j < 4) : g (28 + j) = numF ((numG g : Nat) : Int) j := by
  have e : numG g = vN (g 28) (g 29) (g 30) (g 31) := by
    unfold numG at h ⊢
    split
    · rfl
    · rename_i hn
      rw [if_neg hn] at h
      omega
  rw [e]
  obtain ⟨h0, h1, h2, h3⟩ := num_of_vN (g 28) (g 29) (g 30) (g 31)
  match j, hj with
  | 0, _ => exact h0.symm
  | 1, _ => exact h1.symm
  | 2, _ => exact h2.symm
  | 3, _ => exact h3.symm

section
variable (rd : Nat → Nat → UInt8) (n p num : Nat)
/-- Whether the first k sectors from p on are places, with this number; their bytes. -/
def jnOk : Nat → Bool
  | 0 => true
  | k + 1 => jnOk k && (decide (p + k < n) && (numG (rd (p + k)) == num))
def jnL : Nat → List UInt8
  | 0 => []
  | k + 1 => jnL k ++ (List.range 28).map (rd (p + k))
theorem jnOk_iff : ∀ k, jnOk rd n p num k = true ↔ ∀ i, i < k → p + i < n ∧ numG (rd (p + i)) = num
  | 0 => by simp [jnOk]
  | k + 1 => by
    unfold jnOk
    rw [Bool.and_eq_true, Bool.and_eq_true, decide_eq_true_iff, beq_iff_eq, jnOk_iff k]
    constructor
    · rintro ⟨h1, h2⟩ i hi
      by_cases he : i = k
      · subst he; exact h2
      · exact h1 i (by omega)
    · exact fun h => ⟨fun i hi => h i (by omega), h k (by omega)⟩
theorem jnOk_next (k : Nat) (h : jnOk rd n p num k = true) (hp : p + k < n) (hn : numG (rd (p + k)) = num) : jnOk rd n p num (k + 1) = true := by
  unfold jnOk; rw [h, decide_eq_true hp, hn, beq_self_eq_true]; rfl
theorem jnOk_stop {k c : Nat} (hk : k < c) (h : ¬ (p + k < n ∧ numG (rd (p + k)) = num)) : jnOk rd n p num c = false := by
  rw [Bool.eq_false_iff]
  exact fun hc => h ((jnOk_iff rd n p num c).1 hc k hk)
theorem jnL_length : ∀ k, (jnL rd p k).length = 28 * k
  | 0 => rfl
  | k + 1 => by unfold jnL; rw [List.length_append, jnL_length k]; simp; omega
theorem jnL_get : ∀ k i j, i < k → j < 28 → (jnL rd p k).getD (28 * i + j) 0 = rd (p + i) j
  | 0, _, _, h, _ => absurd h (Nat.not_lt_zero _)
  | k + 1, i, j, h, hj => by
    have hl := jnL_length rd p k
    unfold jnL
    rw [List.getD_eq_getElem?_getD]
    by_cases he : i = k
    · subst he
      rw [List.getElem?_append_right (by omega), hl, show 28 * i + j - 28 * i = j by omega]
      simp [hj]
    · rw [List.getElem?_append_left (by omega), ← List.getD_eq_getElem?_getD]
      exact jnL_get k i j (by omega) hj
theorem jnL_eq (L : List UInt8) (k : Nat) (hL : L.length = 28 * k) (h : ∀ i, i < k → ∀ j, j < 28 → rd (p + i) j = L.getD (28 * i + j) 0) : jnL rd p k = L := by
  have hl := jnL_length rd p k
  apply List.ext_getElem (by omega)
  intro q h1 h2
  have e1 := jnL_get rd p k (q / 28) (q % 28) (by omega) (by omega)
  rw [show 28 * (q / 28) + q % 28 = q by omega, h (q / 28) (by omega) (q % 28) (by omega), show 28 * (q / 28) + q % 28 = q by omega] at e1
  rw [List.getD_eq_getElem?_getD, List.getD_eq_getElem?_getD, List.getElem?_eq_getElem h1, List.getElem?_eq_getElem h2] at e1
  exact e1
/-- The text's length, as it is told; whether a text stands there, whole; its bytes. -/
def lenV : Nat := vN (rd (p + 1) 4) (rd (p + 1) 5) (rd (p + 1) 6) (rd (p + 1) 7)
def okG : Bool := decide (1 ≤ numG (rd p)) && (jnOk rd n p (numG (rd p)) 2 && (decide (lenV rd p ≤ 1024) && jnOk rd n p (numG (rd p)) (szN (lenV rd p))))
def allG : List UInt8 := jnL rd p (szN (lenV rd p))
def textG : ByteArray := ⟨(((allG rd p).drop 36).take (lenV rd p)).toArray⟩
/-- What is got: the text, its number, the error. -/
def getR : ByteArray × Nat × Nat := if okG rd n p = true then (if allG rd p = sealL (textG rd p) then (textG rd p, numG (rd p), 0) else (⟨#[]⟩, 0, 6)) else (⟨#[]⟩, 0, 5)
theorem okG_iff : okG rd n p = true ↔ 1 ≤ numG (rd p) ∧ jnOk rd n p (numG (rd p)) 2 = true ∧ lenV rd p ≤ 1024 ∧ jnOk rd n p (numG (rd p)) (szN (lenV rd p)) = true := by
  unfold okG
  rw [Bool.and_eq_true, Bool.and_eq_true, Bool.and_eq_true, decide_eq_true_iff, decide_eq_true_iff]
end
theorem jnL_congr {rd rd' : Nat → Nat → UInt8} {p p' : Nat} : ∀ k, (∀ i, i < k → ∀ j, j < 32 → rd (p + i) j = rd' (p' + i) j) → jnL rd p k = jnL rd' p' k
  | 0, _ => rfl
  | k + 1, h => by
    unfold jnL
    rw [jnL_congr k fun i hi => h i (by omega)]
    congr 1
    exact List.map_congr_left fun j hj => h k (by omega) j (by have := List.mem_range.1 hj; omega)
theorem jnOk_congr {rd rd' : Nat → Nat → UInt8} {n n' p p' num : Nat} (hn : ∀ i, p + i < n ↔ p' + i < n') : ∀ k, (∀ i, i < k → p + i < n → ∀ j, j < 32 → rd (p + i) j = rd' (p' + i) j) → jnOk rd n p num k = jnOk rd' n' p' num k
  | 0, _ => rfl
  | k + 1, h => by
    unfold jnOk
    rw [jnOk_congr hn k fun i hi => h i (by omega)]
    by_cases hk : p + k < n
    · rw [numG_congr (h k (by omega) hk), decide_eq_true hk, decide_eq_true ((hn k).1 hk)]
    · rw [decide_eq_false hk, decide_eq_false (fun e => hk ((hn k).2 e)), Bool.false_and, Bool.false_and]

/-- What was put is got as it was. -/
theorem len_sealed {rd : Nat → Nat → UInt8} {p num : Nat} {s : ByteArray} (hs : s.size ≤ 1024) (h : ∀ i, i < szN s.size → ∀ j, j < 32 → rd (p + i) j = secF num (sealL s) i j) : lenV rd p = s.size := by
  have h2 := szN_two s.size
  have key : ∀ j, j < 4 → rd (p + 1) (4 + j) = numF (s.size : Int) j := fun j hj => by
    rw [h 1 (by omega) (4 + j) (by omega)]
    unfold secF
    rw [if_pos (by omega)]
    unfold sealL bodyL textL
    rw [List.getD_eq_getElem?_getD, List.getElem?_append_right (by rw [digL_length]; omega), digL_length, show 28 * 1 + (4 + j) - 32 = j by omega, List.getElem?_append_left (by rw [List.length_append, numL_length]; omega), List.getElem?_append_left (by rw [numL_length]; omega)]
    unfold numL
    simp [hj]
  unfold lenV
  rw [show rd (p + 1) 4 = _ from key 0 (by omega), show rd (p + 1) 5 = _ from key 1 (by omega), show rd (p + 1) 6 = _ from key 2 (by omega), show rd (p + 1) 7 = _ from key 3 (by omega)]
  exact vN_num _ (by omega)
theorem text_sealed (s : ByteArray) : ((sealL s).drop 36).take s.size = s.data.toList := by
  unfold sealL bodyL textL
  have e : digL (sumF (numL (s.size : Int) ++ s.data.toList ++ List.replicate (28 * szN s.size - 36 - s.size) 0)) ++ (numL (s.size : Int) ++ s.data.toList ++ List.replicate (28 * szN s.size - 36 - s.size) 0) = (digL (sumF (numL (s.size : Int) ++ s.data.toList ++ List.replicate (28 * szN s.size - 36 - s.size) 0)) ++ numL (s.size : Int)) ++ (s.data.toList ++ List.replicate (28 * szN s.size - 36 - s.size) 0) := by simp only [List.append_assoc]
  rw [e, List.drop_left' (by rw [List.length_append, digL_length, numL_length]), List.take_left' (show s.data.toList.length = s.size from rfl)]
theorem all_sealed {rd : Nat → Nat → UInt8} {p num : Nat} {s : ByteArray} (hs : s.size ≤ 1024) (h : ∀ i, i < szN s.size → ∀ j, j < 32 → rd (p + i) j = secF num (sealL s) i j) : allG rd p = sealL s := by
  unfold allG
  rw [len_sealed hs h]
  refine jnL_eq rd p (sealL s) _ (sealL_length s) fun i hi j hj => ?_
  rw [h i hi j (by omega)]
  unfold secF
  rw [if_pos hj]
theorem got {rd : Nat → Nat → UInt8} {n p num : Nat} {s : ByteArray} (h1 : 1 ≤ num) (h2 : num ≤ 2147483647) (hs : s.size ≤ 1024) (hn : p + szN s.size ≤ n) (h : ∀ i, i < szN s.size → ∀ j, j < 32 → rd (p + i) j = secF num (sealL s) i j) : getR rd n p = (s, num, 0) := by
  have hl := len_sealed hs h
  have ha := all_sealed hs h
  have hz := szN_two s.size
  have hg : ∀ i, i < szN s.size → numG (rd (p + i)) = num := fun i hi => (numG_congr (h i hi)).trans (numG_sec num _ _ h2)
  have hg0 : numG (rd p) = num := hg 0 (by omega)
  have ht : textG rd p = s := by
    unfold textG
    rw [ha, hl, text_sealed]
  have ho : okG rd n p = true := by
    rw [okG_iff, hg0, hl]
    exact ⟨h1, (jnOk_iff _ _ _ _ _).2 fun i hi => ⟨by omega, hg i (by omega)⟩, hs, (jnOk_iff _ _ _ _ _).2 fun i hi => ⟨by omega, hg i hi⟩⟩
  unfold getR
  rw [if_pos ho, ht, ha, if_pos rfl, hg0]
end Sl
end Go.Proofs.YtfpkgcofkgpgnaaDoor
namespace Go.Proofs.YtfpkgcofkgpgnaaDoor
open Go Go.RowKit

theorem wpList_one {P : Program} {ops : Array Oper} {rest : List Oper} {o : Oper} {a : Act} {w : World} {Q : Exit → Act → World → Prop} (hg : o.guard = none) (t e : TypeId) (x : Operand) (ho : o.op = .buildSlice t 1 #[(0, x)])
    (dst : Option Tmp) (hdst : o.dst = dst) (hu : P.underlying t = some (.slice e)) (cells : Array Value) (hx : a.eval x = .agg cells) (hf : P.builtSlice e 1 [(0, .agg cells)] = some cells)
    (h : wpList P ops Q rest (a.put dst (.slice (some ⟨w.heap.size, 0, none⟩) 1 1)) (w.alloc (.cells cells e))) : wpList P ops Q (o :: rest) a w :=
  Great.wpList_buildSliceTo hg t e 1 #[(0, x)] ho _ rfl dst hdst hu cells (by
    have e : ((#[(0, x)] : Array (Nat × Operand)).map fun (i, y) => (i, a.eval y)).toList = [(0, a.eval x)] := by simp
    rw [e, hx]
    exact hf) h
end Go.Proofs.YtfpkgcofkgpgnaaDoor
