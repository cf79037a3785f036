/-
  What is said, while it is said: what was said, in a row of its own; the entries, in a row of their own. No program's function here. No conditions but those of each lemma.
  What a model says behind a prompt, in plain words: token by token, by what takes a token. No program's function here. Conditions: those of each lemma.
-/
import Derived.Test.YtkdkeokldcehhaaGreatDoorMg17
import Derived.Test.YtkdkeokldcehhaaGreatDoorMg16
import Derived.Test.YtkdkeokldcehhaaGreatDoorMg11
import Derived.Test.YtkdkeokldcehhaaGreatDoorMg13
import Derived.Test.YtkdkeokldcehhaaGreatDoorMg8
set_option maxRecDepth 100000
namespace Go.Proofs.YtkdkeokldcehhaaGreatDoor
open Go.ChangeShapes Go.WideShapes Go.ChangeAt Go.RowKit Cf Vc Br Sf Sp

namespace Gn
/-- Entries behind a slice, where its block stays. -/
theorem es_moved {w w' : World} {A : Option Addr} {Q : List (Er × Ent)} (h : EsAt w A Q) (hb : ∀ a, A = some a → a.block < w.heap.size → w'.heap[a.block]? = w.heap[a.block]?) : EsAt w' A Q := fun h0 => by
  obtain ⟨pb, po, e, hc⟩ := h h0
  exact ⟨pb, po, e, fun j u hj => (World.cell?_of_block (w := w) (a := ⟨pb, po + j, none⟩) (hb ⟨pb, po, none⟩ e (show pb < w.heap.size from block_lt_of_cell (hc j u hj)))).trans (hc j u hj)⟩
/-- Rows of unlike types don't share a block. -/
theorem own_two {W : World} {N M : Nat} {e1 e2 : TypeId} {s1 s2 n1 n2 : Nat} {v1 v2 : Value} {x1 x2 : List Value} (h1 : W.ownsRow N e1 s1 v1 n1 x1) (h2 : W.ownsRow M e2 s2 v2 n2 x2) (ne : e1 ≠ e2) : ∀ k, v1.ownBlock = some k → v2.ownBlock ≠ some k := fun k hk hk2 => by
  rcases h1.2 with ⟨rfl, _⟩ | ⟨g1, c1, u1, rfl, _, g1h, _⟩
  · cases hk
  · rcases h2.2 with ⟨rfl, _⟩ | ⟨g2, c2, u2, rfl, _, g2h, _⟩
    · cases hk2
    · have e1' : g1 = k := Option.some.inj hk
      have e2' : g2 = k := Option.some.inj hk2
      subst e1' e2'
      rw [g1h] at g2h
      injection g2h with g2h
      injection g2h with _ e3 _
      exact ne e3
theorem int_entry : 3 ≠ 29 := by decide
/-- Neither where what was said lies, nor the entries' row. -/
def neither (sv pv : Value) (j : Nat) : Prop := sv.ownBlock ≠ some j ∧ pv.ownBlock ≠ some j
structure Saying (w0 : World) (sv pv : Value) (S : List Int) (R F : List (Er × Ent)) (W : World) : Prop where
  own : Own W w0.heap.size sv S
  ga : Gath w0.heap.size W pv R
  rows : ∀ q ∈ R, EOn (fun j => sv.ownBlock ≠ some j) W q.1 q.2
  fresh : ∀ q ∈ F, EOn (neither sv pv) W q.1 q.2
  below : Below w0.heap.size w0 W
section
variable {w0 W W' wz : World} {sv pv : Value} {S : List Int} {R F : List (Er × Ent)}
theorem Saying.step (h : Saying w0 sv pv S R F W) (hb : Below W.heap.size W W') : Saying w0 sv pv S R F W' :=
  ⟨h.own.below hb (Nat.le_refl _), h.ga.step hb, fun q hq => (h.rows q hq).below hb, fun q hq => (h.fresh q hq).below hb, h.below.trans (hb.mono h.below.size)⟩
theorem Saying.start (w0 : World) : Saying w0 (.slice none 0 0) (.slice none 0 0) [] [] [] w0 :=
  ⟨⟨rfl, .inl ⟨rfl, rfl⟩⟩, ⟨⟨rfl, .inl ⟨rfl, rfl⟩⟩, fun q hq => absurd hq (by simp)⟩, fun q hq => absurd hq (by simp), fun q hq => absurd hq (by simp), Below.refl _ _⟩
theorem Saying.lt (h : Saying w0 sv pv S R F W) : (∀ k, sv.ownBlock = some k → k < W.heap.size) ∧ ∀ k, pv.ownBlock = some k → k < W.heap.size := ⟨fun k hk => (World.ownsRow.lt h.own k hk).2, fun k hk => (h.ga.own.lt k hk).2⟩
/-- New entries, whose rows are new. -/
theorem Saying.come (h : Saying w0 sv pv S R [] W) (hb : Below W.heap.size W W') (hF : ∀ q ∈ F, EOn (fun _ => True) W' q.1 q.2) (hN : ∀ q ∈ F, Fr W.heap.size q.1 q.2) : Saying w0 sv pv S R F W' :=
  ⟨h.own.below hb (Nat.le_refl _), h.ga.step hb, fun q hq => (h.rows q hq).below hb, fun q hq => ((hN q hq).on (hF q hq)).mono fun j hj => ⟨fun e => by have := h.lt.1 j e; omega, fun e => by have := h.lt.2 j e; omega⟩, h.below.trans (hb.mono h.below.size)⟩
/-- One token more is said. -/
theorem Saying.said {g cap : Nat} {z : Int} (h : Saying w0 sv pv S R F W) (o : Obj) (hown : wz.ownsRow w0.heap.size 3 1 (.slice (some ⟨g, 0, none⟩) (S.length + 1) cap) (S.length + 1) (icells S ++ [.int .i64 z])) (hgrow : (W.alloc o).grownBy wz sv.ownBlock) (hat : sv.ownBlock = some g ∨ g = (W.alloc o).heap.size) :
    Saying w0 (.slice (some ⟨g, 0, none⟩) (S.length + 1) cap) pv (S ++ [z]) R F wz := by
  have hs : ∀ j, j < W.heap.size → sv.ownBlock ≠ some j → wz.heap[j]? = W.heap[j]? := fun j hj hne => (hgrow.block j (by simp; omega) fun e => hne e.symm).trans (Below.heap_alloc W o j hj)
  have hg : ∀ j, j < W.heap.size ∧ sv.ownBlock ≠ some j → (Value.slice (some ⟨g, 0, none⟩) (S.length + 1) cap).ownBlock ≠ some j := fun j hj e => by
    have e' : g = j := Option.some.inj e
    rcases hat with hat | hat
    · exact hj.2 (by rw [hat, e'])
    · have : (W.alloc o).heap.size = W.heap.size + 1 := by simp
      omega
  have hp : ∀ k, pv.ownBlock = some k → k < W.heap.size ∧ sv.ownBlock ≠ some k := fun k hk => ⟨h.lt.2 k hk, fun e => own_two h.ga.own h.own int_entry.symm k hk e⟩
  refine ⟨Own.grew rfl hown, ⟨own_moved h.ga.own fun k hk => hs k (hp k hk).1 (hp k hk).2, fun q hq => ?_⟩, fun q hq => ?_, fun q hq => ?_, below_grew h.below rfl h.own o hgrow⟩
  · have h1 := ((h.ga.all q hq).also ((h.rows q hq).new.also (h.rows q hq)))
    exact (h1.moved fun j hj => hs j hj.2.1 hj.2.2).mono fun j hj => hj.1
  · have h1 := (h.rows q hq).new.also (h.rows q hq)
    exact (h1.moved fun j hj => hs j hj.1 hj.2).mono hg
  · have h1 := (h.fresh q hq).new.also (h.fresh q hq)
    exact (h1.moved fun j hj => hs j hj.1 hj.2.1).mono fun j hj => ⟨hg j ⟨hj.1, hj.2.1⟩, hj.2.2⟩
/-- The entries are laid behind the others. -/
theorem Saying.laid {g cap : Nat} (h : Saying w0 sv pv S R F W) (hown : wz.ownsRow w0.heap.size 29 2 (.slice (some ⟨g, 0, none⟩) (R.length + F.length) cap) (R.length + F.length) (eCs R ++ eCs F)) (hgrow : W.grownBy wz pv.ownBlock) (hat : pv.ownBlock = some g ∨ g = W.heap.size) :
    Saying w0 sv (.slice (some ⟨g, 0, none⟩) (R.length + F.length) cap) S (R ++ F) [] wz := by
  have hs : ∀ j, j < W.heap.size → pv.ownBlock ≠ some j → wz.heap[j]? = W.heap[j]? := fun j hj hne => hgrow.block j hj fun e => hne e.symm
  have hg : ∀ j, j < W.heap.size ∧ pv.ownBlock ≠ some j → (Value.slice (some ⟨g, 0, none⟩) (R.length + F.length) cap).ownBlock ≠ some j := fun j hj e => by
    have e' : g = j := Option.some.inj e
    rcases hat with hat | hat
    · exact hj.2 (by rw [hat, e'])
    · omega
  have hv : ∀ k, sv.ownBlock = some k → k < W.heap.size ∧ pv.ownBlock ≠ some k := fun k hk => ⟨h.lt.1 k hk, fun e => own_two h.own h.ga.own int_entry k hk e⟩
  have hm : ∀ q ∈ R ++ F, EOn (fun j => (j < W.heap.size ∧ pv.ownBlock ≠ some j) ∧ sv.ownBlock ≠ some j) W q.1 q.2 := fun q hq => by
    rcases List.mem_append.1 hq with hq | hq
    · exact ((h.ga.all q hq).new.also (h.ga.all q hq)).also (h.rows q hq)
    · exact ((h.fresh q hq).new.also (h.fresh q hq)).mono fun j hj => ⟨⟨hj.1, hj.2.2⟩, hj.2.1⟩
  refine ⟨own_moved h.own fun k hk => hs k (hv k hk).1 (hv k hk).2, ⟨?_, fun q hq => ((hm q hq).moved fun j hj => hs j hj.1.1 hj.1.2).mono fun j hj => hg j hj.1⟩, fun q hq => ((hm q hq).moved fun j hj => hs j hj.1.1 hj.1.2).mono fun j hj => hj.2, fun q hq => absurd hq (by simp), ?_⟩
  · rw [List.length_append, eCs_append]
    exact hown
  · exact h.below.grown hgrow h.below.size (fun i hi => (h.ga.own.lt i hi).1)
end
end Gn
end Go.Proofs.YtkdkeokldcehhaaGreatDoor
namespace Go.Proofs.YtkdkeokldcehhaaGreatDoor
open Go.ChangeShapes Go.WideShapes Go.ChangeAt Go.RowKit Cf Vc Br Nr Sf Ac Sp
namespace Gn

/-! The token that is taken -/
def nextZ (d : Int) (sc : List Int) : Int := if sc.length = 0 then 0 else chooseL d (weightsL sc)
theorem inW_up {m n : Int} {ws : List Int} (h : InW m ws) (hm : m ≤ n) : InW n ws := fun i hi => by have := h i hi; omega
theorem weights_ok {sc : List Int} (h0 : 0 < sc.length) (h1 : sc.length ≤ 64) : okP (weightsL sc) := ⟨inW_up (weights_in sc) (by omega), by rw [weightsL_length]; exact h1, weights_some h0⟩
theorem next_in {d : Int} {sc : List Int} (h0 : 0 < sc.length) (h1 : sc.length ≤ 64) : 0 ≤ nextZ d sc ∧ nextZ d sc < sc.length := by
  have h := pick_spec (draw := d) (weights_ok h0 h1)
  unfold nextZ
  rw [if_neg (by omega), choose_ok (weights_ok h0 h1)]
  rw [weightsL_length] at h
  exact ⟨h.1, h.2.1⟩
theorem best_in {sc : List Int} (h0 : 0 < sc.length) : 0 ≤ bestL sc ∧ bestL sc < sc.length := bestK_in sc sc.length h0
/-- By draws; 0 behind their end. -/
def takeD (ds : List Int) (i : Nat) (sc : List Int) : Int := nextZ (ds.getD i 0) sc
/-- The best. -/
def takeB (_ : Nat) (sc : List Int) : Int := bestL sc
/-- What takes a token takes one of those that have a score. -/
def TakesIn (tk : Nat → List Int → Int) : Prop := ∀ i sc, 0 < sc.length → sc.length ≤ 64 → 0 ≤ tk i sc ∧ tk i sc < sc.length
theorem takeD_in (ds : List Int) : TakesIn (takeD ds) := fun _ _ h0 h1 => next_in h0 h1
theorem takeB_in : TakesIn takeB := fun _ _ h0 _ => best_in h0

/-! What is said -/
section
variable (x : Cfg) (s : ByteArray) (tk : Nat → List Int → Int)
/-- The next token behind a text, when i were said. -/
def tokT (i : Nat) (T : List Int) : Int := tk i (runS x s [] T)
def genT : Nat → Nat → List Int → List Int
  | 0, _, _ => []
  | n + 1, i, T => if tokT x s tk i T = 0 then [] else tokT x s tk i T :: genT n (i + 1) (T ++ [tokT x s tk i T])
theorem genT_zero (i : Nat) (T : List Int) : genT x s tk 0 i T = [] := rfl
theorem genT_end {i n : Nat} {T : List Int} (h : tokT x s tk i T = 0) : genT x s tk n i T = [] := by
  cases n with
  | zero => rfl
  | succ n => exact if_pos h
theorem genT_more {i n : Nat} {T : List Int} (h : tokT x s tk i T ≠ 0) : genT x s tk (n + 1) i T = tokT x s tk i T :: genT x s tk n (i + 1) (T ++ [tokT x s tk i T]) := if_neg h
theorem genT_length : ∀ (n i : Nat) (T : List Int), (genT x s tk n i T).length ≤ n
  | 0, _, _ => Nat.le_refl _
  | n + 1, i, T => by
    by_cases h : tokT x s tk i T = 0
    · rw [genT_end x s tk h]; exact Nat.zero_le _
    · rw [genT_more x s tk h]
      have := genT_length n (i + 1) (T ++ [tokT x s tk i T])
      simpa using this
/-- Fewer at most are a beginning. -/
theorem genT_take : ∀ (k n i : Nat) (T : List Int), k ≤ n → genT x s tk k i T = (genT x s tk n i T).take k
  | 0, _, _, _, _ => by rw [List.take_zero]; rfl
  | k + 1, 0, _, _, h => absurd h (by omega)
  | k + 1, n + 1, i, T, h => by
    by_cases h0 : tokT x s tk i T = 0
    · rw [genT_end x s tk h0, genT_end x s tk h0]; rfl
    · rw [genT_more x s tk h0, genT_more x s tk h0, List.take_succ_cons, genT_take k n (i + 1) _ (by omega)]
/-- What was said, laid behind, goes on as it went. -/
theorem genT_drop : ∀ (k n i : Nat) (T : List Int), k ≤ (genT x s tk n i T).length → genT x s tk (n - k) (i + k) (T ++ (genT x s tk n i T).take k) = (genT x s tk n i T).drop k
  | 0, n, i, T, _ => by rw [List.take_zero, List.append_nil]; rfl
  | k + 1, 0, i, T, h => absurd h (by rw [genT_zero]; simp)
  | k + 1, n + 1, i, T, h => by
    by_cases h0 : tokT x s tk i T = 0
    · rw [genT_end x s tk h0] at h
      exact absurd h (by simp)
    · rw [genT_more x s tk h0] at h ⊢
      have h1 : k ≤ (genT x s tk n (i + 1) (T ++ [tokT x s tk i T])).length := by simpa using h
      have := genT_drop k n (i + 1) (T ++ [tokT x s tk i T]) h1
      rw [List.take_succ_cons, List.drop_succ_cons, ← this, List.append_assoc, List.singleton_append, show n + 1 - (k + 1) = n - k by omega, show i + (k + 1) = i + 1 + k by omega]
/-- Each token is one of the model's, and not the end. -/
theorem genT_in (ht : TakesIn tk) (hv : vN x ≤ 64) (hv0 : 0 < vN x) (hs : ∀ T, T ≠ [] → (runS x s [] T).length = vN x) : ∀ (n i : Nat) (T : List Int), T ≠ [] → ∀ z ∈ genT x s tk n i T, 0 < z ∧ z < vN x
  | 0, _, _, _, z, hz => by cases hz
  | n + 1, i, T, hT, z, hz => by
    have h1 := hs T hT
    have h2 := ht i (runS x s [] T) (by omega) (by omega)
    by_cases h0 : tokT x s tk i T = 0
    · rw [genT_end x s tk h0] at hz; cases hz
    · rw [genT_more x s tk h0] at hz
      rcases List.mem_cons.1 hz with rfl | hz
      · unfold tokT at h0 ⊢
        omega
      · exact genT_in ht hv hv0 hs n (i + 1) _ (by simp) z hz
end
/-- What takes the same tokens says the same. -/
theorem genT_same (x : Cfg) (s : ByteArray) {tk tk' : Nat → List Int → Int} : ∀ (n i i' : Nat) (T : List Int), (∀ j, j < n → ∀ sc, tk (i + j) sc = tk' (i' + j) sc) → genT x s tk n i T = genT x s tk' n i' T
  | 0, _, _, _, _ => rfl
  | n + 1, i, i', T, h => by
    have h0 : tokT x s tk i T = tokT x s tk' i' T := h 0 (by omega) _
    by_cases hz : tokT x s tk i T = 0
    · rw [genT_end x s tk hz, genT_end x s tk' (h0 ▸ hz)]
    · rw [genT_more x s tk hz, genT_more x s tk' (h0 ▸ hz), h0]
      congr 1
      exact genT_same x s n (i + 1) (i' + 1) _ fun j hj sc => by
        have := h (j + 1) (by omega) sc
        rw [show i + (j + 1) = i + 1 + j by omega, show i' + (j + 1) = i' + 1 + j by omega] at this
        exact this
/-- The first of it. -/
theorem genT_head (x : Cfg) (s : ByteArray) (tk : Nat → List Int → Int) (n i : Nat) (T : List Int) : (tokT x s tk i T = 0 ∧ genT x s tk (n + 1) i T = []) ∨ (tokT x s tk i T ≠ 0 ∧ ∃ L, genT x s tk (n + 1) i T = tokT x s tk i T :: L) := by
  by_cases h : tokT x s tk i T = 0
  · exact .inl ⟨h, genT_end x s tk h⟩
  · exact .inr ⟨h, _, genT_more x s tk h⟩
theorem runS_length (x : Cfg) (s : ByteArray) : ∀ (T : List Int) (P : List Ent), T ≠ [] → (runS x s P T).length = vN x
  | [], _, h => absurd rfl h
  | [t], _, _ => scoresL_length _ _ _
  | t :: u :: ts, _, _ => runS_length x s (u :: ts) _ (by simp)

/-! Whether something can be said -/
def errG (x : Cfg) (most : Int) (pr : List Int) : Int := if 0 < pr.length ∧ 1 ≤ most ∧ most ≤ 32 then (if pr.all (tokB x) = true then (if (pr.length : Int) + most ≤ x.c then 0 else 12) else 3) else 1
theorem errG_ok {x : Cfg} {most : Int} {pr : List Int} : errG x most pr = 0 ↔ 0 < pr.length ∧ 1 ≤ most ∧ most ≤ 32 ∧ pr.all (tokB x) = true ∧ (pr.length : Int) + most ≤ x.c := by
  unfold errG
  split
  · rename_i h1
    split
    · rename_i h2
      split
      · rename_i h3; simp [h1, h2, h3]
      · rename_i h3; simp [h3]
    · rename_i h2; simp [h2]
  · rename_i h1
    constructor
    · intro h; cases h
    · rintro ⟨a, b, c, _⟩; exact absurd ⟨a, b, c⟩ h1
/-- Nothing is said where nothing can be. -/
def genZ (x : Cfg) (s : ByteArray) (tk : Nat → List Int → Int) (most : Int) (pr : List Int) : List Int := if errG x most pr = 0 then genT x s tk most.toNat 0 pr else []
end Gn
end Go.Proofs.YtkdkeokldcehhaaGreatDoor
