/-
  append of a row, or of none, onto a row of numbers that one owns: where the new slice lies. No program's function here. No conditions.
  append of a row, or of none, or of nil, onto a row that one owns: in the walk, and in a region that draws its order. No program's function here. No conditions.
  What is said, while it is said: what was said, in a row of its own; the entries, in a row of their own. No program's function here. No conditions but those of each lemma.
  What a model says behind a prompt, in plain words: token by token, by what takes a token. No program's function here. Conditions: those of each lemma.
-/
import Derived.Test.YtkdkeokldcehhaaGreatDoorMg17
import Derived.Test.YtkdkeokldcehhaaGreatDoorMg18
import Derived.Test.YtkdkeokldcehhaaGreatDoorMg13
import Derived.Test.YtkdkeokldcehhaaGreatDoorMg15
import Derived.Test.YtkdkeokldcehhaaGreatDoorMg8
import Derived.Laws.OwnMore
set_option maxRecDepth 100000
namespace Go.Proofs.YtkdkeokldcehhaaGreatDoor
open Go.ChangeShapes Go.WideShapes Go.ChangeAt Go.RowKit Vc

namespace Vc
theorem run_append_zero {P : Program} {w : World} (base : Nat) (t ty e : TypeId) (i : TypeInfo) (size : Nat) (ht : P.underlying t = some (.slice e)) (hi : P.info? e = some i)
    (v : Value) (n : Nat) (xs : List Value) (hown : w.ownsRow base e size v n xs) (ad : Addr) (c : Nat) :
    (Builtin.append_ #[t, t] ty #[v, .slice (some ad) 0 c]).run P w = .ok v w := by
  rcases hown.2 with ⟨rfl, rfl⟩ | ⟨g, cap, cur, rfl, _, _, hnc, _⟩
  · simp [Builtin.append_, run_underlying ht, sizeOf, typeInfo, hi, Builtin.lenOf, Builtin.firstCells, loadCells, loadCellsFrom]
  · simp [Builtin.append_, run_underlying ht, sizeOf, typeInfo, hi, Builtin.lenOf, Builtin.firstCells, hnc, storeCells, loadCells, loadCellsFrom]
theorem grown_refl (w : World) (r : Option Nat) : w.grownBy w r := ⟨rfl, rfl, rfl, Nat.le_refl _, fun _ _ _ => rfl⟩
/-- At a step of a region that draws its order: m numbers, or none, onto a row that has a block. -/
theorem step_append_any {P : Program} {w : World} {ops : Array Oper} {o : Oper} {a : Act} {K : Act → World → Prop} {Q : Exit → Act → World → Prop} {E : Prop} (hgd : o.guard = none) (s x : Operand) (t : TypeId)
    (ho : o.op = .call { callee := .builtin .append, args := #[s, x], argTypes := #[t, t] })
    (base : Nat) (e : TypeId) (i : TypeInfo) (z : Value) (size bytes : Nat) (ht : P.underlying t = some (.slice e)) (hi : P.info? e = some i) (hz : i.zero = some z)
    (hsize : i.size = size) (hby : i.bytes = bytes) (hzs : z.cells.size = size) (hsz : 0 < size)
    (g0 n c0 : Nat) (xs : List Value) (hs : a.eval s = .slice (some ⟨g0, 0, none⟩) n c0) (hown : w.ownsRow base e size (.slice (some ⟨g0, 0, none⟩) n c0) n xs)
    (ad : Addr) (m c : Nat) (news : List Value) (hx : a.eval x = .slice (some ad) m c) (hl : news.length = m * size) (hnews : ∀ j u, news[j]? = some u → w.cell? (ad.add j) = some u) (h1 : ∀ u ∈ news, u.oneCell' = true)
    (h63 : n + m ≤ maxLen) (hbytes : (n + m) * bytes ≤ 140737488355328) (hbase : base ≤ w.heap.size)
    (h : ∀ g cap w', w'.ownsRow base e size (.slice (some ⟨g, 0, none⟩) (n + m) cap) (n + m) (xs ++ news) → w.grownBy w' (Value.slice (some ⟨g0, 0, none⟩) n c0).ownBlock → K (a.put o.dst (.slice (some ⟨g, 0, none⟩) (n + m) cap)) w') :
    if Region.wanted o (yielded ops a.tmps) = true then Oper.wp P o a w K Q else E := by
  by_cases hm : 0 < m
  · exact step_append_lies w hgd s x t ho base e i z size bytes ht hi hz hsize hby hzs hsz _ n xs hs hown ad m c news hx hl hnews h1 hm h63 hbytes hbase _ rfl fun g cap w' a1 a2 _ _ => h g cap w' a1 a2
  · obtain rfl : m = 0 := by omega
    have hn : news = [] := List.length_eq_zero_iff.1 (by rw [hl, Nat.zero_mul])
    subst hn
    have hw : Region.wanted o (yielded ops a.tmps) = true := by simp [Region.wanted, hgd]
    rw [if_pos hw]
    have hr := run_append_zero (P := P) (w := w) base t o.type e i size ht hi _ n xs hown ad c
    unfold Oper.wp execOp
    simp only [ho, resolve, invoke, builtin, Sem.run_bind, Sem.run_pure, Result.andThen_ok, List.map_toArray, List.map_cons, List.map_nil, hs, hx, hr]
    exact h g0 c0 w (by rw [List.append_nil]; exact hown) (grown_refl w _)
end Vc
end Go.Proofs.YtkdkeokldcehhaaGreatDoor
namespace Go.Proofs.YtkdkeokldcehhaaGreatDoor
open Go.ChangeShapes Go.WideShapes Go.ChangeAt Go.RowKit Vc

namespace Vc
theorem run_append_zero' {P : Program} {w : World} (base : Nat) (t ty e : TypeId) (i : TypeInfo) (size : Nat) (ht : P.underlying t = some (.slice e)) (hi : P.info? e = some i)
    (v : Value) (n : Nat) (xs : List Value) (hown : w.ownsRow base e size v n xs) (D : Option Addr) (c : Nat) :
    (Builtin.append_ #[t, t] ty #[v, .slice D 0 c]).run P w = .ok v w := by
  cases D with
  | some ad => exact run_append_zero base t ty e i size ht hi v n xs hown ad c
  | none =>
    rcases hown.2 with ⟨rfl, rfl⟩ | ⟨g, cap, cur, rfl, _, _, hnc, _⟩
    · simp [Builtin.append_, run_underlying ht, sizeOf, typeInfo, hi, Builtin.lenOf, Builtin.firstCells]
    · simp [Builtin.append_, run_underlying ht, sizeOf, typeInfo, hi, Builtin.lenOf, Builtin.firstCells, hnc, storeCells]
theorem wp_append_every {P : Program} {w : World} {o : Oper} {a : Act} {K : Act → World → Prop} {Q : Exit → Act → World → Prop} (s x : Operand) (t : TypeId)
    (ho : o.op = .call { callee := .builtin .append, args := #[s, x], argTypes := #[t, t] })
    (base : Nat) (e : TypeId) (i : TypeInfo) (z : Value) (size bytes : Nat) (ht : P.underlying t = some (.slice e)) (hi : P.info? e = some i) (hz : i.zero = some z)
    (hsize : i.size = size) (hby : i.bytes = bytes) (hzs : z.cells.size = size) (hsz : 0 < size)
    (v : Value) (n : Nat) (xs : List Value) (hs : a.eval s = v) (hown : w.ownsRow base e size v n xs) (hv : v.ownBlock ≠ none)
    (D : Option Addr) (m c : Nat) (news : List Value) (hx : a.eval x = .slice D m c) (hl : news.length = m * size) (hnews : 0 < m → ∃ ad, D = some ad ∧ ∀ j u, news[j]? = some u → w.cell? (ad.add j) = some u) (h1 : ∀ u ∈ news, u.oneCell' = true)
    (h63 : n + m ≤ maxLen) (hbytes : (n + m) * bytes ≤ 140737488355328) (hbase : base ≤ w.heap.size)
    (h : ∀ g cap w', w'.ownsRow base e size (.slice (some ⟨g, 0, none⟩) (n + m) cap) (n + m) (xs ++ news) → w.grownBy w' v.ownBlock → K (a.put o.dst (.slice (some ⟨g, 0, none⟩) (n + m) cap)) w') :
    Oper.wp P o a w K Q := by
  by_cases hm : 0 < m
  · obtain ⟨ad, rfl, hc⟩ := hnews hm
    exact wp_append_lies w s x t ho base e i z size bytes ht hi hz hsize hby hzs hsz v n xs hs hown ad m c news hx hl hc h1 hm h63 hbytes hbase _ rfl fun g cap w' a1 a2 _ _ => h g cap w' a1 a2
  · obtain rfl : m = 0 := by omega
    have hn : news = [] := List.length_eq_zero_iff.1 (by rw [hl, Nat.zero_mul])
    subst hn
    have hr := run_append_zero' (P := P) (w := w) base t o.type e i size ht hi _ n xs hown D c
    obtain ⟨g, cap, hv2⟩ : ∃ g cap, v = .slice (some ⟨g, 0, none⟩) n cap := by
      rcases hown.2 with ⟨e1, _⟩ | ⟨g, cap, _, e1, _⟩
      · exact absurd (by rw [e1]; rfl) hv
      · exact ⟨g, cap, e1⟩
    have h2 := h g cap w (by rw [List.append_nil, Nat.add_zero, ← hv2]; exact hown) (grown_refl w _)
    rw [Nat.add_zero, ← hv2] at h2
    unfold Oper.wp execOp
    simp only [ho, resolve, invoke, builtin, Sem.run_bind, Sem.run_pure, Result.andThen_ok, List.map_toArray, List.map_cons, List.map_nil, hs, hx, hr]
    exact h2
theorem wpList_append_every {P : Program} {w : World} {ops : Array Oper} {rest : List Oper} {o : Oper} {a : Act} {Q : Exit → Act → World → Prop} (hgd : o.guard = none) (s x : Operand) (t : TypeId)
    (ho : o.op = .call { callee := .builtin .append, args := #[s, x], argTypes := #[t, t] })
    (base : Nat) (e : TypeId) (i : TypeInfo) (z : Value) (size bytes : Nat) (ht : P.underlying t = some (.slice e)) (hi : P.info? e = some i) (hz : i.zero = some z)
    (hsize : i.size = size) (hby : i.bytes = bytes) (hzs : z.cells.size = size) (hsz : 0 < size)
    (v : Value) (n : Nat) (xs : List Value) (hs : a.eval s = v) (hown : w.ownsRow base e size v n xs) (hv : v.ownBlock ≠ none)
    (D : Option Addr) (m c : Nat) (news : List Value) (hx : a.eval x = .slice D m c) (hl : news.length = m * size) (hnews : 0 < m → ∃ ad, D = some ad ∧ ∀ j u, news[j]? = some u → w.cell? (ad.add j) = some u) (h1 : ∀ u ∈ news, u.oneCell' = true)
    (h63 : n + m ≤ maxLen) (hbytes : (n + m) * bytes ≤ 140737488355328) (hbase : base ≤ w.heap.size)
    (h : ∀ g cap w', w'.ownsRow base e size (.slice (some ⟨g, 0, none⟩) (n + m) cap) (n + m) (xs ++ news) → w.grownBy w' v.ownBlock → wpList P ops Q rest (a.put o.dst (.slice (some ⟨g, 0, none⟩) (n + m) cap)) w') : wpList P ops Q (o :: rest) a w :=
  wpList_plain hgd fun _ hK => wp_append_every s x t ho base e i z size bytes ht hi hz hsize hby hzs hsz v n xs hs hown hv D m c news hx hl hnews h1 h63 hbytes hbase fun g cap w' a1 a2 => hK _ _ (h g cap w' a1 a2)
theorem step_append_every {P : Program} {w : World} {ops : Array Oper} {o : Oper} {a : Act} {K : Act → World → Prop} {Q : Exit → Act → World → Prop} {E : Prop} (hgd : o.guard = none) (s x : Operand) (t : TypeId)
    (ho : o.op = .call { callee := .builtin .append, args := #[s, x], argTypes := #[t, t] })
    (base : Nat) (e : TypeId) (i : TypeInfo) (z : Value) (size bytes : Nat) (ht : P.underlying t = some (.slice e)) (hi : P.info? e = some i) (hz : i.zero = some z)
    (hsize : i.size = size) (hby : i.bytes = bytes) (hzs : z.cells.size = size) (hsz : 0 < size)
    (g0 n c0 : Nat) (xs : List Value) (hs : a.eval s = .slice (some ⟨g0, 0, none⟩) n c0) (hown : w.ownsRow base e size (.slice (some ⟨g0, 0, none⟩) n c0) n xs)
    (D : Option Addr) (m c : Nat) (news : List Value) (hx : a.eval x = .slice D m c) (hl : news.length = m * size) (hnews : 0 < m → ∃ ad, D = some ad ∧ ∀ j u, news[j]? = some u → w.cell? (ad.add j) = some u) (h1 : ∀ u ∈ news, u.oneCell' = true)
    (h63 : n + m ≤ maxLen) (hbytes : (n + m) * bytes ≤ 140737488355328) (hbase : base ≤ w.heap.size)
    (h : ∀ g cap w', w'.ownsRow base e size (.slice (some ⟨g, 0, none⟩) (n + m) cap) (n + m) (xs ++ news) → w.grownBy w' (Value.slice (some ⟨g0, 0, none⟩) n c0).ownBlock → K (a.put o.dst (.slice (some ⟨g, 0, none⟩) (n + m) cap)) w') :
    if Region.wanted o (yielded ops a.tmps) = true then Oper.wp P o a w K Q else E := by
  have hw : Region.wanted o (yielded ops a.tmps) = true := by simp [Region.wanted, hgd]
  rw [if_pos hw]
  exact wp_append_every s x t ho base e i z size bytes ht hi hz hsize hby hzs hsz _ n xs hs hown (by intro e; cases e) D m c news hx hl hnews h1 h63 hbytes hbase h
/-- A row of numbers as what is appended. -/
theorem kin_news {w : World} {A : Option Addr} {zs : List Int} (h : KIn .i64 w A zs) : 0 < zs.length → ∃ ad, A = some ad ∧ ∀ j u, (icells zs)[j]? = some u → w.cell? (ad.add j) = some u := fun h0 => by
  obtain ⟨pb, po, e, hc⟩ := h h0
  refine ⟨_, e, fun j u hj => ?_⟩
  unfold icells at hj
  rw [List.getElem?_map] at hj
  obtain ⟨z, hz, rfl⟩ := Option.map_eq_some_iff.1 hj
  have hl := (List.getElem?_eq_some_iff.1 hz).1
  have := hc j hl
  rw [List.getD_eq_getElem?_getD, hz] at this
  by_cases h0 : j = 0
  · subst h0
    simpa [Addr.add] using this
  · simpa [Addr.add, h0] using this
theorem icells_one (zs : List Int) : ∀ u ∈ icells zs, u.oneCell' = true := fun u hu => by
  unfold icells at hu
  obtain ⟨z, _, rfl⟩ := List.mem_map.1 hu
  rfl
theorem icells_append (a b : List Int) : icells (a ++ b) = icells a ++ icells b := by simp [icells]
/-- Numbers behind numbers, in the walk. -/
theorem wpList_ints_every {w : World} {ops : Array Oper} {rest : List Oper} {o : Oper} {a : Act} {Q : Exit → Act → World → Prop} (hgd : o.guard = none) (s x : Operand)
    (ho : o.op = .call { callee := .builtin .append, args := #[s, x], argTypes := #[45, 45] })
    (base : Nat) (v : Value) (zs us : List Int) (hs : a.eval s = v) (hown : Own w base v zs) (hv : v.ownBlock ≠ none) (D : Option Addr) (m c : Nat) (hx : a.eval x = .slice D m c) (hm : us.length = m) (hK : KIn .i64 w D us)
    (k : Nat) (hk : zs.length + us.length = k) (hsm : k ≤ 4096) (hbase : base ≤ w.heap.size)
    (h : ∀ g cap w', Own w' base (.slice (some ⟨g, 0, none⟩) k cap) (zs ++ us) → w.grownBy w' v.ownBlock → wpList Tryz.prog ops Q rest (a.put o.dst (.slice (some ⟨g, 0, none⟩) k cap)) w') : wpList Tryz.prog ops Q (o :: rest) a w := by
  obtain ⟨i0, hi, hz0, hz1, hz2⟩ := info_parts info_int
  subst hm hk
  refine wpList_append_every hgd s x 45 ho base 3 i0 _ 1 8 Tryz.underlying45 hi hz0 hz1 hz2 rfl Nat.one_pos v zs.length (icells zs) hs hown hv D us.length c (icells us) hx (by rw [icells_length, Nat.mul_one]) (kin_news hK) (icells_one us) (by unfold maxLen; omega) (by omega) hbase ?_
  intro g cap w' h1 h2
  refine h g cap w' ?_ h2
  unfold Own
  rw [icells_append, List.length_append]
  exact h1
/-- Numbers behind numbers, at a step of a region that draws its order. -/
theorem step_ints_every {w : World} {ops : Array Oper} {o : Oper} {a : Act} {K : Act → World → Prop} {Q : Exit → Act → World → Prop} {E : Prop} (hgd : o.guard = none) (s x : Operand)
    (ho : o.op = .call { callee := .builtin .append, args := #[s, x], argTypes := #[45, 45] })
    (base g0 c0 n : Nat) (zs us : List Int) (hs : a.eval s = .slice (some ⟨g0, 0, none⟩) n c0) (hown : Own w base (.slice (some ⟨g0, 0, none⟩) n c0) zs) (D : Option Addr) (m c : Nat) (hx : a.eval x = .slice D m c) (hm : us.length = m) (hK : KIn .i64 w D us)
    (k : Nat) (hk : zs.length + us.length = k) (hsm : k ≤ 4096) (hbase : base ≤ w.heap.size)
    (h : ∀ g cap w', Own w' base (.slice (some ⟨g, 0, none⟩) k cap) (zs ++ us) → w.grownBy w' (Value.slice (some ⟨g0, 0, none⟩) n c0).ownBlock → K (a.put o.dst (.slice (some ⟨g, 0, none⟩) k cap)) w') :
    if Region.wanted o (yielded ops a.tmps) = true then Oper.wp Tryz.prog o a w K Q else E := by
  obtain ⟨i0, hi, hz0, hz1, hz2⟩ := info_parts info_int
  have hn : n = zs.length := by
    obtain ⟨A, cap, e⟩ := hown.slice
    injection e
  subst hm hk hn
  refine step_append_every hgd s x 45 ho base 3 i0 _ 1 8 Tryz.underlying45 hi hz0 hz1 hz2 rfl Nat.one_pos g0 zs.length c0 (icells zs) hs hown D us.length c (icells us) hx (by rw [icells_length, Nat.mul_one]) (kin_news hK) (icells_one us) (by unfold maxLen; omega) (by omega) hbase ?_
  intro g cap w' h1 h2
  refine h g cap w' ?_ h2
  unfold Own
  rw [icells_append, List.length_append]
  exact h1
end Vc
end Go.Proofs.YtkdkeokldcehhaaGreatDoor
namespace Go.Proofs.YtkdkeokldcehhaaGreatDoor
open Go.ChangeShapes Go.WideShapes Go.ChangeAt Go.RowKit Cf Vc Br Sf Sp

namespace Gn
/-- Entries behind a slice, where its block stays. -/
theorem es_moved {w w' : World} {A : Option Addr} {Q : List (Er × Ent)} (h : EsAt w A Q) (hb : ∀ a, A = some a → a.block < w.heap.size → w'.heap[a.block]? = w.heap[a.block]?) : EsAt w' A Q := fun h0 => by
  obtain ⟨pb, po, e, hc⟩ := h h0
  exact ⟨pb, po, e, fun j u hj => (World.cell?_of_block (w := w) (a := ⟨pb, po + j, none⟩) (hb ⟨pb, po, none⟩ e (show pb < w.heap.size from block_lt_of_cell (hc j u hj)))).trans (hc j u hj)⟩
/-- Rows of unlike types don't share a block. -/
theorem own_two {W : World} {N M : Nat} {e1 e2 : TypeId} {s1 s2 n1 n2 : Nat} {v1 v2 : Value} {x1 x2 : List Value} (h1 : W.ownsRow N e1 s1 v1 n1 x1) (h2 : W.ownsRow M e2 s2 v2 n2 x2) (ne : e1 ≠ e2) : ∀ k, v1.ownBlock = some k → v2.ownBlock ≠ some k := fun k hk hk2 => by
  rcases h1.2 with ⟨rfl, _⟩ | ⟨g1, c1, u1, rfl, _, g1h, _⟩
  · cases hk
  · rcases h2.2 with ⟨rfl, _⟩ | ⟨g2, c2, u2, rfl, _, g2h, _⟩
    · cases hk2
    · have e1' : g1 = k := Option.some.inj hk
      have e2' : g2 = k := Option.some.inj hk2
      subst e1' e2'
      rw [g1h] at g2h
      injection g2h with g2h
      injection g2h with _ e3 _
      exact ne e3
theorem int_entry : 3 ≠ 29 := by decide
/-- Neither where what was said lies, nor the entries' row. -/
def neither (sv pv : Value) (j : Nat) : Prop := sv.ownBlock ≠ some j ∧ pv.ownBlock ≠ some j
structure Saying (w0 : World) (sv pv : Value) (S : List Int) (R F : List (Er × Ent)) (W : World) : Prop where
  own : Own W w0.heap.size sv S
  ga : Gath w0.heap.size W pv R
  rows : ∀ q ∈ R, EOn (fun j => sv.ownBlock ≠ some j) W q.1 q.2
  fresh : ∀ q ∈ F, EOn (neither sv pv) W q.1 q.2
  below : Below w0.heap.size w0 W
section
variable {w0 W W' wz : World} {sv pv : Value} {S : List Int} {R F : List (Er × Ent)}
theorem Saying.step (h : Saying w0 sv pv S R F W) (hb : Below W.heap.size W W') : Saying w0 sv pv S R F W' :=
  ⟨h.own.below hb (Nat.le_refl _), h.ga.step hb, fun q hq => (h.rows q hq).below hb, fun q hq => (h.fresh q hq).below hb, h.below.trans (hb.mono h.below.size)⟩
theorem Saying.start (w0 : World) : Saying w0 (.slice none 0 0) (.slice none 0 0) [] [] [] w0 :=
  ⟨⟨rfl, .inl ⟨rfl, rfl⟩⟩, ⟨⟨rfl, .inl ⟨rfl, rfl⟩⟩, fun q hq => absurd hq (by simp)⟩, fun q hq => absurd hq (by simp), fun q hq => absurd hq (by simp), Below.refl _ _⟩
theorem Saying.lt (h : Saying w0 sv pv S R F W) : (∀ k, sv.ownBlock = some k → k < W.heap.size) ∧ ∀ k, pv.ownBlock = some k → k < W.heap.size := ⟨fun k hk => (World.ownsRow.lt h.own k hk).2, fun k hk => (h.ga.own.lt k hk).2⟩
/-- New entries, whose rows are new. -/
theorem Saying.come (h : Saying w0 sv pv S R [] W) (hb : Below W.heap.size W W') (hF : ∀ q ∈ F, EOn (fun _ => True) W' q.1 q.2) (hN : ∀ q ∈ F, Fr W.heap.size q.1 q.2) : Saying w0 sv pv S R F W' :=
  ⟨h.own.below hb (Nat.le_refl _), h.ga.step hb, fun q hq => (h.rows q hq).below hb, fun q hq => ((hN q hq).on (hF q hq)).mono fun j hj => ⟨fun e => by have := h.lt.1 j e; omega, fun e => by have := h.lt.2 j e; omega⟩, h.below.trans (hb.mono h.below.size)⟩
/-- One token more is said. -/
theorem Saying.said {g cap : Nat} {z : Int} (h : Saying w0 sv pv S R F W) (o : Obj) (hown : wz.ownsRow w0.heap.size 3 1 (.slice (some ⟨g, 0, none⟩) (S.length + 1) cap) (S.length + 1) (icells S ++ [.int .i64 z])) (hgrow : (W.alloc o).grownBy wz sv.ownBlock) (hat : sv.ownBlock = some g ∨ g = (W.alloc o).heap.size) :
    Saying w0 (.slice (some ⟨g, 0, none⟩) (S.length + 1) cap) pv (S ++ [z]) R F wz := by
  have hs : ∀ j, j < W.heap.size → sv.ownBlock ≠ some j → wz.heap[j]? = W.heap[j]? := fun j hj hne => (hgrow.block j (by simp; omega) fun e => hne e.symm).trans (Below.heap_alloc W o j hj)
  have hg : ∀ j, j < W.heap.size ∧ sv.ownBlock ≠ some j → (Value.slice (some ⟨g, 0, none⟩) (S.length + 1) cap).ownBlock ≠ some j := fun j hj e => by
    have e' : g = j := Option.some.inj e
    rcases hat with hat | hat
    · exact hj.2 (by rw [hat, e'])
    · have : (W.alloc o).heap.size = W.heap.size + 1 := by simp
      omega
  have hp : ∀ k, pv.ownBlock = some k → k < W.heap.size ∧ sv.ownBlock ≠ some k := fun k hk => ⟨h.lt.2 k hk, fun e => own_two h.ga.own h.own int_entry.symm k hk e⟩
  refine ⟨Own.grew rfl hown, ⟨own_moved h.ga.own fun k hk => hs k (hp k hk).1 (hp k hk).2, fun q hq => ?_⟩, fun q hq => ?_, fun q hq => ?_, below_grew h.below rfl h.own o hgrow⟩
  · have h1 := ((h.ga.all q hq).also ((h.rows q hq).new.also (h.rows q hq)))
    exact (h1.moved fun j hj => hs j hj.2.1 hj.2.2).mono fun j hj => hj.1
  · have h1 := (h.rows q hq).new.also (h.rows q hq)
    exact (h1.moved fun j hj => hs j hj.1 hj.2).mono hg
  · have h1 := (h.fresh q hq).new.also (h.fresh q hq)
    exact (h1.moved fun j hj => hs j hj.1 hj.2.1).mono fun j hj => ⟨hg j ⟨hj.1, hj.2.1⟩, hj.2.2⟩
/-- The entries are laid behind the others. -/
theorem Saying.laid {g cap : Nat} (h : Saying w0 sv pv S R F W) (hown : wz.ownsRow w0.heap.size 29 2 (.slice (some ⟨g, 0, none⟩) (R.length + F.length) cap) (R.length + F.length) (eCs R ++ eCs F)) (hgrow : W.grownBy wz pv.ownBlock) (hat : pv.ownBlock = some g ∨ g = W.heap.size) :
    Saying w0 sv (.slice (some ⟨g, 0, none⟩) (R.length + F.length) cap) S (R ++ F) [] wz := by
  have hs : ∀ j, j < W.heap.size → pv.ownBlock ≠ some j → wz.heap[j]? = W.heap[j]? := fun j hj hne => hgrow.block j hj fun e => hne e.symm
  have hg : ∀ j, j < W.heap.size ∧ pv.ownBlock ≠ some j → (Value.slice (some ⟨g, 0, none⟩) (R.length + F.length) cap).ownBlock ≠ some j := fun j hj e => by
    have e' : g = j := Option.some.inj e
    rcases hat with hat | hat
    · exact hj.2 (by rw [hat, e'])
    · omega
  have hv : ∀ k, sv.ownBlock = some k → k < W.heap.size ∧ pv.ownBlock ≠ some k := fun k hk => ⟨h.lt.1 k hk, fun e => own_two h.own h.ga.own int_entry k hk e⟩
  have hm : ∀ q ∈ R ++ F, EOn (fun j => (j < W.heap.size ∧ pv.ownBlock ≠ some j) ∧ sv.ownBlock ≠ some j) W q.1 q.2 := fun q hq => by
    rcases List.mem_append.1 hq with hq | hq
    · exact ((h.ga.all q hq).new.also (h.ga.all q hq)).also (h.rows q hq)
    · exact ((h.fresh q hq).new.also (h.fresh q hq)).mono fun j hj => ⟨⟨hj.1, hj.2.2⟩, hj.2.1⟩
  refine ⟨own_moved h.own fun k hk => hs k (hv k hk).1 (hv k hk).2, ⟨?_, fun q hq => ((hm q hq).moved fun j hj => hs j hj.1.1 hj.1.2).mono fun j hj => hg j hj.1⟩, fun q hq => ((hm q hq).moved fun j hj => hs j hj.1.1 hj.1.2).mono fun j hj => hj.2, fun q hq => absurd hq (by simp), ?_⟩
  · rw [List.length_append, eCs_append]
    exact hown
  · exact h.below.grown hgrow h.below.size (fun i hi => (h.ga.own.lt i hi).1)
end
end Gn
end Go.Proofs.YtkdkeokldcehhaaGreatDoor
namespace Go.Proofs.YtkdkeokldcehhaaGreatDoor
open Go.ChangeShapes Go.WideShapes Go.ChangeAt Go.RowKit Cf Vc Br Nr Sf Ac Sp
namespace Gn

/-! The token that is taken -/
def nextZ (d : Int) (sc : List Int) : Int := if sc.length = 0 then 0 else chooseL d (weightsL sc)
theorem inW_up {m n : Int} {ws : List Int} (h : InW m ws) (hm : m ≤ n) : InW n ws := fun i hi => by have := h i hi; omega
theorem weights_ok {sc : List Int} (h0 : 0 < sc.length) (h1 : sc.length ≤ 64) : okP (weightsL sc) := ⟨inW_up (weights_in sc) (by omega), by rw [weightsL_length]; exact h1, weights_some h0⟩
theorem next_in {d : Int} {sc : List Int} (h0 : 0 < sc.length) (h1 : sc.length ≤ 64) : 0 ≤ nextZ d sc ∧ nextZ d sc < sc.length := by
  have h := pick_spec (draw := d) (weights_ok h0 h1)
  unfold nextZ
  rw [if_neg (by omega), choose_ok (weights_ok h0 h1)]
  rw [weightsL_length] at h
  exact ⟨h.1, h.2.1⟩
theorem best_in {sc : List Int} (h0 : 0 < sc.length) : 0 ≤ bestL sc ∧ bestL sc < sc.length := bestK_in sc sc.length h0
/-- By draws; 0 behind their end. -/
def takeD (ds : List Int) (i : Nat) (sc : List Int) : Int := nextZ (ds.getD i 0) sc
/-- The best. -/
def takeB (_ : Nat) (sc : List Int) : Int := bestL sc
/-- What takes a token takes one of those that have a score. -/
def TakesIn (tk : Nat → List Int → Int) : Prop := ∀ i sc, 0 < sc.length → sc.length ≤ 64 → 0 ≤ tk i sc ∧ tk i sc < sc.length
theorem takeD_in (ds : List Int) : TakesIn (takeD ds) := fun _ _ h0 h1 => next_in h0 h1
theorem takeB_in : TakesIn takeB := fun _ _ h0 _ => best_in h0

/-! What is said -/
section
variable (x : Cfg) (s : ByteArray) (tk : Nat → List Int → Int)
/-- The next token behind a text, when i were said. -/
def tokT (i : Nat) (T : List Int) : Int := tk i (runS x s [] T)
def genT : Nat → Nat → List Int → List Int
  | 0, _, _ => []
  | n + 1, i, T => if tokT x s tk i T = 0 then [] else tokT x s tk i T :: genT n (i + 1) (T ++ [tokT x s tk i T])
theorem genT_zero (i : Nat) (T : List Int) : genT x s tk 0 i T = [] := rfl
theorem genT_end {i n : Nat} {T : List Int} (h : tokT x s tk i T = 0) : genT x s tk n i T = [] := by
  cases n with
  | zero => rfl
  | succ n => exact if_pos h
theorem genT_more {i n : Nat} {T : List Int} (h : tokT x s tk i T ≠ 0) : genT x s tk (n + 1) i T = tokT x s tk i T :: genT x s tk n (i + 1) (T ++ [tokT x s tk i T]) := if_neg h
theorem genT_length : ∀ (n i : Nat) (T : List Int), (genT x s tk n i T).length ≤ n
  | 0, _, _ => Nat.le_refl _
  | n + 1, i, T => by
    by_cases h : tokT x s tk i T = 0
    · rw [genT_end x s tk h]; exact Nat.zero_le _
    · rw [genT_more x s tk h]
      have := genT_length n (i + 1) (T ++ [tokT x s tk i T])
      simpa using this
/-- Fewer at most are a beginning. -/
theorem genT_take : ∀ (k n i : Nat) (T : List Int), k ≤ n → genT x s tk k i T = (genT x s tk n i T).take k
  | 0, _, _, _, _ => by rw [List.take_zero]; rfl
  | k + 1, 0, _, _, h => absurd h (by omega)
  | k + 1, n + 1, i, T, h => by
    by_cases h0 : tokT x s tk i T = 0
    · rw [genT_end x s tk h0, genT_end x s tk h0]; rfl
    · rw [genT_more x s tk h0, genT_more x s tk h0, List.take_succ_cons, genT_take k n (i + 1) _ (by omega)]
/-- What was said, laid behind, goes on as it went. -/
theorem genT_drop : ∀ (k n i : Nat) (T : List Int), k ≤ (genT x s tk n i T).length → genT x s tk (n - k) (i + k) (T ++ (genT x s tk n i T).take k) = (genT x s tk n i T).drop k
  | 0, n, i, T, _ => by rw [List.take_zero, List.append_nil]; rfl
  | k + 1, 0, i, T, h => absurd h (by rw [genT_zero]; simp)
  | k + 1, n + 1, i, T, h => by
    by_cases h0 : tokT x s tk i T = 0
    · rw [genT_end x s tk h0] at h
      exact absurd h (by simp)
    · rw [genT_more x s tk h0] at h ⊢
      have h1 : k ≤ (genT x s tk n (i + 1) (T ++ [tokT x s tk i T])).length := by simpa using h
      have := genT_drop k n (i + 1) (T ++ [tokT x s tk i T]) h1
      rw [List.take_succ_cons, List.drop_succ_cons, ← this, List.append_assoc, List.singleton_append, show n + 1 - (k + 1) = n - k by omega, show i + (k + 1) = i + 1 + k by omega]
/-- Each token is one of the model's, and not the end. -/
theorem genT_in (ht : TakesIn tk) (hv : vN x ≤ 64) (hv0 : 0 < vN x) (hs : ∀ T, T ≠ [] → (runS x s [] T).length = vN x) : ∀ (n i : Nat) (T : List Int), T ≠ [] → ∀ z ∈ genT x s tk n i T, 0 < z ∧ z < vN x
  | 0, _, _, _, z, hz => by cases hz
  | n + 1, i, T, hT, z, hz => by
    have h1 := hs T hT
    have h2 := ht i (runS x s [] T) (by omega) (by omega)
    by_cases h0 : tokT x s tk i T = 0
    · rw [genT_end x s tk h0] at hz; cases hz
    · rw [genT_more x s tk h0] at hz
      rcases List.mem_cons.1 hz with rfl | hz
      · unfold tokT at h0 ⊢
        omega
      · exact genT_in ht hv hv0 hs n (i + 1) _ (by simp) z hz
end
/-- What takes the same tokens says the same. -/
theorem genT_same (x : Cfg) (s : ByteArray) {tk tk' : Nat → List Int → Int} : ∀ (n i i' : Nat) (T : List Int), (∀ j, j < n → ∀ sc, tk (i + j) sc = tk' (i' + j) sc) → genT x s tk n i T = genT x s tk' n i' T
  | 0, _, _, _, _ => rfl
  | n + 1, i, i', T, h => by
    have h0 : tokT x s tk i T = tokT x s tk' i' T := h 0 (by omega) _
    by_cases hz : tokT x s tk i T = 0
    · rw [genT_end x s tk hz, genT_end x s tk' (h0 ▸ hz)]
    · rw [genT_more x s tk hz, genT_more x s tk' (h0 ▸ hz), h0]
      congr 1
      exact genT_same x s n (i + 1) (i' + 1) _ fun j hj sc => by
        have := h (j + 1) (by omega) sc
        rw [show i + (j + 1) = i + 1 + j by omega, show i' + (j + 1) = i' + 1 + j by omega] at this
        exact this
/-- The first of it. -/
theorem genT_head (x : Cfg) (s : ByteArray) (tk : Nat → List Int → Int) (n i : Nat) (T : List Int) : (tokT x s tk i T = 0 ∧ genT x s tk (n + 1) i T = []) ∨ (tokT x s tk i T ≠ 0 ∧ ∃ L, genT x s tk (n + 1) i T = tokT x s tk i T :: L) := by
  by_cases h : tokT x s tk i T = 0
  · exact .inl ⟨h, genT_end x s tk h⟩
  · exact .inr ⟨h, _, genT_more x s tk h⟩
theorem runS_length (x : Cfg) (s : ByteArray) : ∀ (T : List Int) (P : List Ent), T ≠ [] → (runS x s P T).length = vN x
  | [], _, h => absurd rfl h
  | [t], _, _ => scoresL_length _ _ _
  | t :: u :: ts, _, _ => runS_length x s (u :: ts) _ (by simp)

/-! Whether something can be said -/
def errG (x : Cfg) (most : Int) (pr : List Int) : Int := if 0 < pr.length ∧ 1 ≤ most ∧ most ≤ 32 then (if pr.all (tokB x) = true then (if (pr.length : Int) + most ≤ x.c then 0 else 12) else 3) else 1
theorem errG_ok {x : Cfg} {most : Int} {pr : List Int} : errG x most pr = 0 ↔ 0 < pr.length ∧ 1 ≤ most ∧ most ≤ 32 ∧ pr.all (tokB x) = true ∧ (pr.length : Int) + most ≤ x.c := by
  unfold errG
  split
  · rename_i h1
    split
    · rename_i h2
      split
      · rename_i h3; simp [h1, h2, h3]
      · rename_i h3; simp [h3]
    · rename_i h2; simp [h2]
  · rename_i h1
    constructor
    · intro h; cases h
    · rintro ⟨a, b, c, _⟩; exact absurd ⟨a, b, c⟩ h1
/-- Nothing is said where nothing can be. -/
def genZ (x : Cfg) (s : ByteArray) (tk : Nat → List Int → Int) (most : Int) (pr : List Int) : List Int := if errG x most pr = 0 then genT x s tk most.toNat 0 pr else []
end Gn
end Go.Proofs.YtkdkeokldcehhaaGreatDoor
