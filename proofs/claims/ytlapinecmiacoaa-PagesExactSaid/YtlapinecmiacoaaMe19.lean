/-
  Entries that are got: in a row of one's own, each in blocks of its own. No program's function here. No conditions but those of each lemma.
  What a put leaves in memory. No program's function here. No conditions but those of the lemma.
  Package pages: Put. Conditions: the pool stands in its blocks; the entry's rows are there, and small.
  Package pages: Of. Condition: the pool stands in its blocks, or is nil.
  Package pages: Get. Condition: the pool stands in its blocks.
  Package pages: what a nil pool answers. Condition: the list has a number, or none; the entry's rows are there.
  The law's own entry and is. Conditions: is: the entries' rows are there, and small.
  A pool of a law's: in blocks that are newer than the law's call; what the package's functions make of it. Conditions: a page has at most a million users; lists are there, of at most a thousand numbers.
  Law 22's answers that the document fixes by number. No conditions.
-/
import Derived.Test.YtlapinecmiacoaaMe17
import Derived.Test.YtlapinecmiacoaaMe18
import Derived.Test.YtlapinecmiacoaaMe12
import Derived.Deep.AppendLies
import Derived.BigRegion
set_option maxRecDepth 100000
namespace Go.Proofs.Ytlapinecmiacoaa
open Go.ChangeShapes Go.WideShapes Go.ChangeAt Go.RowKit Nm Cf Vc Sp

namespace Pg
theorem Small.sized {e : Ent} (h : Small e) : EntSized e := ⟨h.k, h.v, fun i hi => by have := h.ks i hi; omega, fun i hi => by have := h.vs i hi; omega⟩
/-- Where an entry's rows lie. -/
structure Loc (p : Nat → Prop) (r : Er) (e : Ent) : Prop where
  k : Ft p r.kA e.ks.length
  ks : ∀ i, i < e.ks.length → Ft p (r.kB i) (e.ks.getD i []).length
  v : Ft p r.vA e.vs.length
  vs : ∀ i, i < e.vs.length → Ft p (r.vB i) (e.vs.getD i []).length
theorem loc_of {p : Nat → Prop} {w : World} {r : Er} {e : Ent} (h : EOn p w r e) : Loc p r e := ⟨h.k.here, h.k.there, h.v.here, h.v.there⟩
theorem Loc.mono {p q : Nat → Prop} {r : Er} {e : Ent} (h : Loc p r e) (hq : ∀ j, p j → q j) : Loc q r e := ⟨h.k.mono hq, fun i hi => (h.ks i hi).mono hq, h.v.mono hq, fun i hi => (h.vs i hi).mono hq⟩
theorem Loc.on {p q : Nat → Prop} {w : World} {r : Er} {e : Ent} (h : Loc p r e) (k : EOn q w r e) : EOn (fun j => p j ∧ q j) w r e := ⟨⟨k.k.is, h.k.both k.k.here, fun i hi => (h.ks i hi).both (k.k.there i hi), k.k.cap⟩, ⟨k.v.is, h.v.both k.v.here, fun i hi => (h.vs i hi).both (k.v.there i hi), k.v.cap⟩⟩
/-- The rows of an entry's values aren't frozen. -/
def UfE (W : World) (r : Er) (e : Ent) : Prop := ∀ k, k < e.vs.length → Uf W (r.vB k) (e.vs.getD k []).length
theorem UfE.kept {W W' : World} {p : Nat → Prop} {r : Er} {e : Ent} (h : UfE W r e) (l : Loc p r e) (hb : ∀ j, p j → W'.heap[j]? = W.heap[j]?) : UfE W' r e := fun k hk => (h k hk).moved fun h0 a ha => hb _ (l.vs k hk h0 a ha)
theorem UfE.below {W W' : World} {r : Er} {e : Ent} (h : UfE W r e) (hb : Below W.heap.size W W') : UfE W' r e := fun k hk => (h k hk).below hb
structure GE (t : TypeId) (N : Nat) (p : Nat → Prop) (W : World) (v : Value) (R : List (Er × Ent)) : Prop where
  own : W.ownsRow N t 2 v R.length (eCs R)
  all : ∀ q ∈ R, EOn (fun j => p j ∧ v.ownBlock ≠ some j) W q.1 q.2
/-- Each in blocks that are newer than those of the ones ahead of it. -/
def Sep (R : List (Er × Ent)) : Prop := ∀ (i k : Nat) (q q' : Er × Ent), i < k → R[i]? = some q → R[k]? = some q' → ∃ M, Loc (· < M) q.1 q.2 ∧ Loc (M ≤ ·) q'.1 q'.2
section
variable {t : TypeId} {N : Nat} {p : Nat → Prop} {W W' wz : World} {v : Value} {R F : List (Er × Ent)}
theorem GE.none (t : TypeId) (N : Nat) (p : Nat → Prop) (W : World) : GE t N p W (.slice none 0 0) [] := ⟨World.ownsRow_nil W N t 2, fun q hq => absurd hq (by simp)⟩
theorem Sep.none : Sep [] := fun i k q q' _ h => by simp at h
theorem GE.slice (h : GE t N p W v R) : ∃ A c, v = .slice A R.length c := own_slice h.own
theorem GE.step (h : GE t N p W v R) (hb : Below W.heap.size W W') : GE t N p W' v R := ⟨own_moved h.own fun k hk => hb.block k (h.own.lt k hk).2, fun q hq => (h.all q hq).below hb⟩
theorem GE.es {A : Option Addr} {n c : Nat} (h : GE t N p W (.slice A n c) R) : EsIn W A R := ⟨own_es h.own, fun q hq => (h.all q hq).mono fun _ _ => trivial⟩
theorem GE.kept (h : GE t N p W v R) (ho : ∀ k, v.ownBlock = some k → W'.heap[k]? = W.heap[k]?) (hr : ∀ j, p j → j < W.heap.size → W'.heap[j]? = W.heap[j]?) : GE t N p W' v R :=
  ⟨own_moved h.own ho, fun q hq => (((h.all q hq).new.also (h.all q hq)).moved fun j hj => hr j hj.2.1 hj.1).mono fun _ hj => hj.2⟩
/-- Entries more, which lie elsewhere. -/
theorem GE.more {F : List (Er × Ent)} {g cap m : Nat} (h : GE t N p W v R) (hm : R.length + F.length = m) (he : ∀ q ∈ F, EOn (fun j => p j ∧ v.ownBlock ≠ some j) W q.1 q.2)
    (hown : wz.ownsRow N t 2 (.slice (some ⟨g, 0, .none⟩) m cap) m (eCs R ++ eCs F)) (hb : ∀ j, j < W.heap.size → v.ownBlock ≠ some j → wz.heap[j]? = W.heap[j]?) (hat : v.ownBlock = some g ∨ W.heap.size ≤ g) :
    GE t N p wz (.slice (some ⟨g, 0, .none⟩) m cap) (R ++ F) := by
  refine ⟨by rw [List.length_append, hm, eCs_append]; exact hown, fun q hq => ?_⟩
  have hq2 : EOn (fun j => p j ∧ v.ownBlock ≠ some j) W q.1 q.2 := by
    rcases List.mem_append.1 hq with hq | hq
    · exact h.all q hq
    · exact he q hq
  refine ((hq2.new.also hq2).moved fun j hj => hb j hj.1 hj.2.2).mono fun j hj => ⟨hj.2.1, fun e => ?_⟩
  have e' : g = j := Option.some.inj e
  rcases hat with ha | ha
  · exact hj.2.2 (e' ▸ ha)
  · have := hj.1; omega
theorem Sep.more {r : Er} {e : Ent} {M : Nat} (h : Sep R) (h1 : ∀ q ∈ R, Loc (· < M) q.1 q.2) (h2 : Loc (M ≤ ·) r e) : Sep (R ++ [(r, e)]) := fun i k q q' hik hi hk => by
  have hkl := (List.getElem?_eq_some_iff.1 hk).1
  rw [List.length_append, List.length_singleton] at hkl
  rw [List.getElem?_append_left (by omega)] at hi
  by_cases hkR : k < R.length
  · rw [List.getElem?_append_left hkR] at hk
    exact h i k q q' hik hi hk
  · rw [List.getElem?_append_right (by omega), show k - R.length = 0 by omega] at hk
    have : (r, e) = q' := Option.some.inj hk
    subst this
    exact ⟨M, h1 q (List.mem_of_getElem? hi), h2⟩
theorem GE.low (h : GE t N p W v R) : ∀ q ∈ R, Loc (· < W.heap.size) q.1 q.2 := fun q hq => loc_of (h.all q hq).new
end
theorem eCs_one1 (r : Er) (e : Ent) : eCs [(r, e)] = eC r e := by simp [eCs]
theorem info_entryT : (Try.prog.info? 36).map (fun i => (i.zero, i.size, i.bytes)) = some (some (.agg #[.slice none 0 0, .slice none 0 0]), 2, 48) := by kernel_rfl
theorem ent_src (w : World) (r : Er) (e : Ent) (t : TypeId) : ∀ j u, (eC r e)[j]? = some u → (w.alloc (.cells #[.slice r.kA e.ks.length r.kc, .slice r.vA e.vs.length r.vc] t)).cell? ((⟨w.heap.size, 0, none⟩ : Addr).add j) = some u := fun j u hj => by
  rw [Addr.add_lit, Nat.zero_add, cell_of_row _ _ _ _ _ _ (heap_alloc_new w _), ← hj]
  exact List.getElem?_toArray
theorem ent_one (r : Er) (e : Ent) : ∀ u ∈ eC r e, u.oneCell' = true := fun u hu => by
  rw [← eCs_one1] at hu
  exact eCs_one _ u hu
/-- One entry behind others, in the walk. -/
theorem wpList_one_ent {w : World} {ops : Array Oper} {rest : List Oper} {o : Oper} {a : Act} {Q : Exit → Act → World → Prop} (hgd : o.guard = none) (s x : Operand)
    (ho : o.op = .call { callee := .builtin .append, args := #[s, x], argTypes := #[53, 53] })
    (base : Nat) (v : Value) (n : Nat) (R : List (Er × Ent)) (hn : R.length = n) (r : Er) (e : Ent) (hs : a.eval s = v) (hown : w.ownsRow base 36 2 v n (eCs R)) (hx : a.eval x = .slice (some ⟨w.heap.size, 0, none⟩) 1 1)
    (hsm : n ≤ 4096) (hbase : base ≤ w.heap.size)
    (h : ∀ g cap w', w'.ownsRow base 36 2 (.slice (some ⟨g, 0, none⟩) (n + 1) cap) (n + 1) (eCs R ++ eC r e) → (w.alloc (.cells #[.slice r.kA e.ks.length r.kc, .slice r.vA e.vs.length r.vc] 36)).grownBy w' v.ownBlock → (v.ownBlock = some g ∨ w.heap.size ≤ g) → wpList Try.prog ops Q rest (a.put o.dst (.slice (some ⟨g, 0, none⟩) (n + 1) cap)) w') :
    wpList Try.prog ops Q (o :: rest) a (w.alloc (.cells #[.slice r.kA e.ks.length r.kc, .slice r.vA e.vs.length r.vc] 36)) := by
  obtain ⟨i0, hi, hz0, hz1, hz2⟩ := info_parts info_entryT
  refine wpList_append_lies _ hgd s x 53 ho base 36 i0 _ 2 48 Try.underlying53 hi hz0 hz1 hz2 rfl (by omega) v n (eCs R) hs (hown.alloc _) ⟨w.heap.size, 0, none⟩ 1 1 (eC r e) hx rfl (ent_src w r e _) (ent_one r e) Nat.one_pos (by unfold maxLen; omega) (by omega) (by simp; omega) _ rfl ?_
  intro g cap w' h1 h2 h3 _
  exact h g cap w' h1 h2 (h3.imp id fun e => by rw [e]; simp)
end Pg
end Go.Proofs.Ytlapinecmiacoaa
namespace Go.Proofs.Ytlapinecmiacoaa
open Go.ChangeShapes Go.WideShapes Go.ChangeAt Go.RowKit Nm Cf Vc Sp

namespace Pg
theorem plx_put {tP tG tE : TypeId} {F p : Nat → Prop} {w W wz : World} {D b cap n : Nat} {P : Nat → Page Ent} {G : Nat → Value} {Q : Nat → List (Er × Ent)} (h : PlX tP tG tE F w D b cap n P G Q) {i : Nat} (hi : i < n) (hW : Below w.heap.size w W) {r : Er} {e : Ent} (he : EOn p W r e) (hp : ∀ k, p k → ¬ F k) (hs : Small e) {g c m : Nat} (hm : (Q i).length = m)
    (hown : wz.ownsRow 0 tE 2 (.slice (some ⟨g, 0, none⟩) (m + 1) c) (m + 1) (eCs (Q i) ++ eC r e)) (hgrow : W.grownBy wz (G i).ownBlock) (hat : (G i).ownBlock = some g ∨ (W.heap.size ≤ g ∧ g < wz.heap.size)) (hinv : Inv n (updP P i { P i with l := (P i).l ++ [e] })) :
    PlX tP tG tE (fun k => (F k ∨ p k ∨ k = g) ∧ k < wz.heap.size) (wz.setCell ⟨b, i * 3 + 2, none⟩ (.slice (some ⟨g, 0, none⟩) (m + 1) c)) D b cap n (updP P i { P i with l := (P i).l ++ [e] }) (updG G i (.slice (some ⟨g, 0, none⟩) (m + 1) c)) (updQ Q i (Q i ++ [(r, e)])) ∧
    Turn F w (wz.setCell ⟨b, i * 3 + 2, none⟩ (.slice (some ⟨g, 0, none⟩) (m + 1) c)) ∧ (∀ k, k = g → Old F w k) := by
  subst hm
  have hz := hgrow.size
  have hw := hW.size
  have hg0 : ∀ k, (G i).ownBlock = some k → F k ∧ ¬ (k = D ∨ k = b) := h.es.inF i hi
  have hgz : g < wz.heap.size := by
    rcases hat with ha | ha
    · have := h.lt g (hg0 g ha).1; omega
    · exact ha.2
  have hD := h.lt D h.FD
  have hb := h.lt b h.Fb
  have hgD : g ≠ D ∧ g ≠ b := by
    rcases hat with ha | ha
    · exact ⟨fun e => (hg0 g ha).2 (.inl e), fun e => (hg0 g ha).2 (.inr e)⟩
    · exact ⟨by omega, by omega⟩
  have hkeep : ∀ k, k < w.heap.size → (G i).ownBlock ≠ some k → wz.heap[k]? = w.heap[k]? := fun k hk hne => (hgrow.block k (by omega) fun e => hne e.symm).trans (hW.block k hk)
  have hDk : wz.heap[D]? = w.heap[D]? := hkeep D hD fun e => (hg0 D e).2 (.inl rfl)
  have hbk : wz.heap[b]? = w.heap[b]? := hkeep b hb fun e => (hg0 b e).2 (.inr rfl)
  have ho : ∀ j, j ≠ b → (wz.setCell ⟨b, i * 3 + 2, none⟩ (.slice (some ⟨g, 0, none⟩) ((Q i).length + 1) c)).heap[j]? = wz.heap[j]? := fun j hj => heap_setCell_other _ ⟨b, i * 3 + 2, none⟩ j _ hj
  have hl : ∀ j, j ≠ i → (updP P i { P i with l := (P i).l ++ [e] } j) = P j := fun j hj => upd_off _ hj
  have es1 : EsG tE (fun k => (F k ∨ p k ∨ k = g) ∧ k < wz.heap.size) (fun k => k = D ∨ k = b) W n G Q := ((h.step hW).es).weak fun k hk hn hlt => ⟨⟨.inl hk, by omega⟩, hn⟩
  have es2 : EsG tE (fun k => (F k ∨ p k ∨ k = g) ∧ k < wz.heap.size) (fun k => k = D ∨ k = b) wz n (updG G i (.slice (some ⟨g, 0, none⟩) ((Q i).length + 1) c)) (updQ Q i (Q i ++ [(r, e)])) :=
    es1.put hi he (fun k hk hlt => ⟨⟨⟨.inr (.inl hk), by omega⟩, fun e => by
      rcases e with rfl | rfl
      · exact hp _ hk h.FD
      · exact hp _ hk h.Fb⟩, fun j hj e => hp _ hk (h.es.inF j hj k e).1⟩) hown (fun k hk _ hne => hgrow.block k hk fun e => hne e.symm) (hat.imp id fun h => h.1) ⟨⟨.inr (.inr rfl), hgz⟩, fun e => by
        rcases e with e | e
        · exact hgD.1 e
        · exact hgD.2 e⟩
  refine ⟨⟨(ho D h.ne).trans (hDk.trans h.pool), ?_, es2.kept fun k _ hn _ => ho k fun e => hn (.inr e), fun j hj => ?_, h.ne, ⟨.inl h.FD, by omega⟩, ⟨.inl h.Fb, by omega⟩, fun k hk => by simpa using hk.2, h.few, hinv, fun j hj e2 he2 => ?_⟩, ?_, ?_⟩
  · refine ((h.row.kept hbk).setG (k := i) (.slice (some ⟨g, 0, none⟩) ((Q i).length + 1) c)).congr (fun j _ => ?_) fun _ _ => rfl
    by_cases e2 : j = i
    · rw [e2, upd_at]; exact ⟨rfl, rfl⟩
    · rw [hl j e2]; exact ⟨rfl, rfl⟩
  · by_cases e2 : j = i
    · rw [e2, upd_at, updQ_at, List.map_append, ← h.same i hi]; rfl
    · rw [hl j e2, updQ_off _ _ e2]; exact h.same j hj
  · by_cases e3 : j = i
    · rw [e3, upd_at] at he2
      rcases List.mem_append.1 he2 with he2 | he2
      · exact h.sized i hi e2 he2
      · rw [List.mem_singleton.1 he2]; exact hs
    · rw [hl j e3] at he2; exact h.sized j hj e2 he2
  · exact ((Turn.of_below F hW).grown hgrow fun k hk => .inl (hg0 k hk).1).set (.inl h.Fb) _ _
  · rintro k rfl
    rcases hat with ha | ha
    · exact .inl (hg0 k ha).1
    · exact .inr (by omega)
end Pg
end Go.Proofs.Ytlapinecmiacoaa
namespace Go.Proofs.Ytlapinecmiacoaa
open Go.ChangeShapes Go.WideShapes Go.ChangeAt Go.RowKit Nm Cf Vc Sp Pg

namespace Pg
theorem putE_none {n : Nat} {P : Nat → Page Ent} {x : Int} (h : isP n P x = false) : putE n P x = 8 := if_neg (by rw [h]; decide)
theorem putE_in {n : Nat} {P : Nat → Page Ent} {i : Nat} (h : isP n P (i : Int) = true) : putE n P (i : Int) = if 1 < (P i).u then 7 else if 4 ≤ (P i).l.length then 10 else 0 := if_pos h
theorem putS_not {n : Nat} {P : Nat → Page Ent} {x : Int} {e : Ent} (h : putE n P x ≠ 0) : putS n P x e = P := if_neg h
theorem putS_in {n : Nat} {P : Nat → Page Ent} {i : Nat} {e : Ent} (h : putE n P (i : Int) = 0) : putS n P (i : Int) e = updP P i { P i with l := (P i).l ++ [e] } := if_pos h
end Pg
set_option maxRecDepth 100000 in
set_option maxHeartbeats 3200000 in
theorem pages_put {F p : Nat → Prop} {w : World} {D n : Nat} {P : Nat → Page Ent} (h : Pl F w D n P) (x : Int) {r : Er} {e : Ent} (he : EOn p w r e) (hs : Small e) :
    Calls Try.prog 13 #[.pointer (some ⟨D, 0, none⟩), .int .i64 x, eV r e] w fun z w' => z = .returned (.int .i64 (putE n P x)) ∧ TurnsP F w D n (putS n P x e) w' := by
  obtain ⟨b, cap, G, Q, hX⟩ := h
  have hb0 : Below w.heap.size w (w.alloc (.cells #[.slice r.kA e.ks.length r.kc, .slice r.vA e.vs.length r.vc] 36)) := (Below.refl _ _).alloc (Nat.le_refl _) _
  have hE0 := heap_alloc_new w (.cells #[.slice r.kA e.ks.length r.kc, .slice r.vA e.vs.length r.vc] 36)
  have HB0 := Lib.hid hb0
  have HE0 := Lib.hid hE0
  have HX := Lib.hid hX
  have HPG := Lib.hid (pages_page (hX.step hb0) x)
  obtain ⟨sA, sc, hG⟩ := atG_slice hX x
  have hfree := fun W => page_free W (atP n P x).v (atP n P x).u sA (atP n P x).l.length sc
  rw [at_u] at hfree
  have HFR := Lib.hid hfree
  rw [hG] at HPG
  have HCP := Lib.hid (fun W (hW : Below w.heap.size w W) => step_copy_new W r e ((he.below hW).mono fun _ _ => trivial) hs.sized)
  unfold CyNew eV at HCP
  unfold pgA at HPG HFR
  have HSMALL := Lib.hid hs
  unfold eV
  clear hfree hb0 hE0 he hs
  cases hp : isP n P x with
  | false =>
    have HPE := Lib.hid (putE_none hp)
    have HPS := Lib.hid (putS_not (e := e) (show putE n P x ≠ 0 by rw [HPE.out]; decide))
    rw [hp] at HFR
    rw [HPE.out, HPS.out]
    generalize (atP n P x).l.length = l1 at *
    generalize (atP n P x).v = v1 at *
    generalize (atP n P x).u = u1 at *
    clear hp hX hG HPE HPS HCP
    go_enter Try.func13, Try.ntmps13
    go_wp2_with (first
      | (go_at_call 29; refine HPG.out.mono ?_; rintro z w1 ⟨rfl, b1⟩; have B1 := Lib.hid (HB0.out.trans (b1.mono HB0.out.size)); clear b1)
      | (go_at_call 30; refine (HFR.out _).mono ?_; rintro z w2 ⟨rfl, b2⟩; have B2 := Lib.hid ((B1.out.alloc B1.out.size (pgO v1 (u1 : Int) (.slice sA l1 sc))).trans (b2.mono (Nat.le_trans B1.out.size (by simp)))); clear b2))
    refine bodyPost_ret (results_tmp rfl _ _ _) rfl ?_
    exact ⟨rfl, F, ⟨b, cap, G, Q, HX.out.step B2.out⟩, fun _ => .inl, .of_below _ B2.out⟩
  | true =>
  have hi3 := is_iff.1 hp
  obtain ⟨i, rfl⟩ : ∃ i : Nat, x = (i : Int) := ⟨x.toNat, by omega⟩
  have hin : i < n := by omega
  have hu0 : 0 < (P i).u := by simpa using hi3.2.2
  rw [hp] at HFR
  rw [at_in hin] at HPG HFR hG
  rw [atG_in hin] at hG
  have HPE := Lib.hid (putE_in hp)
  have hl4 := hX.inv.few i hin
  have HUB := Lib.hid (show ∀ w1 w2 : World, Below (w1.alloc (pgO (P i).v ((P i).u : Int) (.slice sA (P i).l.length sc))).heap.size (w1.alloc (pgO (P i).v ((P i).u : Int) (.slice sA (P i).l.length sc))) w2 → w2.heap[w1.heap.size]? = some (pgO (P i).v ((P i).u : Int) (.slice sA (P i).l.length sc)) from fun w1 w2 hb => pg_stays (pg_new w1 _ _ _) hb)
  by_cases hu1 : 1 < (P i).u
  · have HPE2 := Lib.hid (show putE n P (i : Int) = 7 from HPE.out.trans (if_pos hu1))
    have HPS := Lib.hid (putS_not (e := e) (show putE n P (i : Int) ≠ 0 by rw [HPE2.out]; decide))
    rw [HPE2.out, HPS.out]
    have t1 : decide ((1 : Int) < ((P i).u : Int)) = true := decide_eq_true (by omega)
    have t2 : decide (1 < (P i).u) = true := decide_eq_true hu1
    generalize (P i).l.length = l1 at *
    generalize (P i).v = v1 at *
    generalize (P i).u = u1 at *
    clear hp hX hG HPE HPE2 HPS HCP hi3
    go_enter Try.func13, Try.ntmps13
    go_wp2_with (first
      | (go_at_call 29; refine HPG.out.mono ?_; rintro z w1 ⟨rfl, b1⟩; have B1 := Lib.hid (HB0.out.trans (b1.mono HB0.out.size)); clear b1)
      | (go_at_call 30; refine (HFR.out _).mono ?_; rintro z w2 ⟨rfl, b2⟩; have B2 := Lib.hid ((B1.out.alloc B1.out.size (pgO v1 (u1 : Int) (.slice sA l1 sc))).trans (b2.mono (Nat.le_trans B1.out.size (by simp)))); have ub := HUB.out _ _ b2; have j1 := pg1 ub; clear b2))
    refine bodyPost_ret (results_tmp rfl _ _ _) rfl ?_
    exact ⟨rfl, F, ⟨b, cap, G, Q, HX.out.step B2.out⟩, fun _ => .inl, .of_below _ B2.out⟩
  have t1 : decide ((1 : Int) < ((P i).u : Int)) = false := decide_eq_false (by omega)
  have t2 : decide (1 < (P i).u) = false := decide_eq_false hu1
  by_cases hl : 4 ≤ (P i).l.length
  · have HPE2 := Lib.hid (show putE n P (i : Int) = 10 from HPE.out.trans ((if_neg hu1).trans (if_pos hl)))
    have HPS := Lib.hid (putS_not (e := e) (show putE n P (i : Int) ≠ 0 by rw [HPE2.out]; decide))
    rw [HPE2.out, HPS.out]
    have t3 : (((P i).l.length : Int) == 4) = true := beq_iff_eq.2 (by omega)
    generalize (P i).l.length = l1 at *
    generalize (P i).v = v1 at *
    generalize (P i).u = u1 at *
    clear hp hX hG HPE HPE2 HPS HCP hi3
    go_enter Try.func13, Try.ntmps13
    go_wp2_with (first
      | (go_at_call 29; refine HPG.out.mono ?_; rintro z w1 ⟨rfl, b1⟩; have B1 := Lib.hid (HB0.out.trans (b1.mono HB0.out.size)); clear b1)
      | (go_at_call 30; refine (HFR.out _).mono ?_; rintro z w2 ⟨rfl, b2⟩; have B2 := Lib.hid ((B1.out.alloc B1.out.size (pgO v1 (u1 : Int) (.slice sA l1 sc))).trans (b2.mono (Nat.le_trans B1.out.size (by simp)))); have ub := HUB.out _ _ b2; have j1 := pg1 ub; have j2 := pg2 ub; clear b2))
    refine bodyPost_ret (results_tmp rfl _ _ _) rfl ?_
    exact ⟨rfl, F, ⟨b, cap, G, Q, HX.out.step B2.out⟩, fun _ => .inl, .of_below _ B2.out⟩
  have HPE2 := Lib.hid (show putE n P (i : Int) = 0 from HPE.out.trans ((if_neg hu1).trans (if_neg hl)))
  have HPS := Lib.hid (putS_in (e := e) HPE2.out)
  have HINV := Lib.hid (inv_put hX.inv (i : Int) e)
  rw [HPS.out] at HINV
  rw [HPE2.out, HPS.out]
  have t3 : (((P i).l.length : Int) == 4) = false := by simpa using (show ¬ ((P i).l.length : Int) = 4 by omega)
  obtain ⟨j0, hj0, hy0, hy1, hy2⟩ := info_parts info_entryT
  have HJ := Lib.hid hj0
  have HY0 := Lib.hid hy0
  have HY1 := Lib.hid hy1
  have HY2 := Lib.hid hy2
  have HSM := Lib.hid (show (P i).l.length + 1 ≤ maxLen ∧ ((P i).l.length + 1) * 48 ≤ 140737488355328 by unfold maxLen; omega)
  have hql : (Q i).length = (P i).l.length := by rw [hX.same i hin, List.length_map]
  have how : w.ownsRow 0 36 2 (.slice sA (P i).l.length sc) (P i).l.length (eCs (Q i)) := by have h := hX.es.own i hin; rw [hql, hG] at h; exact h
  have HOW := Lib.hid how
  have HQL := Lib.hid hql
  have HG := Lib.hid hG
  have HIN := Lib.hid hin
  have hgF := hX.es.inF i hin
  rw [hG] at hgF
  have HGF := Lib.hid hgF
  generalize hQi : Q i = Qi at HOW HQL
  have HQI := Lib.hid hQi
  have x5 : (i : Int) < (n : Int) := by omega
  have x6 : 0 ≤ (i : Int) := by omega
  clear hp hX hG HPE HPE2 HPS hi3 hu0 hl4 hl hj0 hy0 hy1 hy2 hql how hgF hQi hin hu1
  generalize hl1 : (P i).l.length = l1 at *
  generalize hv1 : (P i).v = v1 at *
  generalize hu1 : (P i).u = u1 at *
  clear hl1 hv1 hu1
  go_enter Try.func13, Try.ntmps13
  go_upto_region 10 with (first
    | (go_at_call 29; refine HPG.out.mono ?_; rintro z w1 ⟨rfl, b1⟩; have HEA := Lib.hid ((b1.block _ (by simp)).trans HE0.out); have B1 := Lib.hid (HB0.out.trans (b1.mono HB0.out.size)); have HS1 := Lib.hid (show w.heap.size < w1.heap.size by have := b1.size; simp at this; omega); clear b1)
    | (go_at_call 30; refine (HFR.out _).mono ?_; rintro z w2 ⟨rfl, b2⟩; have HEB := Lib.hid ((b2.block w.heap.size (by have := HS1.out; simp; omega)).trans ((heap_alloc_old w1 _ HS1.out).trans HEA.out)); have B2 := Lib.hid ((B1.out.alloc B1.out.size (pgO v1 (u1 : Int) (.slice sA l1 sc))).trans (b2.mono (Nat.le_trans B1.out.size (by simp)))); have ub := HUB.out _ _ b2; have j1 := pg1 ub; have j2 := pg2 ub; have HU2 := Lib.hid ub; have HUS := Lib.hid (show w1.heap.size < w2.heap.size from (Array.getElem?_eq_some_iff.1 ub).1); clear b2))
  clear j1 j2 ub
  have HUW := Lib.hid (show w.heap.size ≤ w1.heap.size from B1.out.size)
  generalize w1.heap.size = U at *
  have HX2 := Lib.hid (HX.out.step B2.out)
  have HK := Lib.hid (show ∀ W, Below w2.heap.size w2 W → (W.cell? ⟨D, 0, none⟩ = some (.slice (some ⟨b, 0, none⟩) n cap) ∧ W.cell? ⟨U, 2, none⟩ = some (.slice sA l1 sc) ∧ W.cell? ⟨w.heap.size, 0, none⟩ = some (.slice r.kA e.ks.length r.kc) ∧ W.cell? ⟨w.heap.size, 1, none⟩ = some (.slice r.vA e.vs.length r.vc)) from fun W hW => by
    have h1 := (hW.block _ (Array.getElem?_eq_some_iff.1 HEB.out).1).trans HEB.out
    exact ⟨(HX2.out.step hW).cD, pg2 (pg_stays HU2.out hW), by rw [cell_of_row _ _ _ _ _ _ h1]; rfl, by rw [cell_of_row _ _ _ _ _ _ h1]; rfl⟩)
  have HKG := Lib.hid (show ∀ W, Below w2.heap.size w2 W → ∀ wz, W.grownBy wz (Value.slice sA l1 sc).ownBlock → (wz.cell? ⟨D, 0, none⟩ = some (.slice (some ⟨b, 0, none⟩) n cap) ∧ wz.cell? ⟨U, 2, none⟩ = some (.slice sA l1 sc) ∧ wz.cell? ⟨w.heap.size, 0, none⟩ = some (.slice r.kA e.ks.length r.kc) ∧ wz.cell? ⟨w.heap.size, 1, none⟩ = some (.slice r.vA e.vs.length r.vc)) ∧ (∀ k, wz.frozen? ⟨b, k, none⟩ = false) ∧ wz.cell? ⟨b, i * 3 + 2, none⟩ = some (.slice sA l1 sc) from fun W hW wz hg => by
    obtain ⟨a0, a1, a2, a3⟩ := HK.out W hW
    have hX3 := HX2.out.step hW
    have hx2 := hX3.row.c2 HIN.out
    rw [HG.out] at hx2
    have hoff : ∀ k, (Value.slice sA l1 sc).ownBlock = some k → k ≠ D ∧ k ≠ b ∧ k < w.heap.size := fun k hk => by
      have h1 := HGF.out k hk
      exact ⟨fun e => h1.2 (.inl e), fun e => h1.2 (.inr e), HX.out.lt k h1.1⟩
    have hne : ∀ k, (k = D ∨ k = b ∨ w.heap.size ≤ k) → some k ≠ (Value.slice sA l1 sc).ownBlock := fun k hk e => by
      have h1 := hoff k e.symm
      rcases hk with h | h | h
      · exact h1.1 h
      · exact h1.2.1 h
      · omega
    have hbz : wz.heap[b]? = W.heap[b]? := hg.block b hX3.row.lt (hne b (.inr (.inl rfl)))
    exact ⟨⟨hg.cell a0 (hne D (.inl rfl)), hg.cell a1 (hne U (.inr (.inr HUW.out))), hg.cell a2 (hne _ (.inr (.inr (Nat.le_refl _)))), hg.cell a3 (hne _ (.inr (.inr (Nat.le_refl _))))⟩, (hX3.row.kept hbz).fz, hg.cell hx2 (hne b (.inr (.inl rfl)))⟩)
  have BD := Lib.hid (below_drewN (Below.refl w2.heap.size w2) 1)
  have k0 := HK.out _ BD.out
  -- HANDV 0
  refine wp_region_noPanic ?_
  refine wp_region_heldV (S := (fun W : World => W.cell? ⟨D, 0, none⟩ = some (.slice (some ⟨b, 0, none⟩) n cap) ∧ W.cell? ⟨U, 2, none⟩ = some (.slice sA l1 sc) ∧ W.cell? ⟨w.heap.size, 0, none⟩ = some (.slice r.kA e.ks.length r.kc) ∧ W.cell? ⟨w.heap.size, 1, none⟩ = some (.slice r.vA e.vs.length r.vc))) 13 (by kernel_rfl) (by kernel_rfl) (by kernel_rfl) (by kernel_rfl) (by decide) k0 (fun hHeld => ?_)
  refine wpAnyV_take (i := 0) (v := .pointer (some ⟨D, 0, none⟩)) 25 rfl rfl (by decide) (by kernel_rfl) (by kernel_rfl) (fun _ _ _ h => h) (Or.inl ⟨by rfl, ?_⟩) hHeld ?_
  · intro W hW
    try dsimp only at hW
    go_simp
  simp only [Act.put, List.setIfInBounds_toArray, List.set_cons_succ, List.set_cons_zero]
  refine wpAnyV_take (i := 1) (v := .pointer (some ⟨D, 0, none⟩)) 26 rfl rfl (by decide) (by kernel_rfl) (by kernel_rfl) (fun _ _ _ h => h) (Or.inl ⟨by rfl, ?_⟩) hHeld ?_
  · intro W hW
    try dsimp only at hW
    go_simp
  simp only [Act.put, List.setIfInBounds_toArray, List.set_cons_succ, List.set_cons_zero]
  refine wpAnyV_take (i := 2) (v := .pointer (some ⟨D, 0, none⟩)) 27 rfl rfl (by decide) (by kernel_rfl) (by kernel_rfl) (fun _ _ _ h => h) (Or.inl ⟨by rfl, ?_⟩) hHeld ?_
  · intro W hW
    try dsimp only at hW
    go_simp
  simp only [Act.put, List.setIfInBounds_toArray, List.set_cons_succ, List.set_cons_zero]
  refine wpAnyV_take (i := 3) (v := .slice (some ⟨b, 0, none⟩) n cap) 28 rfl rfl (by decide) (by kernel_rfl) (by kernel_rfl) (fun _ _ _ h => h) (Or.inl ⟨by rfl, ?_⟩) hHeld ?_
  · intro W hW
    try dsimp only at hW
    go_simp
  simp only [Act.put, List.setIfInBounds_toArray, List.set_cons_succ, List.set_cons_zero]
  refine wpAnyV_take (i := 4) (v := .int .i64 (i : Int)) 29 rfl rfl (by decide) (by kernel_rfl) (by kernel_rfl) (fun _ _ _ h => h) (Or.inl ⟨by rfl, ?_⟩) hHeld ?_
  · intro W hW
    try dsimp only at hW
    go_simp
  simp only [Act.put, List.setIfInBounds_toArray, List.set_cons_succ, List.set_cons_zero]
  refine wpAnyV_take (i := 5) (v := .pointer (some ⟨U, 2, none⟩)) 30 rfl rfl (by decide) (by kernel_rfl) (by kernel_rfl) (fun _ _ _ h => h) (Or.inl ⟨by rfl, ?_⟩) hHeld ?_
  · intro W hW
    try dsimp only at hW
    go_simp
  simp only [Act.put, List.setIfInBounds_toArray, List.set_cons_succ, List.set_cons_zero]
  refine wpAnyV_take (i := 6) (v := .slice sA l1 sc) 31 rfl rfl (by decide) (by kernel_rfl) (by kernel_rfl) (fun _ _ _ h => h) (Or.inl ⟨by rfl, ?_⟩) hHeld ?_
  · intro W hW
    try dsimp only at hW
    go_simp
  simp only [Act.put, List.setIfInBounds_toArray, List.set_cons_succ, List.set_cons_zero]
  refine wpAnyV_take (i := 7) (v := .agg #[.slice r.kA e.ks.length r.kc, .slice r.vA e.vs.length r.vc]) 32 rfl rfl (by decide) (by kernel_rfl) (by kernel_rfl) (fun _ _ _ h => h) (Or.inl ⟨by rfl, ?_⟩) hHeld ?_
  · intro W hW
    try dsimp only at hW
    go_simp
  simp only [Act.put, List.setIfInBounds_toArray, List.set_cons_succ, List.set_cons_zero]
  refine wpAnyV_one (i := 8) (by kernel_rfl) rfl (by decide) (fun K hK => ?_)
  go_simp
  refine (HCP.out _ (B2.out.trans (BD.out.mono B2.out.size))).mono ?_
  rintro z w5 ⟨r2, rfl, e5, _, b5⟩
  have B5 := Lib.hid (BD.out.trans (b5.mono BD.out.size))
  have E5 := Lib.hid (e5.mono (q := (w.heap.size ≤ ·)) fun j hj => Nat.le_trans (Nat.le_trans B2.out.size BD.out.size) hj)
  have k5 := HK.out _ B5.out
  clear e5 b5
  refine hK.out _ _ k5 (fun hHeld2 => ?_)
  clear hK K hHeld
  have hHeld := hHeld2
  clear hHeld2
  try simp only [Act.put, List.setIfInBounds_toArray, List.set_cons_succ, List.set_cons_zero]
  have k6 := HK.out _ (B5.out.alloc B5.out.size (.cells #[.slice r2.kA e.ks.length r2.kc, .slice r2.vA e.vs.length r2.vc] 36))
  have HOW5 := Lib.hid (show w5.ownsRow 0 36 2 (.slice sA l1 sc) l1 (eCs Qi) from own_moved HOW.out fun k hk => (B5.out.block k (Nat.lt_of_lt_of_le (HOW.out.lt k hk).2 B2.out.size)).trans (B2.out.block k (HOW.out.lt k hk).2))
  have HSRC := Lib.hid (ent_src w5 r2 e 36)
  have HONE := Lib.hid (ent_one r2 e)
  refine wpAnyV_one (i := 9) (by kernel_rfl) rfl (by decide) (fun K hK => ?_)
  go_simp
  refine hK.out _ _ k6 (fun hHeld2 => ?_)
  clear hK K hHeld
  have hHeld := hHeld2
  clear hHeld2
  try simp only [Act.put, List.setIfInBounds_toArray, List.set_cons_succ, List.set_cons_zero]
  refine wpAnyV_one (i := 10) (by kernel_rfl) rfl (by decide) (fun K hK => ?_)
  refine step_append_lies _ (by rfl) _ _ _ (by rfl) 0 36 j0 _ 2 48 Try.underlying53 HJ.out HY0.out HY1.out HY2.out rfl (by omega) (.slice sA l1 sc) l1 _ (by rfl) (HOW5.out.alloc _) ⟨w5.heap.size, 0, none⟩ 1 1 (eC r2 e) (by rfl) rfl HSRC.out HONE.out Nat.one_pos HSM.out.1 HSM.out.2 (Nat.zero_le _) _ rfl ?_
  intro g4 c4 w6 hown hgrow hat hlt
  have HGR := Lib.hid (show w5.grownBy w6 (Value.slice sA l1 sc).ownBlock from (World.grownBy_alloc w5 _ _).trans hgrow)
  have HAT := Lib.hid (show (Value.slice sA l1 sc).ownBlock = some g4 ∨ (w5.heap.size ≤ g4 ∧ g4 < w6.heap.size) from hat.imp id fun h => ⟨by rw [h]; simp, hlt⟩)
  have HOWN6 := Lib.hid hown
  have k7 := HKG.out _ B5.out _ HGR.out
  clear hown hgrow hat hlt
  refine hK.out _ _ k7.1 (fun hHeld2 => ?_)
  clear hK K hHeld
  have hHeld := hHeld2
  clear hHeld2
  try simp only [Act.put, List.setIfInBounds_toArray, List.set_cons_succ, List.set_cons_zero]
  refine wpAnyV_take (i := 11) (v := .pointer (some ⟨b, i * 3, none⟩)) 36 rfl rfl (by decide) (by kernel_rfl) (by kernel_rfl) (fun _ _ _ h => h) (Or.inl ⟨by rfl, ?_⟩) hHeld ?_
  · intro W hW
    try dsimp only at hW
    go_simp
  simp only [Act.put, List.setIfInBounds_toArray, List.set_cons_succ, List.set_cons_zero]
  refine wpAnyV_take (i := 12) (v := .pointer (some ⟨b, i * 3 + 2, none⟩)) 37 rfl rfl (by decide) (by kernel_rfl) (by kernel_rfl) (fun _ _ _ h => h) (Or.inl ⟨by rfl, ?_⟩) hHeld ?_
  · intro W hW
    try dsimp only at hW
    go_simp
  simp only [Act.put, List.setIfInBounds_toArray, List.set_cons_succ, List.set_cons_zero]
  obtain ⟨k7, k8, k9⟩ := k7
  refine wpAnyV_last (by kernel_rfl) rfl (by kernel_rfl) (fun K hK => ?_)
  go_simp
  refine hK.out _ _ ?_
  refine NoPanic.normal ?_
  -- VDNAH 0
  go_wp2_with (fail)
  refine bodyPost_ret (results_tmp rfl _ _ _) rfl ?_
  have hB5 := B2.out.trans (B5.out.mono B2.out.size)
  obtain ⟨q1, q2, q3⟩ := plx_put HX.out HIN.out hB5 E5.out (fun k hk hf => by have := HX.out.lt k hf; omega) HSMALL.out (HQI.out ▸ HQL.out) (by rw [HQI.out]; exact HOWN6.out) (by rw [HG.out]; exact HGR.out) (by rw [HG.out]; exact HAT.out) HINV.out
  refine ⟨rfl, _, ⟨b, cap, _, _, q1⟩, fun k hk => ?_, q2⟩
  rcases hk.1 with h | h | h
  · exact .inl h
  · exact .inr h
  · exact q3 k h
end Go.Proofs.Ytlapinecmiacoaa
namespace Go.Proofs.Ytlapinecmiacoaa
open Go.ChangeShapes Go.WideShapes Go.ChangeAt Go.RowKit Nm Cf Vc Sp Pg

namespace Pg
/-- One number behind others, in the walk. -/
theorem wpList_one_int {w : World} {ops : Array Oper} {rest : List Oper} {o : Oper} {a : Act} {Q : Exit → Act → World → Prop} (hgd : o.guard = none) (s x : Operand)
    (ho : o.op = .call { callee := .builtin .append, args := #[s, x], argTypes := #[28, 28] })
    (base : Nat) (v : Value) (n : Nat) (zs : List Int) (hn : zs.length = n) (z : Int) (hs : a.eval s = v) (hown : Own w base v zs) (hx : a.eval x = .slice (some ⟨w.heap.size, 0, none⟩) 1 1)
    (hsm : n ≤ 4096) (hbase : base ≤ w.heap.size)
    (h : ∀ g cap w', Own w' base (.slice (some ⟨g, 0, none⟩) (n + 1) cap) (zs ++ [z]) → (w.alloc (.cells #[.int .i64 z] 3)).grownBy w' v.ownBlock → (v.ownBlock = some g ∨ w.heap.size ≤ g) → wpList Try.prog ops Q rest (a.put o.dst (.slice (some ⟨g, 0, none⟩) (n + 1) cap)) w') : wpList Try.prog ops Q (o :: rest) a (w.alloc (.cells #[.int .i64 z] 3)) := by
  obtain ⟨i0, hi, hz0, hz1, hz2⟩ := info_parts info_int
  subst hn
  refine wpList_append_lies _ hgd s x 28 ho base 3 i0 _ 1 8 Try.underlying28 hi hz0 hz1 hz2 rfl Nat.one_pos v zs.length (icells zs) hs (hown.alloc _) ⟨w.heap.size, 0, none⟩ 1 1 [.int .i64 z] hx rfl (one_src w z) (one_one z) Nat.one_pos (by unfold maxLen; omega) (by omega) (by simp; omega) _ rfl ?_
  intro g cap w' h1 h2 h3 _
  refine h g cap w' ?_ h2 (h3.imp id fun e => by rw [e]; simp)
  unfold Own
  rw [icells_add, List.length_append, List.length_singleton]
  exact h1
/-- The pages of a version, as numbers. -/
def ofI (P : Nat → Page Ent) (v : Int) (n : Nat) : List Int := (ofL P v n).map fun i : Nat => (i : Int)
theorem ofI_len (P : Nat → Page Ent) (v : Int) (n : Nat) : (ofI P v n).length = (ofL P v n).length := by simp [ofI]
theorem ofI_yes {n j : Nat} {P : Nat → Page Ent} {v : Int} (hj : j < n) (h1 : isP n P (j : Int) = true) (h2 : (P j).v = v) : ofI P v (j + 1) = ofI P v j ++ [(j : Int)] := by
  unfold ofI
  rw [is_nat hj, decide_eq_true_iff] at h1
  rw [of_next, if_pos (by unfold ofB; rw [decide_eq_true h1, decide_eq_true h2]; rfl), List.map_append]
  rfl
theorem ofI_no {n j : Nat} {P : Nat → Page Ent} {v : Int} (hj : j < n) (h : isP n P (j : Int) = false ∨ (P j).v ≠ v) : ofI P v (j + 1) = ofI P v j := by
  unfold ofI
  rw [of_next, if_neg]
  unfold ofB
  rcases h with h | h
  · rw [is_nat hj] at h
    rw [h]
    exact Bool.false_ne_true
  · rw [decide_eq_false h, Bool.and_false]
    exact Bool.false_ne_true
/-- What Of answers. -/
def OfSays (w : World) (L : List Int) (e : Ending) (w' : World) : Prop := ∃ A c, e = .returned (.slice A L.length c) ∧ KIn .i64 w' A L ∧ Below w.heap.size w w'
end Pg
set_option maxRecDepth 100000 in
set_option maxHeartbeats 1600000 in
theorem pages_of {F : Nat → Prop} {w : World} {D n : Nat} {P : Nat → Page Ent} (h : Pl F w D n P) (v : Int) : Calls Try.prog 26 #[.pointer (some ⟨D, 0, none⟩), .int .i64 v] w (OfSays w (ofI P v n)) := by
  have hn := h.few
  have HL := Lib.hid (by obtain ⟨b, cap, G, Q, h⟩ := h; exact pages_len h)
  have HP := Lib.hid (page_at h)
  clear h
  go_enter Try.func26, Try.ntmps26
  go_wp2_with (go_at_call 24; refine HL.out.mono ?_; rintro e w1 ⟨rfl, rfl⟩)
  go_loopw [5, 10] (fun s i wr => ∃ (j : Nat) (A : Option Addr) (c : Nat), i = .int .i64 (j : Int) ∧ j ≤ n ∧ s = .slice A (ofI P v j).length c ∧ Own wr w.heap.size s (ofI P v j) ∧ Below w.heap.size w wr) (fun _ i _ => match i with | .int _ k => n - k.toNat | _ => 0)
  case atStart => exact ⟨0, none, 0, rfl, Nat.zero_le _, rfl, ⟨rfl, .inl ⟨rfl, rfl⟩⟩, Below.refl _ _⟩
  case round =>
    obtain ⟨j, A, c, rfl, hj, rfl, ho, hb⟩ := hrel
    have HB := Lib.hid hb
    have HO := Lib.hid ho
    have hf := of_le P v j
    have HLE := Lib.hid (show (ofI P v j).length ≤ 64 by rw [ofI_len]; omega)
    clear hb ho hf
    by_cases hlt : j < n
    · have x0 : (j : Int) < (n : Int) := by omega
      have x1 : decide ((j : Int) < (n : Int)) = true := decide_eq_true x0
      have HJ := Lib.hid (show j + 1 ≤ n by omega)
      obtain ⟨sA, sc, c1, c2⟩ := HP.out (j : Int)
      have HC1 := Lib.hid (c1 wr HB.out)
      have HC2 := Lib.hid c2
      have HY := Lib.hid (fun h1 h2 => ofI_yes (P := P) (v := v) hlt h1 h2)
      have HNO := Lib.hid (fun h => ofI_no (P := P) (v := v) hlt h)
      rw [at_in hlt] at HC1 HC2
      clear c1 c2
      have x3 := IntWalk.wrap64_in ((j : Int) + 1) (by omega)
      generalize (P j).l.length = l1 at *
      generalize hv1 : (P j).v = v1 at *
      generalize (P j).u = u1 at *
      generalize hL : ofI P v j = L at *
      cases hp : isP n P (j : Int) with
      | true =>
        rw [hp] at HC2 HY
        by_cases hvv : v1 = v
        · have HN2 := Lib.hid (HY.out rfl hvv)
          have t1 : (v1 == v) = true := by rw [hvv]; exact beq_self_eq_true _
          clear hp hlt hvv HY HNO hv1
          go_wp2_with (first
            | (go_at_call 29; refine HC1.out.mono ?_; rintro e w1 ⟨rfl, b1⟩; have B1 := Lib.hid (HB.out.trans (b1.mono HB.out.size)); have O1 := Lib.hid (HO.out.below b1 (Nat.le_refl _)); clear b1)
            | (go_at_call 30; refine (HC2.out _).mono ?_; rintro e w2 ⟨rfl, b2⟩; have ba := Lib.hid (((Below.refl w1.heap.size w1).alloc (Nat.le_refl _) (pgO v1 (u1 : Int) (.slice sA l1 sc))).trans (b2.mono (by simp))); have B2 := Lib.hid (B1.out.trans (ba.out.mono B1.out.size)); have O2 := Lib.hid (O1.out.below ba.out (Nat.le_refl _)); have k0 := pg0 (pg_stays (pg_new w1 v1 (u1 : Int) (.slice sA l1 sc)) b2); have hsz := B2.out.size; clear b2)
            | (at_builtin; refine wpList_one_int rfl (.tmp 25) (.tmp 27) rfl w.heap.size (.slice A L.length c) L.length L rfl (j : Int) rfl O2.out rfl (by have := HLE.out; omega) hsz ?_; intro g4 c4 w4 own4 grow4 _; have B4 := Lib.hid (below_grew B2.out rfl O2.out _ grow4); have O4 := Lib.hid own4; clear own4 grow4))
          exact ⟨⟨j + 1, _, c4, rfl, HJ.out, by rw [HN2.out, List.length_append, List.length_singleton], by rw [HN2.out]; exact O4.out, B4.out⟩, vc_less j n HJ.out⟩
        · have HN2 := Lib.hid (HNO.out (.inr hvv))
          have t1 : (v1 == v) = false := by simpa using hvv
          clear hp hlt hvv HY HNO hv1
          go_wp2_with (first
            | (go_at_call 29; refine HC1.out.mono ?_; rintro e w1 ⟨rfl, b1⟩; have B1 := Lib.hid (HB.out.trans (b1.mono HB.out.size)); have O1 := Lib.hid (HO.out.below b1 (Nat.le_refl _)); clear b1)
            | (go_at_call 30; refine (HC2.out _).mono ?_; rintro e w2 ⟨rfl, b2⟩; have ba := Lib.hid (((Below.refl w1.heap.size w1).alloc (Nat.le_refl _) (pgO v1 (u1 : Int) (.slice sA l1 sc))).trans (b2.mono (by simp))); have B2 := Lib.hid (B1.out.trans (ba.out.mono B1.out.size)); have O2 := Lib.hid (O1.out.below ba.out (Nat.le_refl _)); have k0 := pg0 (pg_stays (pg_new w1 v1 (u1 : Int) (.slice sA l1 sc)) b2); have hsz := B2.out.size; clear b2))
          exact ⟨⟨j + 1, A, c, rfl, HJ.out, by rw [HN2.out], by rw [HN2.out]; exact O2.out, B2.out⟩, vc_less j n HJ.out⟩
      | false =>
        rw [hp] at HC2
        have HN2 := Lib.hid (HNO.out (.inl hp))
        clear hp hlt HY HNO hv1
        go_wp2_with (first
          | (go_at_call 29; refine HC1.out.mono ?_; rintro e w1 ⟨rfl, b1⟩; have B1 := Lib.hid (HB.out.trans (b1.mono HB.out.size)); have O1 := Lib.hid (HO.out.below b1 (Nat.le_refl _)); clear b1)
          | (go_at_call 30; refine (HC2.out _).mono ?_; rintro e w2 ⟨rfl, b2⟩; have ba := Lib.hid (((Below.refl w1.heap.size w1).alloc (Nat.le_refl _) (pgO v1 (u1 : Int) (.slice sA l1 sc))).trans (b2.mono (by simp))); have B2 := Lib.hid (B1.out.trans (ba.out.mono B1.out.size)); have O2 := Lib.hid (O1.out.below ba.out (Nat.le_refl _)); have k0 := pg0 (pg_stays (pg_new w1 v1 (u1 : Int) (.slice sA l1 sc)) b2); have hsz := B2.out.size; clear b2))
        exact ⟨⟨j + 1, A, c, rfl, HJ.out, by rw [HN2.out], by rw [HN2.out]; exact O2.out, B2.out⟩, vc_less j n HJ.out⟩
    · have hke : j = n := by omega
      subst hke
      have x0 : ¬ (j : Int) < (j : Int) := by omega
      have x1 : decide ((j : Int) < (j : Int)) = false := decide_eq_false x0
      go_wp2_with (fail)
      refine bodyPost_ret (results_tmp rfl _ _ _) rfl ?_
      exact ⟨A, c, rfl, HO.out.kin, HB.out⟩
end Go.Proofs.Ytlapinecmiacoaa
namespace Go.Proofs.Ytlapinecmiacoaa
open Go.ChangeShapes Go.WideShapes Go.ChangeAt Go.RowKit Nm Cf Vc Sp Pg

namespace Pg
/-- What a number finds, and its entries. -/
theorem page_es {F : Nat → Prop} {w : World} {D n : Nat} {P : Nat → Page Ent} (h : Pl F w D n P) (x : Int) : ∃ A c, ∃ Q : List (Er × Ent), Q.map (·.2) = (if isP n P x = true then (P x.toNat).l else []) ∧ Q.length ≤ 4 ∧ (∀ q ∈ Q, Small q.2) ∧ (∀ W, Below w.heap.size w W → EsIn W A Q) ∧
    (∀ W, Below w.heap.size w W → Calls Try.prog 29 #[.pointer (some ⟨D, 0, none⟩), .int .i64 x] W fun e w' => e = .returned (.agg #[.int .i64 (atP n P x).v, .int .i64 ((atP n P x).u : Int), .slice A Q.length c]) ∧ Below W.heap.size W w') := by
  obtain ⟨b, cap, G, Q, h⟩ := h
  by_cases hx : 0 ≤ x ∧ x < (n : Int)
  · have hi : x.toNat < n := by omega
    obtain ⟨A, c, e⟩ := own_slice (h.es.own x.toNat hi)
    have hl : (P x.toNat).l = if isP n P x = true then (P x.toNat).l else [] := by
      by_cases hp : isP n P x = true
      · rw [if_pos hp]
      · rw [if_neg hp]
        have h0 : (P x.toNat).u = 0 := by
          have h1 : ¬ (0 ≤ x ∧ x < (n : Int) ∧ 0 < (P x.toNat).u) := fun h => hp (is_iff.2 h)
          omega
        rw [h.inv.free _ hi h0]
        rfl
    refine ⟨A, c, Q x.toNat, (h.same _ hi).symm.trans hl, ?_, fun q hq => h.sized _ hi _ (by rw [h.same _ hi]; exact List.mem_map_of_mem hq), fun W hW => ?_, fun W hW => ?_⟩
    · have h4 := h.inv.few _ hi
      rwa [h.same _ hi, List.length_map] at h4
    · have hk := (h.step hW).es
      exact ⟨own_es (e ▸ hk.own _ hi), fun q hq => (hk.all _ hi q hq).mono fun _ _ => trivial⟩
    · have := pages_page (h.step hW) x
      rw [show atG n G x = G x.toNat from if_pos hx, e] at this
      exact this
  · refine ⟨none, 0, [], by rw [if_neg (fun hp => hx ⟨(is_iff.1 hp).1, (is_iff.1 hp).2.1⟩)]; rfl, Nat.zero_le _, fun q hq => absurd hq (by simp), fun W _ => ⟨fun h0 => absurd h0 (by simp), fun q hq => absurd hq (by simp)⟩, fun W hW => ?_⟩
    have := pages_page (h.step hW) x
    rw [atG_out hx] at this
    exact this
/-- What Get answers. -/
def GetSays (w : World) (L : List Ent) (e : Ending) (w' : World) : Prop := ∃ (A : Option Addr) (c : Nat) (R : List (Er × Ent)), e = .returned (.slice A R.length c) ∧ GE 36 w.heap.size (w.heap.size ≤ ·) w' (.slice A R.length c) R ∧ Sep R ∧ (∀ q ∈ R, UfE w' q.1 q.2) ∧ R.map (·.2) = L ∧ Below w.heap.size w w'
theorem take_map {α β : Type} (f : α → β) (Q : List α) {k : Nat} {q : α} (h : Q[k]? = some q) : (Q.take (k + 1)).map f = (Q.take k).map f ++ [f q] := by
  have hk := (List.getElem?_eq_some_iff.1 h).1
  rw [List.take_succ_eq_append_getElem hk, List.map_append]
  have := (List.getElem?_eq_some_iff.1 h).2
  rw [this]
  rfl
/-- What is gathered, while it is. -/
structure Gt (w : World) (A : Option Addr) (c m : Nat) (R : List (Er × Ent)) (L : List Ent) (W : World) : Prop where
  len : R.length = m
  ge : GE 36 w.heap.size (w.heap.size ≤ ·) W (.slice A m c) R
  sep : Sep R
  uf : ∀ q ∈ R, UfE W q.1 q.2
  same : R.map (·.2) = L
  below : Below w.heap.size w W
theorem Gt.step {w : World} {A : Option Addr} {c m : Nat} {R : List (Er × Ent)} {L : List Ent} {W W' : World} (h : Gt w A c m R L W) (hb : Below W.heap.size W W') : Gt w A c m R L W' := ⟨h.len, h.ge.step hb, h.sep, fun q hq => (h.uf q hq).below hb, h.same, h.below.trans (hb.mono h.below.size)⟩
theorem Gt.more {w : World} {A : Option Addr} {c m : Nat} {R : List (Er × Ent)} {L : List Ent} {W W1 wz : World} {r : Er} {e : Ent} {g cap : Nat} {o : Obj} (h : Gt w A c m R L W) (hb : Below W.heap.size W W1) (he : EOn (W.heap.size ≤ ·) W1 r e) (hu : UfE W1 r e)
    (hown : wz.ownsRow w.heap.size 36 2 (.slice (some ⟨g, 0, none⟩) (m + 1) cap) (m + 1) (eCs R ++ eC r e)) (hg : (W1.alloc o).grownBy wz (Value.slice A m c).ownBlock) (hat : (Value.slice A m c).ownBlock = some g ∨ W1.heap.size ≤ g) :
    Gt w (some ⟨g, 0, none⟩) cap (m + 1) (R ++ [(r, e)]) (L ++ [e]) wz := by
  have h1 := h.step hb
  have hlt := h.below.size
  refine ⟨by rw [List.length_append, h.len]; rfl, h1.ge.more (by rw [h.len]; rfl) (fun q hq => ?_) (by rw [eCs_one1]; exact hown) (fun j hj hne => ?_) hat, h.sep.more (M := W.heap.size) h.ge.low (loc_of he), fun q hq => ?_, by rw [List.map_append, h.same]; rfl, ?_⟩
  · rw [List.mem_singleton.1 hq]
    exact he.mono fun j hj => ⟨Nat.le_trans hlt hj, fun e => by have := (h.ge.own.lt j (by rw [← e])).2; omega⟩
  · exact (hg.block j (by simp; omega) fun e => hne e.symm).trans (Below.heap_alloc W1 o j hj)
  · have hk : ∀ j, j < W1.heap.size ∧ (Value.slice A m c).ownBlock ≠ some j → wz.heap[j]? = W1.heap[j]? := fun j hj => (hg.block j (by have := hj.1; simp; omega) fun e => hj.2 e.symm).trans (Below.heap_alloc W1 o j hj.1)
    rcases List.mem_append.1 hq with hq | hq
    · exact ((h.step hb).uf q hq).kept ((loc_of ((h1.ge.all q hq).new.also (h1.ge.all q hq))).mono (q := fun j => j < W1.heap.size ∧ (Value.slice A m c).ownBlock ≠ some j) fun j hj => ⟨hj.1, hj.2.2⟩) hk
    · rw [List.mem_singleton.1 hq]
      exact hu.kept ((loc_of (he.new.also he)).mono (q := fun j => j < W1.heap.size ∧ (Value.slice A m c).ownBlock ≠ some j) fun j hj => ⟨hj.1, fun e => by have h2 := (h.ge.own.lt j (by rw [← e])).2; have h3 := hj.2; omega⟩) hk
  · exact (h1.below.alloc h1.below.size o).grown hg (by have := h1.below.size; simp; omega) fun i hi => (h1.ge.own.lt i hi).1
end Pg
set_option maxRecDepth 100000 in
set_option maxHeartbeats 3200000 in
theorem pages_get {F : Nat → Prop} {w : World} {D n : Nat} {P : Nat → Page Ent} (h : Pl F w D n P) (B : Option Addr) (m c0 : Nat) (xs : List Int) (hm : xs.length = m) (hm2 : m ≤ 1000) (hX : KIn .i64 w B xs) :
    Calls Try.prog 18 #[.pointer (some ⟨D, 0, none⟩), .slice B m c0] w (GetSays w (getL n P xs)) := by
  have HP := Lib.hid (page_es h)
  have HM := Lib.hid hm
  have HX := Lib.hid hX
  have HGL := Lib.hid (fun (j : Nat) (hj : j < xs.length) => get_next (n := n) (P := P) hj)
  have HGF := Lib.hid (fun (j : Nat) => get_few h.inv (xs.take j))
  clear h hX hm
  go_enter Try.func18, Try.ntmps18
  go_wp2_with (fail)
  go_loopw [5, 12] (fun s i wr => ∃ (j : Nat) (A : Option Addr) (c k : Nat) (R : List (Er × Ent)), i = .int .i64 (j : Int) ∧ j ≤ m ∧ s = .slice A k c ∧ Gt w A c k R (getL n P (xs.take j)) wr) (fun _ i _ => match i with | .int _ k => m - k.toNat | _ => 0)
  case atStart => exact ⟨0, none, 0, 0, [], rfl, Nat.zero_le _, rfl, ⟨rfl, GE.none _ _ _ _, Sep.none, (fun q hq => absurd hq (by simp)), rfl, Below.refl _ _⟩⟩
  case round =>
    obtain ⟨j, A, c, k, R, rfl, hj, rfl, hg⟩ := hrel
    have HG := Lib.hid hg
    have x2 : 0 ≤ (j : Int) := by omega
    clear hg
    by_cases hlt : j < m
    · have x0 : (j : Int) < (m : Int) := by omega
      have x1 : decide ((j : Int) < (m : Int)) = true := decide_eq_true x0
      have HJ := Lib.hid (show j + 1 ≤ m by omega)
      have hjl : j < xs.length := by rw [HM.out]; exact hlt
      obtain ⟨pa, oa, rfl, hc1⟩ := (HX.out.below HG.out.below (Nat.le_refl _)).at hjl
      have hgd : xs.getD j 0 = xs[j] := by rw [List.getD_eq_getElem?_getD, List.getElem?_eq_getElem hjl]; rfl
      rw [hgd] at hc1
      have HN := Lib.hid (HGL.out j hjl)
      obtain ⟨eA, ec, Q, hQ, hQ4, hQS, hQE, hQC⟩ := HP.out xs[j]
      rw [← hQ] at HN
      have HQ4 := Lib.hid hQ4
      have HQS := Lib.hid hQS
      have HQE := Lib.hid hQE
      have HC := Lib.hid (hQC wr HG.out.below)
      have HK0 := Lib.hid (show (getL n P (xs.take j)).length ≤ 4000 by
        have h3 := HGF.out j
        rw [List.length_take] at h3
        omega)
      clear hQ hQ4 hQS hQE hQC hgd hlt
      generalize (atP n P xs[j]).v = v1 at *
      generalize (atP n P xs[j]).u = u1 at *
      generalize xs[j] = x at *
      clear hjl
      generalize getL n P (xs.take j) = L0 at HG HN HK0
      have HL1 := Lib.hid HN.out
      clear HN
      have x3 := IntWalk.wrap64_in ((j : Int) + 1) (by omega)
      generalize hq : Q.length = q at *
      have HQL := Lib.hid hq
      clear hq
      have q2 := fld2 (.int .i64 v1) (.int .i64 (u1 : Int)) eA q ec
      go_wp2_with (go_at_call 29; refine HC.out.mono ?_; rintro e w1 ⟨rfl, b1⟩; have G1 := Lib.hid (HG.out.step b1); clear b1)
      go_loopw [5, 21] (fun s i wr => ∃ (j2 : Nat) (A : Option Addr) (c k : Nat) (R : List (Er × Ent)), i = .int .i64 (j2 : Int) ∧ j2 ≤ q ∧ s = .slice A k c ∧ Gt w A c k R (L0 ++ (Q.take j2).map (·.2)) wr) (fun _ i _ => match i with | .int _ k => q - k.toNat | _ => 0)
      case atStart => exact ⟨0, A, c, k, R, rfl, Nat.zero_le _, rfl, by rw [List.take_zero, List.map_nil, List.append_nil]; exact G1.out⟩
      case round =>
        clear HG G1 HC
        obtain ⟨j2, A2, c2, k2, R2, rfl, hj2, rfl, hg2⟩ := hrel
        have HG := Lib.hid hg2
        have y2 : 0 ≤ (j2 : Int) := by omega
        clear hg2
        by_cases hlt2 : j2 < q
        · have y0 : (j2 : Int) < (q : Int) := by omega
          have y1 : decide ((j2 : Int) < (q : Int)) = true := decide_eq_true y0
          have HJ2 := Lib.hid (show j2 + 1 ≤ q by omega)
          obtain ⟨⟨r, e⟩, hqe⟩ : ∃ qe, Q[j2]? = some qe := ⟨_, List.getElem?_eq_getElem (by rw [HQL.out]; exact hlt2)⟩
          have HTM := Lib.hid (take_map (·.2) Q hqe)
          have hmem := List.mem_of_getElem? hqe
          have HS := Lib.hid (HQS.out _ hmem).sized
          have hes := HQE.out wr HG.out.below
          obtain ⟨pb, po, rfl, d0, d1⟩ := hes.row.cell hqe
          have HCP := Lib.hid (fun W (hW : Below wr.heap.size wr W) => step_copy_new W r e ((hes.all _ hmem).below hW) HS.out)
          have HK2 := Lib.hid (show k2 ≤ 4096 by
            have h1 := HG.out.len
            have h2 := congrArg List.length HG.out.same
            have h3 := HK0.out
            have h4 := HQ4.out
            rw [List.length_map, List.length_append, List.length_map, List.length_take] at h2
            omega)
          have y3 := IntWalk.wrap64_in ((j2 : Int) + 1) (by have := HQ4.out; omega)
          unfold CyNew eV at HCP
          clear hes hmem hqe hlt2
          have hsz := HG.out.below.size
          go_wp2_with (first
            | (go_at_call 34; refine (HCP.out _ ((Below.refl wr.heap.size wr).alloc (Nat.le_refl _) _)).mono ?_; rintro z w2 ⟨r2, rfl, e2, u2, b2⟩; have U2 := Lib.hid u2; have BA := Lib.hid (((Below.refl wr.heap.size wr).alloc (Nat.le_refl _) (.cells #[.slice r.kA e.ks.length r.kc, .slice r.vA e.vs.length r.vc] 36)).trans (b2.mono (by simp))); have E2 := Lib.hid (e2.mono (q := (wr.heap.size ≤ ·)) fun j hj => by simp at hj; omega); have G2 := Lib.hid (HG.out.step BA.out); have hsz2 := G2.out.below.size; clear e2 u2 b2)
            | (at_builtin; refine wpList_one_ent rfl (.tmp 25) (.tmp 28) rfl w.heap.size (.slice A2 k2 c2) k2 R2 HG.out.len r2 e rfl (by have := G2.out.ge.own; rw [HG.out.len] at this; exact this) rfl HK2.out hsz2 ?_; intro g4 c4 w4 own4 grow4 at4; have G4 := Lib.hid (HG.out.more BA.out E2.out U2.out own4 grow4 at4); clear own4 grow4 at4))
          try rw [y3]
          exact ⟨⟨j2 + 1, _, c4, k2 + 1, _, rfl, HJ2.out, rfl, by rw [HTM.out, ← List.append_assoc]; exact G4.out⟩, vc_less j2 q HJ2.out⟩
        · have hke : j2 = q := by omega
          subst hke
          have y0 : ¬ (j2 : Int) < (j2 : Int) := by omega
          have y1 : decide ((j2 : Int) < (j2 : Int)) = false := decide_eq_false y0
          have HT := Lib.hid (show Q.take j2 = Q from List.take_of_length_le (by rw [HQL.out]; exact Nat.le_refl _))
          rw [HT.out, ← HL1.out] at HG
          go_wp2_with (fail)
          exact ⟨⟨j + 1, A2, c2, k2, R2, rfl, HJ.out, rfl, HG.out⟩, vc_less j m HJ.out⟩
    · have hke : j = m := by omega
      subst hke
      have x0 : ¬ (j : Int) < (j : Int) := by omega
      have x1 : decide ((j : Int) < (j : Int)) = false := decide_eq_false x0
      have HT := Lib.hid (show xs.take j = xs from List.take_of_length_le (by rw [HM.out]; exact Nat.le_refl _))
      rw [HT.out] at HG
      go_wp2_with (fail)
      refine bodyPost_ret (results_tmp rfl _ _ _) rfl ?_
      have h1 := HG.out
      have h2 := h1.len
      subst h2
      exact ⟨A, c, R, rfl, h1.ge, h1.sep, h1.uf, h1.same, h1.below⟩
end Go.Proofs.Ytlapinecmiacoaa
namespace Go.Proofs.Ytlapinecmiacoaa
open Go.ChangeShapes Go.WideShapes Go.ChangeAt Go.RowKit Nm Cf Vc Sp Pg

set_option maxRecDepth 100000 in
theorem pnil_take (w : World) (v : Int) : Calls Try.prog 15 #[.pointer none, .int .i64 v] w fun e w' => e = .returned (.tuple #[.int .i64 0, .int .i64 2]) ∧ Below w.heap.size w w' := by
  go_enter Try.func15, Try.ntmps15
  go_wp2_with (fail)
  exact bodyPost_ret (results_tmp2 rfl _ _ _) rfl ⟨rfl, Below.refl _ _⟩
set_option maxRecDepth 100000 in
theorem pnil_drop (w : World) (A : Option Addr) (n c : Nat) : Calls Try.prog 11 #[.pointer none, .slice A n c] w fun e w' => e = .returned (.int .i64 2) ∧ Below w.heap.size w w' := by
  go_enter Try.func11, Try.ntmps11
  go_wp2_with (fail)
  exact bodyPost_ret (results_tmp rfl _ _ _) rfl ⟨rfl, Below.refl _ _⟩
set_option maxRecDepth 100000 in
theorem pnil_share (w : World) (A : Option Addr) (n c : Nat) : Calls Try.prog 9 #[.pointer none, .slice A n c] w fun e w' => e = .returned (.int .i64 2) ∧ Below w.heap.size w w' := by
  go_enter Try.func9, Try.ntmps9
  go_wp2_with (fail)
  exact bodyPost_ret (results_tmp rfl _ _ _) rfl ⟨rfl, (Below.refl _ _).alloc (Nat.le_refl _) _⟩
set_option maxRecDepth 100000 in
theorem pnil_put (w : World) (x : Int) (A B : Option Addr) (n c m d : Nat) : Calls Try.prog 13 #[.pointer none, .int .i64 x, .agg #[.slice A n c, .slice B m d]] w fun e w' => e = .returned (.int .i64 2) ∧ Below w.heap.size w w' := by
  go_enter Try.func13, Try.ntmps13
  go_wp2_with (fail)
  exact bodyPost_ret (results_tmp rfl _ _ _) rfl ⟨rfl, (Below.refl _ _).alloc (Nat.le_refl _) _⟩
set_option maxRecDepth 100000 in
set_option maxHeartbeats 400000 in
theorem pnil_page (w : World) (x : Int) : Calls Try.prog 29 #[.pointer none, .int .i64 x] w fun e w' => e = .returned (.agg #[.int .i64 0, .int .i64 0, .slice none 0 0]) ∧ Below w.heap.size w w' := by
  have hb0 : Below w.heap.size w (w.alloc (pgO 0 0 (.slice none 0 0))) := (Below.refl _ _).alloc (Nat.le_refl _) _
  have HN := Lib.hid (pg_new w 0 0 (.slice none 0 0))
  have HL := Lib.hid (pages_len_nil (w.alloc (pgO 0 0 (.slice none 0 0))))
  have HB := Lib.hid hb0
  have g0 := pg0 HN.out
  have g1 := pg1 HN.out
  have g2 := pg2 HN.out
  have f0 := pgFz HN.out
  clear hb0
  by_cases hx0 : x < 0
  · have t0 : decide (x < 0) = true := decide_eq_true hx0
    go_enter Try.func29, Try.ntmps29
    go_wp2_with (fail)
    exact bodyPost_ret (results_cell_row rfl _ _ _ 69 _ _ _ rfl HN.out Try.underlying69 rfl (pgI _ _ _)) rfl ⟨rfl, HB.out⟩
  · have t0 : decide (x < 0) = false := decide_eq_false hx0
    have t1 : decide (0 ≤ x) = true := decide_eq_true (by omega)
    go_enter Try.func29, Try.ntmps29
    go_wp2_with (go_at_call 24; refine HL.out.mono ?_; rintro e w1 ⟨rfl, rfl⟩)
    refine bodyPost_ret (results_cell_row rfl _ _ _ 69 _ _ _ rfl (pg_set HN.out _ _ _) Try.underlying69 rfl (pgI _ _ _)) rfl ?_
    exact ⟨rfl, ((HB.out.setCell (p := ⟨w.heap.size, 0, none⟩) (Nat.le_refl _) _).setCell (p := ⟨w.heap.size, 1, none⟩) (Nat.le_refl _) _).setCell (p := ⟨w.heap.size, 2, none⟩) (Nat.le_refl _) _⟩
set_option maxRecDepth 100000 in
theorem pnil_version (w : World) (x : Int) : Calls Try.prog 20 #[.pointer none, .int .i64 x] w fun e w' => e = .returned (.int .i64 0) ∧ Below w.heap.size w w' := by
  have HC := Lib.hid (pnil_page w x)
  have q0 := fld0 (.int .i64 0) (.int .i64 0) none 0 0
  go_enter Try.func20, Try.ntmps20
  go_wp2_with (fail)
  refine HC.out.mono ?_
  rintro e w1 ⟨rfl, b1⟩
  have B1 := Lib.hid b1
  clear b1
  go_wp2_with (fail)
  exact bodyPost_ret (results_tmp rfl _ _ _) rfl ⟨rfl, B1.out⟩
set_option maxRecDepth 100000 in
theorem pnil_users (w : World) (x : Int) : Calls Try.prog 21 #[.pointer none, .int .i64 x] w fun e w' => e = .returned (.int .i64 0) ∧ Below w.heap.size w w' := by
  have HC := Lib.hid (pnil_page w x)
  have q0 := fld1 (.int .i64 0) (.int .i64 0) none 0 0
  go_enter Try.func21, Try.ntmps21
  go_wp2_with (fail)
  refine HC.out.mono ?_
  rintro e w1 ⟨rfl, b1⟩
  have B1 := Lib.hid b1
  clear b1
  go_wp2_with (fail)
  exact bodyPost_ret (results_tmp rfl _ _ _) rfl ⟨rfl, B1.out⟩
set_option maxRecDepth 100000 in
theorem pnil_Free (w : World) : Calls Try.prog 22 #[.pointer none] w fun e w' => e = .returned (.int .i64 0) ∧ Below w.heap.size w w' := by
  have HL := Lib.hid (pages_len_nil w)
  go_enter Try.func22, Try.ntmps22
  go_wp2_with (go_at_call 24; refine HL.out.mono ?_; rintro e w1 ⟨rfl, rfl⟩)
  go_loopw [3, 7] (fun s i wr => i = .int .i64 0 ∧ s = .int .i64 0 ∧ Below w.heap.size w wr) (fun _ _ _ => 0)
  case atStart => exact ⟨rfl, rfl, Below.refl _ _⟩
  case round =>
    obtain ⟨rfl, rfl, hb⟩ := hrel
    go_wp2_with (fail)
    exact bodyPost_ret (results_tmp rfl _ _ _) rfl ⟨rfl, hb⟩
set_option maxRecDepth 100000 in
theorem pnil_of (w : World) (v : Int) : Calls Try.prog 26 #[.pointer none, .int .i64 v] w fun e w' => e = .returned (.slice none 0 0) ∧ Below w.heap.size w w' := by
  have HL := Lib.hid (pages_len_nil w)
  go_enter Try.func26, Try.ntmps26
  go_wp2_with (go_at_call 24; refine HL.out.mono ?_; rintro e w1 ⟨rfl, rfl⟩)
  go_loopw [5, 10] (fun s i wr => i = .int .i64 0 ∧ s = .slice none 0 0 ∧ Below w.heap.size w wr) (fun _ _ _ => 0)
  case atStart => exact ⟨rfl, rfl, Below.refl _ _⟩
  case round =>
    obtain ⟨rfl, rfl, hb⟩ := hrel
    go_wp2_with (fail)
    exact bodyPost_ret (results_tmp rfl _ _ _) rfl ⟨rfl, hb⟩
set_option maxRecDepth 100000 in
set_option maxHeartbeats 400000 in
theorem pnil_get (w : World) {g m : Nat} {c : Nat} (xs : List Int) (hm : xs.length = m) (hm2 : m ≤ 1000) (hX : KIn .i64 w (some ⟨g, 0, none⟩) xs) : Calls Try.prog 18 #[.pointer none, .slice (some ⟨g, 0, none⟩) m c] w fun e w' => e = .returned (.slice none 0 0) ∧ Below w.heap.size w w' := by
  have HX := Lib.hid hX
  have HM := Lib.hid hm
  have q0 := fld2 (.int .i64 0) (.int .i64 0) none 0 0
  have HP := Lib.hid (fun W x => pnil_page W x)
  clear hX hm
  go_enter Try.func18, Try.ntmps18
  go_wp2_with (fail)
  go_loopw [5, 12] (fun s i wr => ∃ j : Nat, i = .int .i64 (j : Int) ∧ j ≤ m ∧ s = .slice none 0 0 ∧ Below w.heap.size w wr) (fun _ i _ => match i with | .int _ k => m - k.toNat | _ => 0)
  case atStart => exact ⟨0, rfl, Nat.zero_le _, rfl, Below.refl _ _⟩
  case round =>
    obtain ⟨j, rfl, hj, rfl, hb⟩ := hrel
    have HB := Lib.hid hb
    have x2 : 0 ≤ (j : Int) := by omega
    clear hb
    by_cases hlt : j < m
    · have x0 : (j : Int) < (m : Int) := by omega
      have x1 : decide ((j : Int) < (m : Int)) = true := decide_eq_true x0
      have HJ := Lib.hid (show j + 1 ≤ m by omega)
      obtain ⟨pa, oa, hpa, hc1⟩ := (HX.out.below HB.out (Nat.le_refl _)).at (show j < xs.length by rw [HM.out]; exact hlt)
      injection hpa with hpa
      injection hpa with e1 e2
      subst e1 e2
      rw [Nat.zero_add] at hc1
      generalize xs.getD j 0 = x at hc1
      have x3 := IntWalk.wrap64_in ((j : Int) + 1) (by omega)
      clear hlt
      go_wp2_with (go_at_call 29; refine (HP.out _ _).mono ?_; rintro e w1 ⟨rfl, b1⟩; have B1 := Lib.hid (HB.out.trans (b1.mono HB.out.size)); clear b1)
      go_loopw [5, 21] (fun s i wr => i = .int .i64 0 ∧ s = .slice none 0 0 ∧ Below w.heap.size w wr) (fun _ _ _ => 0)
      case atStart => exact ⟨rfl, rfl, B1.out⟩
      case round =>
        obtain ⟨rfl, rfl, hb⟩ := hrel
        have HB3 := Lib.hid hb
        clear hb
        go_wp2_with (fail)
        try rw [x3]
        exact ⟨⟨j + 1, rfl, HJ.out, rfl, HB3.out⟩, vc_less j m HJ.out⟩
    · have hke : j = m := by omega
      subst hke
      have x0 : ¬ (j : Int) < (j : Int) := by omega
      have x1 : decide ((j : Int) < (j : Int)) = false := decide_eq_false x0
      go_wp2_with (fail)
      exact bodyPost_ret (results_tmp rfl _ _ _) rfl ⟨rfl, HB.out⟩
end Go.Proofs.Ytlapinecmiacoaa
namespace Go.Proofs.Ytlapinecmiacoaa
open Go.ChangeShapes Go.WideShapes Go.ChangeAt Go.RowKit Nm Cf Vc Sp Pg

namespace Pg
/-- The entry that a number tells. -/
def entX (x : Int) : Ent := ⟨[[x]], [[wrap64 (-x), x]]⟩
/-- Where it lies, in four blocks from N on. -/
def entR (N : Nat) : Er := ⟨some ⟨N + 1, 0, none⟩, 1, fun _ => some ⟨N, 0, none⟩, fun _ => 1, some ⟨N + 3, 0, none⟩, 1, fun _ => some ⟨N + 2, 0, none⟩, fun _ => 2⟩
structure EntIs (w : World) (N : Nat) (x : Int) : Prop where
  a : w.heap[N]? = some (.cells #[.int .i64 x] 3 (0, 0))
  b : w.heap[N + 1]? = some (.cells #[.slice (some ⟨N, 0, none⟩) 1 1] 28 (0, 0))
  c : w.heap[N + 2]? = some (.cells #[.int .i64 (wrap64 (-x)), .int .i64 x] 3 (0, 0))
  d : w.heap[N + 3]? = some (.cells #[.slice (some ⟨N + 2, 0, none⟩) 2 2] 28 (0, 0))
theorem entX_small (x : Int) : Small (entX x) := by
  refine ⟨(by decide : (1 : Nat) ≤ 1000), (by decide : (1 : Nat) ≤ 1000), fun i hi => ?_, fun i hi => ?_⟩
  · have : i = 0 := by have : i < 1 := hi; omega
    subst this
    exact (by decide : (1 : Nat) ≤ 1000)
  · have : i = 0 := by have : i < 1 := hi; omega
    subst this
    exact (by decide : (2 : Nat) ≤ 1000)
theorem EntIs.on {w : World} {N : Nat} {x : Int} (h : EntIs w N x) : EOn (fun j => N ≤ j ∧ j < N + 4) w (entR N) (entX x) := by
  have k1 : KIn .i64 w (some ⟨N, 0, none⟩) [x] := fun _ => ⟨N, 0, rfl, fun i hi => by
    have : i = 0 := by have : i < 1 := hi; omega
    subst this
    rw [cell_of_row _ _ _ _ _ _ h.a]; rfl⟩
  have k2 : KIn .i64 w (some ⟨N + 2, 0, none⟩) [wrap64 (-x), x] := fun _ => ⟨N + 2, 0, rfl, fun i hi => by
    have : i = 0 ∨ i = 1 := by have : i < 2 := hi; omega
    rcases this with rfl | rfl
    · rw [cell_of_row _ _ _ _ _ _ h.c]; rfl
    · rw [cell_of_row _ _ _ _ _ _ h.c]; rfl⟩
  have z0 : ∀ (L : List Int) (i : Nat), i < [L].length → i = 0 := fun L i hi => by have : i < 1 := hi; omega
  have ft : ∀ k n, k < 4 → Ft (fun j => N ≤ j ∧ j < N + 4) (some ⟨N + k, 0, none⟩) n := fun k n hk _ a ha => by
    injection ha with ha
    rw [← ha]
    exact ⟨by show N ≤ N + k; omega, by show N + k < N + 4; omega⟩
  refine ⟨⟨fun _ => ⟨N + 1, 0, rfl, fun i hi => ?_⟩, ft 1 _ (by omega), fun i hi => ft 0 _ (by omega), fun i hi => ?_⟩, ⟨fun _ => ⟨N + 3, 0, rfl, fun i hi => ?_⟩, ft 3 _ (by omega), fun i hi => ft 2 _ (by omega), fun i hi => ?_⟩⟩
  all_goals have := z0 _ i hi; subst this
  · refine ⟨?_, k1⟩
    rw [cell_of_row _ _ _ _ _ _ h.b]; rfl
  · exact (by decide : (1 : Nat) ≤ 1)
  · refine ⟨?_, k2⟩
    rw [cell_of_row _ _ _ _ _ _ h.d]; rfl
  · exact (by decide : (2 : Nat) ≤ 2)
theorem EntIs.keep {w w' : World} {N : Nat} {x : Int} (h : EntIs w N x) (hb : ∀ j, N ≤ j → j < N + 4 → w'.heap[j]? = w.heap[j]?) : EntIs w' N x :=
  ⟨(hb N (by omega) (by omega)).trans h.a, (hb (N + 1) (by omega) (by omega)).trans h.b, (hb (N + 2) (by omega) (by omega)).trans h.c, (hb (N + 3) (by omega) (by omega)).trans h.d⟩
theorem EntIs.below {w w' : World} {N : Nat} {x : Int} (h : EntIs w N x) (hb : Below w.heap.size w w') : EntIs w' N x := h.keep fun j h1 h2 => hb.block j (by have := (Array.getElem?_eq_some_iff.1 h.d).1; omega)
theorem five (w : World) (o0 o1 o2 o3 o4 : Obj) :
    let w' := ((((w.alloc o0).alloc o1).alloc o2).alloc o3).alloc o4
    w'.heap[w.heap.size]? = some o0 ∧ w'.heap[w.heap.size + 1]? = some o1 ∧ w'.heap[w.heap.size + 2]? = some o2 ∧ w'.heap[w.heap.size + 3]? = some o3 ∧ w'.heap[w.heap.size + 4]? = some o4 ∧ Below w.heap.size w w' := by
  have s1 : (w.alloc o0).heap.size = w.heap.size + 1 := World.size_alloc ..
  have s2 : ((w.alloc o0).alloc o1).heap.size = w.heap.size + 2 := by rw [World.size_alloc, s1]
  have s3 : (((w.alloc o0).alloc o1).alloc o2).heap.size = w.heap.size + 3 := by rw [World.size_alloc, s2]
  have s4 : ((((w.alloc o0).alloc o1).alloc o2).alloc o3).heap.size = w.heap.size + 4 := by rw [World.size_alloc, s3]
  have b0 := heap_alloc_new w o0
  have b1 := heap_alloc_new (w.alloc o0) o1
  have b2 := heap_alloc_new ((w.alloc o0).alloc o1) o2
  have b3 := heap_alloc_new (((w.alloc o0).alloc o1).alloc o2) o3
  have b4 := heap_alloc_new ((((w.alloc o0).alloc o1).alloc o2).alloc o3) o4
  rw [s1] at b1
  rw [s2] at b2
  rw [s3] at b3
  rw [s4] at b4
  exact ⟨(heap_alloc_old _ _ (by omega)).trans ((heap_alloc_old _ _ (by omega)).trans ((heap_alloc_old _ _ (by omega)).trans ((heap_alloc_old _ _ (by omega)).trans b0))), (heap_alloc_old _ _ (by omega)).trans ((heap_alloc_old _ _ (by omega)).trans ((heap_alloc_old _ _ (by omega)).trans b1)), (heap_alloc_old _ _ (by omega)).trans ((heap_alloc_old _ _ (by omega)).trans b2), (heap_alloc_old _ _ (by omega)).trans b3, b4, ((((((Below.refl _ _).alloc (Nat.le_refl _) _).alloc (by omega) _).alloc (by omega) _).alloc (by omega) _).alloc (by omega) _)⟩
/-- What 'entry' answers. -/
def EntSays (w : World) (x : Int) (e : Ending) (w' : World) : Prop := e = .returned (eV (entR (w.heap.size + 1)) (entX x)) ∧ EntIs w' (w.heap.size + 1) x ∧ Below w.heap.size w w'
end Pg
set_option maxRecDepth 100000 in
set_option maxHeartbeats 800000 in
theorem law_entry (w : World) (x : Int) : Calls Try.prog 12 #[.int .i64 x] w (EntSays w x) := by
  go_enter Try.func12, Try.ntmps12
  go_wp2_with (fail)
  obtain ⟨a0, a1, a2, a3, a4, hb⟩ := five w (.cells #[.slice (some ⟨w.heap.size + 1 + 1, 0, none⟩) 1 1, .slice (some ⟨w.heap.size + 1 + 1 + 1 + 1, 0, none⟩) 1 1] 36) (.cells #[.int .i64 x] 3) (.cells #[.slice (some ⟨w.heap.size + 1, 0, none⟩) 1 1] 28) (.cells #[.int .i64 (wrap64 (-x)), .int .i64 x] 3) (.cells #[.slice (some ⟨w.heap.size + 1 + 1 + 1, 0, none⟩) 2 2] 28)
  refine bodyPost_ret (results_cell_row rfl _ _ _ 36 _ _ _ rfl a0 Try.underlying36 rfl (enI _ _)) rfl ?_
  exact ⟨rfl, ⟨a1, a2, a3, a4⟩, hb⟩
set_option maxRecDepth 100000 in
set_option maxHeartbeats 800000 in
theorem law_is (w : World) (r : Er) (e : Ent) (r' : Er) (e' : Ent) (he : EOn (fun _ => True) w r e) (he' : EOn (fun _ => True) w r' e') (hs : Small e) :
    Calls Try.prog 25 #[eV r e, eV r' e'] w fun z w' => z = .returned (.bool (sameE e e')) ∧ Below w.heap.size w w' := by
  have hb : Below w.heap.size w ((w.alloc (.cells #[.slice r.kA e.ks.length r.kc, .slice r.vA e.vs.length r.vc] 36)).alloc (.cells #[.slice r'.kA e'.ks.length r'.kc, .slice r'.vA e'.vs.length r'.vc] 41)) := ((Below.refl _ _).alloc (Nat.le_refl _) _).alloc (by simp) _
  have HS := Lib.hid (fun W (hW : Below w.heap.size w W) => step_same W r e r' e' (he.below hW) (he'.below hW) hs.fit)
  have HB := Lib.hid hb
  unfold eV at *
  clear hb he he'
  go_enter Try.func25, Try.ntmps25
  go_wp2_with (go_at_call 27; refine (HS.out _ HB.out).mono ?_; rintro z w2 ⟨rfl, b2⟩; have B2 := Lib.hid (HB.out.trans (b2.mono HB.out.size)); clear b2)
  refine bodyPost_ret (results_tmp rfl _ _ _) rfl ?_
  exact ⟨rfl, B2.out⟩
end Go.Proofs.Ytlapinecmiacoaa
namespace Go.Proofs.Ytlapinecmiacoaa
open Go.ChangeShapes Go.WideShapes Go.ChangeAt Go.RowKit Nm Cf Vc Sp Pg

namespace Pg
structure Has (w0 : World) (F : Nat → Prop) (W : World) (D n : Nat) (P : Nat → Page Ent) : Prop where
  pl : Pl F W D n P
  new : ∀ k, F k → w0.heap.size ≤ k
  below : Below w0.heap.size w0 W
/-- What a call that turns it leaves. -/
def HasT (w0 : World) (F : Nat → Prop) (W : World) (D n : Nat) (P : Nat → Page Ent) (w' : World) : Prop := ∃ F', Has w0 F' w' D n P ∧ (∀ j, F' j → Old F W j) ∧ Turn F W w'
section
variable {w0 W W' w' : World} {F : Nat → Prop} {D n : Nat} {P P' : Nat → Page Ent}
theorem Has.step (h : Has w0 F W D n P) (hb : Below W.heap.size W W') : Has w0 F W' D n P := ⟨h.pl.step hb, h.new, h.below.trans (hb.mono h.below.size)⟩
theorem Has.turned (h : Has w0 F W D n P) (t : TurnsP F W D n P' w') : HasT w0 F W D n P' w' := by
  obtain ⟨F', h1, h2, h3⟩ := t
  exact ⟨F', ⟨h1, fun k hk => by
    rcases h2 k hk with h4 | h4
    · exact h.new k h4
    · have := h.below.size; omega, h.below.trans (h3.below h.new h.below.size)⟩, h2, h3⟩
theorem TurnsP.base (hb : Below W.heap.size W W') (t : TurnsP F W' D n P w') : TurnsP F W D n P w' := by
  obtain ⟨F', h1, h2, h3⟩ := t
  exact ⟨F', h1, fun j hj => (h2 j hj).imp id fun h => Nat.le_trans hb.size h, (Turn.of_below F hb).both h3⟩
theorem has_take (h : Has w0 F W D n P) (v : Int) : Calls Try.prog 15 #[.pointer (some ⟨D, 0, none⟩), .int .i64 v] W fun e w' => e = .returned (.tuple #[.int .i64 (takeI n P v), .int .i64 (takeE n P v)]) ∧ HasT w0 F W D n (takeS n P v) w' :=
  (pages_take h.pl v).mono fun _ _ ⟨h1, h2⟩ => ⟨h1, h.turned h2⟩
theorem has_share (h : Has w0 F W D n P) {B : Option Addr} {m c0 : Nat} {xs : List Int} (hm : xs.length = m) (hm2 : m ≤ 1000) (hX : KIn .i64 W B xs) (hF : Ft (fun k => ¬ F k) B m) (hu : Bnd P 1000000) : Calls Try.prog 9 #[.pointer (some ⟨D, 0, none⟩), .slice B m c0] W fun e w' => e = .returned (.int .i64 (shareE n P xs)) ∧ HasT w0 F W D n (shareS n P xs) w' :=
  (pages_share h.pl B m c0 xs hm hm2 hX hF fun i _ => hu i).mono fun _ _ ⟨h1, h2⟩ => ⟨h1, h.turned h2⟩
theorem has_drop (h : Has w0 F W D n P) {B : Option Addr} {m c0 : Nat} {xs : List Int} (hm : xs.length = m) (hm2 : m ≤ 1000) (hX : KIn .i64 W B xs) (hu : Bnd P 1000000) : Calls Try.prog 11 #[.pointer (some ⟨D, 0, none⟩), .slice B m c0] W fun e w' => e = .returned (.int .i64 (dropE n P xs)) ∧ HasT w0 F W D n (dropS n P xs) w' :=
  (pages_drop h.pl B m c0 xs hm hm2 hX fun i _ => hu i).mono fun _ _ ⟨h1, h2⟩ => ⟨h1, h.turned h2⟩
theorem has_put (h : Has w0 F W D n P) (x : Int) {p : Nat → Prop} {r : Er} {e : Ent} (he : EOn p W r e) (hs : Small e) : Calls Try.prog 13 #[.pointer (some ⟨D, 0, none⟩), .int .i64 x, eV r e] W fun z w' => z = .returned (.int .i64 (putE n P x)) ∧ HasT w0 F W D n (putS n P x e) w' :=
  (pages_put h.pl x he hs).mono fun _ _ ⟨h1, h2⟩ => ⟨h1, h.turned h2⟩
/-! Lists that are made for a call -/
theorem kin_one (W : World) (x : Int) : KIn .i64 (W.alloc (.cells #[.int .i64 x] 3)) (some ⟨W.heap.size, 0, none⟩) [x] := fun _ => ⟨W.heap.size, 0, rfl, fun i hi => by
  have : i = 0 := by have : i < 1 := hi; omega
  subst this
  rw [cell_of_row _ _ _ _ _ _ (heap_alloc_new W _)]; rfl⟩
theorem kin_two (W : World) (x y : Int) : KIn .i64 (W.alloc (.cells #[.int .i64 x, .int .i64 y] 3)) (some ⟨W.heap.size, 0, none⟩) [x, y] := fun _ => ⟨W.heap.size, 0, rfl, fun i hi => by
  have : i = 0 ∨ i = 1 := by have : i < 2 := hi; omega
  rcases this with rfl | rfl
  · rw [cell_of_row _ _ _ _ _ _ (heap_alloc_new W _)]; rfl
  · rw [cell_of_row _ _ _ _ _ _ (heap_alloc_new W _)]; rfl⟩
theorem one_below (W : World) (o : Obj) : Below W.heap.size W (W.alloc o) := (Below.refl _ _).alloc (Nat.le_refl _) _
theorem HasT.base (hb : Below W.heap.size W W') (t : HasT w0 F W' D n P w') : HasT w0 F W D n P w' := by
  obtain ⟨F', h1, h2, h3⟩ := t
  exact ⟨F', h1, fun j hj => (h2 j hj).imp id fun h => Nat.le_trans hb.size h, (Turn.of_below F hb).both h3⟩
theorem new_off (h : Has w0 F W D n P) (m : Nat) : Ft (fun k => ¬ F k) (some ⟨W.heap.size, 0, none⟩) m := fun _ a ha hf => by
  injection ha with ha
  have := h.pl.lt _ hf
  rw [← ha] at this
  exact absurd this (Nat.lt_irrefl _)
theorem share_one (h : Has w0 F W D n P) (x : Int) (hu : Bnd P 1000000) : Calls Try.prog 9 #[.pointer (some ⟨D, 0, none⟩), .slice (some ⟨W.heap.size, 0, none⟩) 1 1] (W.alloc (.cells #[.int .i64 x] 3)) fun e w' => e = .returned (.int .i64 (shareE n P [x])) ∧ HasT w0 F W D n (shareS n P [x]) w' :=
  (has_share (m := 1) (h.step (one_below W _)) rfl (by omega) (kin_one W x) (new_off h 1) hu).mono fun _ _ ⟨h1, h2⟩ => ⟨h1, h2.base (one_below W _)⟩
theorem share_two (h : Has w0 F W D n P) (x y : Int) (hu : Bnd P 1000000) : Calls Try.prog 9 #[.pointer (some ⟨D, 0, none⟩), .slice (some ⟨W.heap.size, 0, none⟩) 2 2] (W.alloc (.cells #[.int .i64 x, .int .i64 y] 3)) fun e w' => e = .returned (.int .i64 (shareE n P [x, y])) ∧ HasT w0 F W D n (shareS n P [x, y]) w' :=
  (has_share (m := 2) (h.step (one_below W _)) rfl (by omega) (kin_two W x y) (new_off h 2) hu).mono fun _ _ ⟨h1, h2⟩ => ⟨h1, h2.base (one_below W _)⟩
theorem drop_one (h : Has w0 F W D n P) (x : Int) (hu : Bnd P 1000000) : Calls Try.prog 11 #[.pointer (some ⟨D, 0, none⟩), .slice (some ⟨W.heap.size, 0, none⟩) 1 1] (W.alloc (.cells #[.int .i64 x] 3)) fun e w' => e = .returned (.int .i64 (dropE n P [x])) ∧ HasT w0 F W D n (dropS n P [x]) w' :=
  (has_drop (m := 1) (h.step (one_below W _)) rfl (by omega) (kin_one W x) hu).mono fun _ _ ⟨h1, h2⟩ => ⟨h1, h2.base (one_below W _)⟩
theorem drop_two (h : Has w0 F W D n P) (x y : Int) (hu : Bnd P 1000000) : Calls Try.prog 11 #[.pointer (some ⟨D, 0, none⟩), .slice (some ⟨W.heap.size, 0, none⟩) 2 2] (W.alloc (.cells #[.int .i64 x, .int .i64 y] 3)) fun e w' => e = .returned (.int .i64 (dropE n P [x, y])) ∧ HasT w0 F W D n (dropS n P [x, y]) w' :=
  (has_drop (m := 2) (h.step (one_below W _)) rfl (by omega) (kin_two W x y) hu).mono fun _ _ ⟨h1, h2⟩ => ⟨h1, h2.base (one_below W _)⟩
/-- A list that lay there before the law's call. -/
theorem old_off (h : Has w0 F W D n P) {B : Option Addr} {m : Nat} (hB : Ft (· < w0.heap.size) B m) : Ft (fun k => ¬ F k) B m := fun h0 a ha hf => by
  have := hB h0 a ha
  have := h.new _ hf
  omega
theorem bnd_new : Bnd (fun _ => (fr : Page Ent)) 0 := fun _ => Nat.le_refl 0
theorem Bnd.le {k m : Nat} (h : Bnd P k) (hk : k ≤ m) : Bnd P m := fun i => Nat.le_trans (h i) hk
end
end Pg
end Go.Proofs.Ytlapinecmiacoaa
namespace Go.Proofs.Ytlapinecmiacoaa
open Go.ChangeShapes Go.WideShapes Go.ChangeAt Go.RowKit Nm Cf Vc Sp Pg

namespace Pg
def aw0 : Nat → Page Ent := fun _ => fr
def aw1 : Nat → Page Ent := takeS 2 aw0 7
def aw2 : Nat → Page Ent := putS 2 aw1 0 (entX 5)
def aw3 : Nat → Page Ent := shareS 2 aw2 [0]
def aw4 : Nat → Page Ent := putS 2 aw3 0 (entX 6)
def aw5 : Nat → Page Ent := dropS 2 aw4 [0, 0]
theorem aw_take : takeI 2 aw0 7 = 0 ∧ takeE 2 aw0 7 = 0 := by decide +kernel
theorem aw_put : putE 2 aw1 0 = 0 ∧ putE 2 aw3 0 = 7 := by decide +kernel
theorem aw_share : shareE 2 aw2 [0] = 0 := by decide +kernel
theorem aw_drop : dropE 2 aw4 [0, 0] = 0 ∧ dropE 2 aw5 [0] = 8 := by decide +kernel
theorem aw_free : freeN aw5 2 = 2 ∧ verI 2 aw5 0 = 0 := by decide +kernel
theorem aw_bnd : Bnd aw2 1000000 ∧ Bnd aw4 1000000 ∧ Bnd aw5 1000000 := by
  have b1 : Bnd aw1 1 := bnd_take (bnd_new.le (by omega)) (by omega) 7
  have b2 : Bnd aw2 1 := bnd_put b1 _ _
  have b3 : Bnd aw3 (1 + 1) := bnd_share b2 [0]
  have b4 : Bnd aw4 (1 + 1) := bnd_put b3 _ _
  exact ⟨b2.le (by omega), b4.le (by omega), (bnd_drop b4 [0, 0]).le (by omega)⟩
end Pg
set_option maxRecDepth 100000 in
set_option maxHeartbeats 1600000 in
theorem law_awake (w : World) : Calls Try.prog 6 #[] w fun e w' => e = .returned (.bool true) ∧ Below w.heap.size w w' := by
  have HNEW := Lib.hid (show ∀ W, Calls Try.prog 7 #[.int .i64 2] W fun e w' => ∃ D F, e = .returned (.pointer (some ⟨D, 0, none⟩)) ∧ Pl F w' D 2 aw0 ∧ (∀ k, F k → W.heap.size ≤ k) ∧ Below W.heap.size W w' from fun W => pages_new W 2 (by omega) (by omega))
  have HNOT := Lib.hid (fun W => pages_new_not W 0 (.inl (by omega)))
  have HT := Lib.hid (fun W F D (h : Has w F W D 2 aw0) => has_take h 7)
  have HPU := Lib.hid (fun W F D P (h : Has w F W D 2 P) N x (he : EntIs W N x) => has_put h 0 he.on (entX_small x))
  have HSH := Lib.hid (fun W F D (h : Has w F W D 2 aw2) => share_one h 0 aw_bnd.1)
  have HDT := Lib.hid (fun W F D (h : Has w F W D 2 aw4) => drop_two h 0 0 aw_bnd.2.1)
  have HDO := Lib.hid (fun W F D (h : Has w F W D 2 aw5) => drop_one h 0 aw_bnd.2.2)
  have HFR := Lib.hid (show ∀ W F D, Has w F W D 2 aw5 → Calls Try.prog 22 #[.pointer (some ⟨D, 0, none⟩)] W fun e w' => e = .returned (.int .i64 2) ∧ Below W.heap.size W w' from fun W F D h => by
    have h1 := pages_Free h.pl
    rw [aw_free.1] at h1
    exact h1)
  have HVE := Lib.hid (fun W F D (h : Has w F W D 2 aw5) => pages_version h.pl 0)
  have HEN := Lib.hid (fun W x => law_entry W x)
  unfold EntSays at HEN
  rw [aw_take.1, aw_take.2] at HT
  rw [aw_share] at HSH
  rw [aw_drop.1] at HDT
  rw [aw_drop.2] at HDO
  rw [aw_free.2] at HVE
  go_enter Try.func6, Try.ntmps6
  go_wp2_with (fail)
  refine (HNEW.out _).mono ?_
  rintro e w1 ⟨D, F0, rfl, pl0, new0, b1⟩
  have H0 := Lib.hid (show Has w F0 w1 D 2 aw0 from ⟨pl0, new0, b1⟩)
  clear pl0 new0 b1 HNEW
  go_wp2_with (go_at_call 7; refine (HNOT.out _).mono ?_; rintro e w2 ⟨rfl, rfl⟩)
  refine (HT.out _ _ _ H0.out).mono ?_
  rintro e w2 ⟨rfl, F1, h1, _, _⟩
  have H1 := Lib.hid (show Has w F1 w2 D 2 aw1 from h1)
  clear h1 H0 HT HNOT
  go_wp2_with (fail)
  refine (HEN.out _ _).mono ?_
  rintro e w3 ⟨rfl, e3, b3⟩
  have H3 := Lib.hid (H1.out.step b3)
  have E3 := Lib.hid e3
  clear e3 b3 H1
  go_wp2_with (fail)
  have HP1 := Lib.hid (HPU.out _ _ _ _ H3.out _ _ E3.out)
  rw [aw_put.1] at HP1
  refine HP1.out.mono ?_
  rintro e w4 ⟨rfl, F4, h4, _, _⟩
  have H4 := Lib.hid (show Has w F4 w4 D 2 aw2 from h4)
  clear h4 H3 E3 HP1
  go_wp2_with (fail)
  refine (HSH.out _ _ _ H4.out).mono ?_
  rintro e w5 ⟨rfl, F5, h5, _, _⟩
  have H5 := Lib.hid (show Has w F5 w5 D 2 aw3 from h5)
  clear h5 H4 HSH
  go_wp2_with (fail)
  refine (HEN.out _ _).mono ?_
  rintro e w6 ⟨rfl, e6, b6⟩
  have H6 := Lib.hid (H5.out.step b6)
  have E6 := Lib.hid e6
  clear e6 b6 H5
  go_wp2_with (fail)
  have HP2 := Lib.hid (HPU.out _ _ _ _ H6.out _ _ E6.out)
  rw [aw_put.2] at HP2
  refine HP2.out.mono ?_
  rintro e w7 ⟨rfl, F7, h7, _, _⟩
  have H7 := Lib.hid (show Has w F7 w7 D 2 aw4 from h7)
  clear h7 H6 E6 HP2 HPU HEN
  go_wp2_with (fail)
  refine (HDT.out _ _ _ H7.out).mono ?_
  rintro e w8 ⟨rfl, F8, h8, _, _⟩
  have H8 := Lib.hid (show Has w F8 w8 D 2 aw5 from h8)
  clear h8 H7 HDT
  go_wp2_with (first
    | (go_at_call 22; refine (HFR.out _ _ _ H8.out).mono ?_; rintro e w9 ⟨rfl, b9⟩; have H9 := Lib.hid (H8.out.step b9); clear b9)
    | (go_at_call 20; refine (HVE.out _ _ _ H9.out).mono ?_; rintro e wa ⟨rfl, ba⟩; have HA := Lib.hid (H9.out.step ba); clear ba)
    | (go_at_call 11; refine (HDO.out _ _ _ HA.out).mono ?_; rintro e wb ⟨rfl, FB, hb, _, _⟩; have HB := Lib.hid hb.below; clear hb))
  refine bodyPost_ret (results_tmp rfl _ _ _) rfl ?_
  exact ⟨rfl, HB.out⟩
end Go.Proofs.Ytlapinecmiacoaa
