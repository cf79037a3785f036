/-
  A manifest whose row of sums grows, sum by sum, in a row of its own. No program's function here. No conditions.
  Package manifest: Same; the library's slices.Equal over sums. Conditions: the sums stand behind the slices, at most a million.
  Package manifest: Same. Conditions: the sums stand behind the slices, at most a million.
  What bytes tell of a manifest, in plain words; a reader on its way in memory. No program's function here. No conditions.
-/
import Derived.Test.YtgdckpldbofgfaaDoorMg16
import Derived.Test.YtgdckpldbofgfaaDoorMg17
import Derived.Test.YtgdckpldbofgfaaDoorMg14
import Derived.Test.YtgdckpldbofgfaaDoorMg10
import Derived.Deep.AppendLies
set_option maxRecDepth 100000
namespace Go.Proofs.YtgdckpldbofgfaaDoor
open Go.ChangeShapes Go.WideShapes Go.ChangeAt Go.RowKit Sh Pn Mf

namespace Mf
structure Grow (base mb : Nat) (t e : TypeId) (m : Man) (A : Option Addr) (k : Nat) (W : World) : Prop where
  at_ : At W mb t m A k
  row : W.ownsRow base e 32 (.slice A m.sums.length k) m.sums.length (dcells m.sums)
  lt : mb < base
  low : base ≤ W.heap.size
section
variable {base mb : Nat} {t e : TypeId} {m : Man} {A : Option Addr} {k : Nat} {W W' wz : World}
theorem Grow.below (h : Grow base mb t e m A k W) (hb : Below W.heap.size W W') : Grow base mb t e m A k W' := ⟨h.at_.keep hb, own_below h.row hb, h.lt, Nat.le_trans h.low hb.size⟩
theorem Grow.only (h : Grow base mb t e m A k W) {p : Nat} (ho : Only W W' p) (hp : p < base) (hne : mb ≠ p) : Grow base mb t e m A k W' :=
  ⟨h.at_.of_block (ho.block mb h.at_.lt hne), own_only h.row ho hp, h.lt, Nat.le_trans h.low ho.size⟩
theorem Grow.off (h : Grow base mb t e m A k W) {j : Nat} (hj : some j = (Value.slice A m.sums.length k).ownBlock) : base ≤ j := (h.row.lt j hj.symm).1
theorem Grow.sin (h : Grow base mb t e m A k W) : SIn W A k m.sums := by
  rcases h.row.2 with ⟨h1, h2⟩ | ⟨g, cap, cur, hv, _, _, hc, _⟩
  · injection h1 with h3 h4 h5
    exact ⟨by omega, fun h0 => absurd h0 (by omega)⟩
  · have hv' := hv
    injection hv with h3 _ h5
    refine ⟨by omega, fun _ => ⟨g, 0, h3, fun j u hj => ?_⟩⟩
    have := h.row.cells (g := g) ((congrArg Value.ownBlock hv').trans rfl) j u hj
    rwa [Addr.add_lit] at this
theorem grow_new (h : At W mb t m none 0) (hm : m.sums = []) (base : Nat) (hb : base = W.heap.size) : Grow base mb t e m none 0 W := by
  subst hb
  refine ⟨h, ?_, h.lt, Nat.le_refl _⟩
  rw [hm]
  exact World.ownsRow_nil _ _ _ _
theorem Grow.added (h : Grow base mb t e m A k W) (f : Nat → UInt8) {g cap : Nat} (hown : wz.ownsRow base e 32 (.slice (some ⟨g, 0, none⟩) (m.sums.length + 1) cap) (m.sums.length + 1) (dcells m.sums ++ (digF f).toList)) (hat : At wz mb t m A k) (hsz : base ≤ wz.heap.size) :
    Grow base mb t e { m with sums := m.sums ++ [f] } (some ⟨g, 0, none⟩) cap (wz.setCell ⟨mb, 4, none⟩ (.slice (some ⟨g, 0, none⟩) (m.sums.length + 1) cap)) := by
  have hl : m.sums.length + 1 = (m.sums ++ [f]).length := by simp
  have hd : dcells (m.sums ++ [f]) = dcells m.sums ++ (digF f).toList := by rw [dcells_append]; unfold dcells; simp
  refine ⟨hat.setSums _ _ _ _ hl, ?_, h.lt, by simpa [World.setCell] using hsz⟩
  show World.ownsRow _ base e 32 (.slice (some ⟨g, 0, none⟩) (m.sums ++ [f]).length cap) (m.sums ++ [f]).length (dcells (m.sums ++ [f]))
  rw [hd, ← hl]
  exact own_only hown ((Only.refl wz mb).setCell (.inl rfl) _) h.lt
end
end Mf
section
variable {mb base : Nat} {tm : TypeId} {m : Man} {A : Option Addr} {k : Nat} {W : World}
theorem step_add {ops : Array Oper} {o : Oper} {a : Act} {K : Act → World → Prop} {Q : Exit → Act → World → Prop} {E : Prop} (hgd : o.guard = none) (s x : Operand) (t : TypeId) (ho : o.op = .call { callee := .builtin .append, args := #[s, x], argTypes := #[t, t] })
    (e : TypeId) (ht : Tryd.prog.underlying t = some (.slice e)) (hinf : (Tryd.prog.info? e).map (fun i => (i.zero, i.size, i.bytes)) = some (some (.agg (digF fun _ => 0)), 32, 32))
    (hG : Grow base mb tm e m A k W) (f : Nat → UInt8) (hs : a.eval s = .slice A m.sums.length k) (hx : a.eval x = .slice (some ⟨W.heap.size, 0, none⟩) 1 1) (hn : m.sums.length ≤ 100000)
    (h : ∀ g cap wz, Grow base mb tm e { m with sums := m.sums ++ [f] } (some ⟨g, 0, none⟩) cap (wz.setCell ⟨mb, 4, none⟩ (.slice (some ⟨g, 0, none⟩) (m.sums.length + 1) cap)) → At wz mb tm m A k → Below base W wz → K (a.put o.dst (.slice (some ⟨g, 0, none⟩) (m.sums.length + 1) cap)) wz) :
    if Region.wanted o (yielded ops a.tmps) = true then Oper.wp Tryd.prog o a (W.alloc (.cells (digF f) e)) K Q else E := by
  obtain ⟨i0, hi, hz0, hz1, hz2⟩ := info_parts hinf
  have hg1 : Grow base mb tm e m A k (W.alloc (.cells (digF f) e)) := hG.below ((Below.refl _ _).alloc (Nat.le_refl _) _)
  refine step_append_lies _ hgd s x t ho base e i0 _ 32 32 ht hi hz0 hz1 hz2 (vals_size 32 _) (by omega) _ m.sums.length (dcells m.sums) hs hg1.row ⟨W.heap.size, 0, none⟩ 1 1 (digF f).toList hx
    (by rw [Array.length_toList, Nat.one_mul]; exact vals_size 32 _) ?_ (fun u hu => Array.all_eq_true_iff_forall_mem.1 (hoDig f) u (by simpa using hu)) (by omega) (by unfold maxLen; omega) (by omega) hg1.low _ rfl ?_
  · intro j u hj
    rw [Addr.add_lit, Nat.zero_add, cell_of_row _ _ _ _ _ _ (heap_alloc_new W _), ← hj, Array.getElem?_toList]
  · intro g cap wz hown hgr _ _
    have hat : At wz mb tm m A k := hg1.at_.of_block (hgr.block mb hg1.at_.lt fun e' => by have := hg1.off e'; have := hg1.lt; omega)
    exact h g cap wz (hg1.added f hown hat (Nat.le_trans hg1.low hgr.size)) hat
      (((Below.refl base W).alloc hG.low _).grown hgr hg1.low fun i hi => hg1.off hi.symm)
end
end Go.Proofs.YtgdckpldbofgfaaDoor
namespace Go.Proofs.YtgdckpldbofgfaaDoor
open Go.ChangeShapes Go.WideShapes Go.ChangeAt Go.RowKit Sh Pn Mf

namespace Mf
def atD (L : List (Nat → UInt8)) (i : Nat) : Nat → UInt8 := L.getD i fun _ => 0
def sameL (L M : List (Nat → UInt8)) : Bool := decide (L.length = M.length) && (List.range L.length).all fun i => same (atD L i) (atD M i)
theorem sameL_len {L M : List (Nat → UInt8)} (h : L.length ≠ M.length) : sameL L M = false := by unfold sameL; rw [decide_eq_false h]; rfl
theorem sameL_not {L M : List (Nat → UInt8)} {i : Nat} (hi : i < L.length) (h : same (atD L i) (atD M i) = false) : sameL L M = false := by
  unfold sameL
  rw [Bool.and_eq_false_iff]
  refine .inr (List.all_eq_false.2 ⟨i, List.mem_range.2 hi, ?_⟩)
  rw [h]
  exact Bool.false_ne_true
theorem sameL_yes {L M : List (Nat → UInt8)} (hl : L.length = M.length) (h : ∀ i, i < L.length → same (atD L i) (atD M i) = true) : sameL L M = true := by
  unfold sameL
  rw [decide_eq_true hl, Bool.true_and, List.all_eq_true]
  exact fun i hi => h i (List.mem_range.1 hi)
theorem sameL_self (L : List (Nat → UInt8)) : sameL L L = true := sameL_yes rfl fun _ _ => same_refl _
theorem mfLess (j n : Nat) (h : j < n) : n - ((j : Int) + 1).toNat < n - (j : Int).toNat := by omega
end Mf
set_option maxRecDepth 100000 in
set_option maxHeartbeats 1600000 in
theorem equal_digs (w : World) (A : Option Addr) (n c : Nat) (B : Option Addr) (m c' : Nat) (L M : List (Nat → UInt8)) (hz : L.length = n) (hu : M.length = m) (hm : n ≤ 1000000) (hA : SIn w A c L) (hB : SIn w B c' M) :
    Calls Tryd.prog 36 #[.slice A n c, .slice B m c'] w fun e w' => e = .returned (.bool (sameL L M)) ∧ ∃ k, w' = w.drewN k := by
  have HA := Lib.hid hA
  have HB := Lib.hid hB
  have HZ := Lib.hid hz
  have HU := Lib.hid hu
  clear hA hB hz hu
  by_cases hnm : n = m
  · subst hnm
    have HL := Lib.hid (show L.length = M.length from HZ.out.trans HU.out.symm)
    have t1 : ((n : Int) == (n : Int)) = true := beq_self_eq_true _
    go_enter Tryd.func36, Tryd.ntmps36
    go_wp2_with (fail)
    go_loopw [13] (fun i wr => ∃ j d : Nat, i = .int .i64 (j : Int) ∧ j ≤ n ∧ (∀ k, k < j → same (atD L k) (atD M k) = true) ∧ wr = w.drewN d) (fun i _ => match i with | .int _ k => n - k.toNat | _ => 0)
    case atStart => exact ⟨0, 0, rfl, Nat.zero_le _, fun k hk => absurd hk (Nat.not_lt_zero k), rfl⟩
    case round =>
      obtain ⟨j, d, rfl, hj, he, rfl⟩ := hrel
      have HE := Lib.hid he
      clear he
      have x2 : 0 ≤ (j : Int) := by omega
      by_cases hlt : j < n
      · have x0 : (j : Int) < (n : Int) := by omega
        have x1 : decide ((j : Int) < (n : Int)) = true := decide_eq_true x0
        have HJ := Lib.hid (show j + 1 ≤ n by omega)
        obtain ⟨pa, oa, rfl, hpa, hc1⟩ := HA.out.at (show j < L.length by rw [HZ.out]; exact hlt)
        obtain ⟨pb, ob, rfl, hpb, hc2⟩ := HB.out.at (show j < M.length by rw [HU.out]; exact hlt)
        have HS := Lib.hid (show (∀ W : World, W.heap = w.heap → W.rangeAt pa (oa + j * 32) (digF (atD L j)).toList ∧ W.rangeAt pb (ob + j * 32) (digF (atD M j)).toList) from fun W hW =>
          ⟨fun x v hx => (World.cell?_of_block (w := w) (by rw [hW])).trans (hc1 x v hx), fun x v hx => (World.cell?_of_block (w := w) (by rw [hW])).trans (hc2 x v hx)⟩)
        have HI1 := Lib.hid (show (Tryd.prog.info? 24).map (·.size) = some (digF (atD L j)).toList.length by rw [Array.length_toList]; exact hiDigF _)
        have HI2 := Lib.hid (show (Tryd.prog.info? 24).map (·.size) = some (digF (atD M j)).toList.length by rw [Array.length_toList]; exact hiDigF _)
        have HFT := Lib.hid (show (same (atD L j) (atD M j) = true → ∀ k, k < j + 1 → same (atD L k) (atD M k) = true) ∧ (same (atD L j) (atD M j) = false → sameL L M = false) from
          ⟨fun h k hk => by
            by_cases hkj : k = j
            · rw [hkj]; exact h
            · exact HE.out k (by omega), fun h => sameL_not (by rw [HZ.out]; exact hlt) h⟩)
        have E : ∀ W, (binOp .neq 24 (.agg (digF (atD L j))) (.agg (digF (atD M j)))).run Tryd.prog W = .ok (.bool (!same (atD L j) (atD M j))) W := fun W => run_neq_dig _ _ W
        have x3 := IntWalk.wrap64_in ((j : Int) + 1) (by omega)
        clear hc1 hc2 hpa hpb HE
        generalize atD L j = f at HS HI1 HFT E
        generalize atD M j = g at HS HI2 HFT E
        go_wp2_with (fail)
        -- HAND
        refine wp_region_noPanic ?_
        refine wp_region_held_drew (S := (fun W : World => W.rangeAt pa (oa + j * 32) (digF f).toList ∧ W.rangeAt pb (ob + j * 32) (digF g).toList)) (by kernel_rfl) (HS.out _ rfl) (fun hHeld => ?_)
        refine wpAnyH_takeAt (i := 0) (v := .slice (some ⟨pa, oa, none⟩) n c) 16 rfl rfl (by kernel_rfl) (by kernel_rfl) (by kernel_rfl) (fun _ _ _ h => h) (Or.inl ⟨by rfl, ?_⟩) hHeld ?_
        · intro W hW
          try dsimp only at hW
          go_simp
        simp only [Act.put, List.setIfInBounds_toArray, List.set_cons_succ, List.set_cons_zero]
        refine wpAnyH_takeAt (i := 1) (v := .int .i64 (j : Int)) 17 rfl rfl (by kernel_rfl) (by kernel_rfl) (by kernel_rfl) (fun _ _ _ h => h) (Or.inl ⟨by rfl, ?_⟩) hHeld ?_
        · intro W hW
          try dsimp only at hW
          go_simp
        simp only [Act.put, List.setIfInBounds_toArray, List.set_cons_succ, List.set_cons_zero]
        refine wpAnyH_takeAt (i := 2) (v := .pointer (some ⟨pa, oa + j * 32, none⟩)) 18 rfl rfl (by kernel_rfl) (by kernel_rfl) (by kernel_rfl) (fun _ _ _ h => h) (Or.inl ⟨by rfl, ?_⟩) hHeld ?_
        · intro W hW
          try dsimp only at hW
          go_simp
        simp only [Act.put, List.setIfInBounds_toArray, List.set_cons_succ, List.set_cons_zero]
        refine wpAnyH_takeAt (i := 3) (v := .agg (digF f).toList.toArray) 19 rfl rfl (by kernel_rfl) (by kernel_rfl) (by kernel_rfl) (fun _ _ _ h => h) (yieldsIf_load_mid (by rfl) 24 _ rfl pa (oa + j * 32) rfl (digF f).toList _ (fun W hW => hW.1) Tryd.underlying24 rfl HI1.out) hHeld ?_
        simp only [Act.put, List.setIfInBounds_toArray, List.set_cons_succ, List.set_cons_zero]
        refine wpAnyH_takeAt (i := 4) (v := .slice (some ⟨pb, ob, none⟩) n c') 20 rfl rfl (by kernel_rfl) (by kernel_rfl) (by kernel_rfl) (fun _ _ _ h => h) (Or.inl ⟨by rfl, ?_⟩) hHeld ?_
        · intro W hW
          try dsimp only at hW
          go_simp
        simp only [Act.put, List.setIfInBounds_toArray, List.set_cons_succ, List.set_cons_zero]
        refine wpAnyH_takeAt (i := 5) (v := .int .i64 (j : Int)) 21 rfl rfl (by kernel_rfl) (by kernel_rfl) (by kernel_rfl) (fun _ _ _ h => h) (Or.inl ⟨by rfl, ?_⟩) hHeld ?_
        · intro W hW
          try dsimp only at hW
          go_simp
        simp only [Act.put, List.setIfInBounds_toArray, List.set_cons_succ, List.set_cons_zero]
        refine wpAnyH_takeAt (i := 6) (v := .pointer (some ⟨pb, ob + j * 32, none⟩)) 22 rfl rfl (by kernel_rfl) (by kernel_rfl) (by kernel_rfl) (fun _ _ _ h => h) (Or.inl ⟨by rfl, ?_⟩) hHeld ?_
        · intro W hW
          try dsimp only at hW
          go_simp
        simp only [Act.put, List.setIfInBounds_toArray, List.set_cons_succ, List.set_cons_zero]
        refine wpAnyH_takeAt (i := 7) (v := .agg (digF g).toList.toArray) 23 rfl rfl (by kernel_rfl) (by kernel_rfl) (by kernel_rfl) (fun _ _ _ h => h) (yieldsIf_load_mid (by rfl) 24 _ rfl pb (ob + j * 32) rfl (digF g).toList _ (fun W hW => hW.2) Tryd.underlying24 rfl HI2.out) hHeld ?_
        simp only [Act.put, List.setIfInBounds_toArray, List.set_cons_succ, List.set_cons_zero]
        refine wpAnyH_takeAt (i := 8) (v := .bool (!same f g)) 24 rfl rfl (by kernel_rfl) (by kernel_rfl) (by kernel_rfl) (fun _ _ _ h => h) (Or.inl ⟨by rfl, ?_⟩) hHeld ?_
        · intro W hW
          try dsimp only at hW
          go_simp
        simp only [Act.put, List.setIfInBounds_toArray, List.set_cons_succ, List.set_cons_zero]
        refine wpAnyH_done (by kernel_rfl) ?_ _
        refine NoPanic.normal ?_
        -- DNAH
        clear hHeld E
        cases hs : same f g with
        | true =>
          have HE2 := Lib.hid (HFT.out.1 hs)
          clear hs HFT
          go_wp2_with (fail)
          exact ⟨⟨j + 1, _, rfl, HJ.out, HE2.out, rfl⟩, mfLess j n hlt⟩
        | false =>
          have HN := Lib.hid (HFT.out.2 hs)
          clear hs HFT
          go_wp2_with (fail)
          refine bodyPost_ret (results_tmp rfl _ _ _) rfl ?_
          rw [HN.out]
          exact ⟨rfl, _, World.drewN_drewN ..⟩
      · have hke : j = n := by omega
        have x0 : ¬ (j : Int) < (n : Int) := by omega
        have x1 : decide ((j : Int) < (n : Int)) = false := decide_eq_false x0
        have HN := Lib.hid (show sameL L M = true from sameL_yes HL.out fun i hi => HE.out i (by have := HZ.out; omega))
        go_wp2_with (fail)
        refine bodyPost_ret (results_tmp rfl _ _ _) rfl ?_
        rw [HN.out]
        exact ⟨rfl, d, rfl⟩
  · have HN := Lib.hid (show sameL L M = false from sameL_len fun e => hnm (by rw [← HZ.out, ← HU.out, e]))
    have t1 : ((n : Int) == (m : Int)) = false := beq_eq_false_iff_ne.2 (by omega)
    clear hnm
    go_enter Tryd.func36, Tryd.ntmps36
    go_wp2_with (fail)
    refine bodyPost_ret (results_tmp rfl _ _ _) rfl ?_
    rw [HN.out]
    exact ⟨rfl, 0, rfl⟩
end Go.Proofs.YtgdckpldbofgfaaDoor
namespace Go.Proofs.YtgdckpldbofgfaaDoor
open Go.ChangeShapes Go.WideShapes Go.ChangeAt Go.RowKit Sh Pn Mf

theorem wpList_load_mid_g {P : Program} {ops : Array Oper} {rest : List Oper} {op : Oper} {a : Act} {w : World} {Q : Exit → Act → World → Prop} (hw : Region.wanted op (yielded ops a.tmps) = true) (ty : TypeId) (x : Operand) (ho : op.op = .load ty x)
    (b o : Nat) (hx : a.eval x = .pointer (some ⟨b, o, none⟩)) (cs : List Value) (d : TypeDesc) (hc : w.rangeAt b o cs)
    (hu : P.underlying ty = some d) (hd : d.isRow = true) (hi : (P.info? ty).map (·.size) = some cs.length)
    (h : wpList P ops Q rest (a.put op.dst (.agg cs.toArray)) w) : wpList P ops Q (op :: rest) a w :=
  wpList_step fun K hK => by simp only [hw, if_true]; exact wp_load_mid ty x ho b o hx cs d hc hu hd hi (hK _ _ h)
namespace Mf
def sameM (m n : Man) : Bool := (m.b == n.b) && (m.v == n.v) && (m.s == n.s) && (m.c == n.c) && same m.res n.res && sameL m.sums n.sums
theorem first_no (b1 b2 b3 b4 b5 : Bool) : b1 = false ∨ (b1 = true ∧ b2 = false) ∨ (b1 = true ∧ b2 = true ∧ b3 = false) ∨ (b1 = true ∧ b2 = true ∧ b3 = true ∧ b4 = false) ∨ (b1 = true ∧ b2 = true ∧ b3 = true ∧ b4 = true ∧ b5 = false) ∨ (b1 = true ∧ b2 = true ∧ b3 = true ∧ b4 = true ∧ b5 = true) := by
  cases b1 <;> cases b2 <;> cases b3 <;> cases b4 <;> cases b5 <;> simp
end Mf
set_option maxRecDepth 100000 in
set_option maxHeartbeats 3200000 in
theorem mf_same (w : World) (m : Man) (A : Option Addr) (k : Nat) (n : Man) (B : Option Addr) (q : Nat) (hA : SIn w A k m.sums) (hB : SIn w B q n.sums) (hm : m.sums.length ≤ 1000000) :
    Calls Tryd.prog 20 #[.agg (manA m A k), .agg (manA n B q)] w fun e w' => e = .returned (.bool (sameM m n)) ∧ Below w.heap.size w w' := by
  have h1 := (at_new w 26 m A k).keep ((Below.refl _ _).alloc (Nat.le_refl _) (.cells (manA n B q) 26))
  have h2 := at_new (w.alloc (.cells (manA m A k) 26)) 26 n B q
  have hb := ((Below.refl w.heap.size w).alloc (Nat.le_refl _) (.cells (manA m A k) 26)).alloc (by simp) (.cells (manA n B q) 26)
  rw [show (w.alloc (.cells (manA m A k) 26)).heap.size = w.heap.size + 1 by simp] at h2
  have HB := Lib.hid hb
  have HA1 := Lib.hid h1
  have HA2 := Lib.hid h2
  have HEQ := Lib.hid (fun (W : World) (hW : Below w.heap.size w W) => equal_digs W A m.sums.length k B n.sums.length q m.sums n.sums rfl rfl hm (hA.keep hW) (hB.keep hW))
  have p0 := h1.base
  have p1 := h1.ver
  have p2 := h1.size
  have p3 := h1.chunk
  have p4 := h1.sums
  have q0 := h2.base
  have q1 := h2.ver
  have q2 := h2.size
  have q3 := h2.chunk
  have q4 := h2.sums
  have E : ∀ W, (binOp .eql 24 (.agg (digF m.res)) (.agg (digF n.res))).run Tryd.prog W = .ok (.bool (same m.res n.res)) W := fun W => run_eql_dig _ _ W
  have HI1 := Lib.hid (show (Tryd.prog.info? 24).map (·.size) = some (digF m.res).toList.length by rw [Array.length_toList]; exact hiDigF _)
  have HI2 := Lib.hid (show (Tryd.prog.info? 24).map (·.size) = some (digF n.res).toList.length by rw [Array.length_toList]; exact hiDigF _)
  have HM := Lib.hid (show sameM m n = ((m.b == n.b) && (m.v == n.v) && (m.s == n.s) && (m.c == n.c) && same m.res n.res && sameL m.sums n.sums) from rfl)
  generalize sameL m.sums n.sums = z at HEQ HM
  clear h1 h2 hb hA hB hm
  rcases first_no (m.b == n.b) (m.v == n.v) (m.s == n.s) (m.c == n.c) (same m.res n.res) with t1 | ⟨t1, t2⟩ | ⟨t1, t2, t3⟩ | ⟨t1, t2, t3, t4⟩ | ⟨t1, t2, t3, t4, t5⟩ | ⟨t1, t2, t3, t4, t5⟩
  case inr.inr.inr.inr.inr =>
    have HR := Lib.hid (show sameM m n = z by rw [HM.out, t1, t2, t3, t4, t5]; rfl)
    rw [t5] at E
    go_enter Tryd.func20, Tryd.ntmps20
    go_wp2_with (first
      | (refine wpList_load_mid_g (by rfl) 24 _ rfl w.heap.size 5 rfl (digF m.res).toList _ HA1.out.res Tryd.underlying24 rfl HI1.out ?_)
      | (refine wpList_load_mid_g (by rfl) 24 _ rfl (w.heap.size + 1) 5 rfl (digF n.res).toList _ HA2.out.res Tryd.underlying24 rfl HI2.out ?_))
    refine (HEQ.out _ HB.out).mono ?_
    rintro e w1 ⟨rfl, k1, rfl⟩
    have HB1 := Lib.hid (below_drewN HB.out k1)
    go_wp2_with (fail)
    refine bodyPost_ret (results_tmp rfl _ _ _) rfl ?_
    rw [HR.out]
    exact ⟨rfl, HB1.out⟩
  all_goals
    have HR := Lib.hid (show sameM m n = false by rw [HM.out, t1]; first | rfl | (rw [t2]; rfl) | (rw [t2, t3]; rfl) | (rw [t2, t3, t4]; rfl) | (rw [t2, t3, t4, t5]; rfl))
    try rw [t5] at E
    go_enter Tryd.func20, Tryd.ntmps20
    go_wp2_with (first
      | (refine wpList_load_mid_g (by rfl) 24 _ rfl w.heap.size 5 rfl (digF m.res).toList _ HA1.out.res Tryd.underlying24 rfl HI1.out ?_)
      | (refine wpList_load_mid_g (by rfl) 24 _ rfl (w.heap.size + 1) 5 rfl (digF n.res).toList _ HA2.out.res Tryd.underlying24 rfl HI2.out ?_))
    refine bodyPost_ret (results_tmp rfl _ _ _) rfl ?_
    rw [HR.out]
    exact ⟨rfl, HB.out⟩
end Go.Proofs.YtgdckpldbofgfaaDoor
namespace Go.Proofs.YtgdckpldbofgfaaDoor
open Go.ChangeShapes Go.WideShapes Go.ChangeAt Go.RowKit Sh Pn Mf Cf

namespace Mf
/-- What is left behind k sums, and whether something was wrong. -/
def rD (r : ByteArray) : Nat → ByteArray
  | 0 => r
  | k + 1 => tkRest (rD r k) 32
def bD (r : ByteArray) (bad : Bool) : Nat → Bool
  | 0 => bad
  | k + 1 => tkBad (rD r k) (bD r bad k) 32
def sD (r : ByteArray) (k : Nat) : Nat → UInt8 := dgOut (rD r k)
def sumsD (r : ByteArray) (k : Nat) : List (Nat → UInt8) := (List.range k).map (sD r)
theorem sumsD_next (r : ByteArray) (k : Nat) : sumsD r (k + 1) = sumsD r k ++ [sD r k] := by unfold sumsD; rw [List.range_succ, List.map_append]; rfl
theorem sumsD_length (r : ByteArray) (k : Nat) : (sumsD r k).length = k := by simp [sumsD]
/-- The numbers, the rest, what is read. -/
def headT (s : ByteArray) : Man := ⟨vsT limM s 0, vsT limM s 1, vsT limM s 2, vsT limM s 3, [], fun _ => 0⟩
def needT (s : ByteArray) : Nat := needM (headT s)
def readT (s : ByteArray) : Man := { headT s with sums := sumsD (rsT limM s 4) (needT s), res := sD (rsT limM s 4) (needT s) }
def rootT (s : ByteArray) : Nat → UInt8 := sD (rsT limM s 4) (needT s + 1)
def endT (s : ByteArray) : Int := endOf (rD (rsT limM s 4) (needT s + 2)) (bD (rsT limM s 4) (bsT limM s 4) (needT s + 2))
/-- What Parse answers. -/
def parM (s : ByteArray) : Man × Int := if 0 < needT s ∧ endT s = 0 then (if same (rootT s) (rootF (readT s).sums) = true then (readT s, 0) else (zeroM, 6)) else (zeroM, 5)
theorem need_most (m : Man) : needM m ≤ 64 := by
  unfold needM needN
  split
  · rename_i h
    exact (headB_iff.1 h).2.2.2.2.2.2.2.2.2
  · omega
theorem count_read (s : ByteArray) : countM (readT s) = needT s := by
  rw [countM_need]
  have h : needM (readT s) = needT s := rfl
  rw [h, show (readT s).sums.length = needT s from sumsD_length _ _, if_pos rfl]
/-- A reader on its way: k sums are read. -/
structure Reads (t e : TypeId) (w : World) (eb mb base : Nat) (r : ByteArray) (bad : Bool) (m : Man) (j k : Nat) (A : Option Addr) (c : Nat) (W : World) : Prop where
  eye : EyeAt W eb (rD r j) (bD r bad j)
  out : At W w.heap.size t zeroM none 0
  grow : Grow base mb t e { m with sums := sumsD r k } A c W
  below : Below w.heap.size w W
  l0 : w.heap.size < eb
  l1 : eb < mb
section
variable {t e : TypeId} {w W W' : World} {eb mb base : Nat} {r : ByteArray} {bad : Bool} {m : Man} {j k : Nat} {A : Option Addr} {c : Nat}
theorem Reads.step (h : Reads t e w eb mb base r bad m j k A c W) (hb : Below W.heap.size W W') : Reads t e w eb mb base r bad m j k A c W' :=
  ⟨h.eye.of_block (hb.block _ h.eye.lt), h.out.keep hb, h.grow.below hb, h.below.trans (hb.mono h.below.size), h.l0, h.l1⟩
theorem Reads.read (h : Reads t e w eb mb base r bad m j k A c W) (he : EyeAt W' eb (tkRest (rD r j) 32) (tkBad (rD r j) (bD r bad j) 32)) (ho : Only W W' eb) : Reads t e w eb mb base r bad m (j + 1) k A c W' := by
  have h0 := h.l0
  have h1 := h.l1
  have h2 := h.grow.lt
  exact ⟨he, h.out.of_block (ho.block _ h.out.lt (by omega)), h.grow.only ho (by omega) (by omega), h.below.trans (ho.below (by omega) h.below.size), h0, h1⟩
theorem Reads.added (h : Reads t e w eb mb base r bad m (k + 1) k A c W) {wz : World} {g cap : Nat} (hg : Grow base mb t e { m with sums := sumsD r k ++ [sD r k] } (some ⟨g, 0, none⟩) cap (wz.setCell ⟨mb, 4, none⟩ (.slice (some ⟨g, 0, none⟩) (k + 1) cap))) (hb : Below base W wz) :
    Reads t e w eb mb base r bad m (k + 1) (k + 1) (some ⟨g, 0, none⟩) cap (wz.setCell ⟨mb, 4, none⟩ (.slice (some ⟨g, 0, none⟩) (k + 1) cap)) := by
  have h0 := h.l0
  have h1 := h.l1
  have h2 := h.grow.lt
  rw [← sumsD_next] at hg
  refine ⟨h.eye.of_block ((heap_setCell_other _ _ _ _ (by show eb ≠ mb; omega)).trans (hb.block _ (by omega))), h.out.of_block ((heap_setCell_other _ _ _ _ (by show w.heap.size ≠ mb; omega)).trans (hb.block _ (by omega))), hg, ?_, h0, h1⟩
  exact (h.below.trans (hb.mono (by omega))).setCell (p := ⟨mb, 4, none⟩) (by show w.heap.size ≤ mb; omega) _
theorem Reads.res (h : Reads t e w eb mb base r bad m j k A c W) (f : Nat → UInt8) : Reads t e w eb mb base r bad { m with res := f } j k A c (W.setCells mb 5 (digF f).toList) := by
  have h0 := h.l0
  have h1 := h.l1
  refine ⟨h.eye.of_block (setCells_other (by omega) _ _ _), h.out.of_block (setCells_other (by omega) _ _ _), ⟨h.grow.at_.setRes f, ?_, h.grow.lt, by rw [setCells_size]; exact h.grow.low⟩, setCells_below (by omega) _ _ _ h.below, h0, h1⟩
  exact own_only h.grow.row (setCells_only (.inl rfl) _ _ _ (Only.refl W mb)) h.grow.lt
theorem Reads.sinOut (h : Reads t e w eb mb base r bad m j k A c W) (cs : Array Value) : SIn (W.setRow w.heap.size cs) A c (sumsD r k) := by
  have h0 := h.l0
  have h1 := h.l1
  have h2 := h.grow.lt
  exact (h.grow.only ((Only.refl W w.heap.size).setRow (.inl rfl) cs) (by omega) (by omega)).sin
end
end Mf
theorem mf_res_tmp {P : Program} {fn : Func} {p u : Tmp} {ty : TypeId} (h : fn.results = #[.cell p ty, .tmp u]) (tmps : Array Value) (w : World) (g : Nat) (t : TypeId) (cs : Array Value) (fr : Nat × Nat) (d : TypeDesc)
    (hp : tmps.getD p undef = .pointer (some ⟨g, 0, none⟩)) (hg : w.heap[g]? = some (.cells cs t fr))
    (hu : P.underlying ty = some d) (hd : (match d with | .struct _ | .array _ _ => true | _ => false) = true) (hi : (P.info? ty).map (·.size) = some cs.size) :
    (results fn tmps).run P w = .ok (.tuple #[.agg cs, tmps.getD u undef]) w := by
  rw [results_cell_tmp h, hp]
  simp [asAddr, run_loadVar_row w g t ty cs fr d hg hu hd hi]
theorem zeroMan : Tryd.prog.built 26 [] = some (manA zeroM none 0) := by kernel_rfl
end Go.Proofs.YtgdckpldbofgfaaDoor
