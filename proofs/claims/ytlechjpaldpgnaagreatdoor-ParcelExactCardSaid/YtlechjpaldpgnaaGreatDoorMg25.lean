/-
  A manifest whose row of sums grows, sum by sum, in a row of its own. No program's function here. No conditions.
  Package manifest: Same; the library's slices.Equal over sums. Conditions: the sums stand behind the slices, at most a million.
  Package manifest: Same. Conditions: the sums stand behind the slices, at most a million.
  What bytes tell of a manifest, in plain words; a reader on its way in memory. No program's function here. No conditions.
  What the document's reader makes of bytes, beside the program's: in plain words. No program here. No conditions.
  Package manifest: Make. Conditions: both tables of sha lie as the program's text lays them; a patch has fewer than 2^48 bytes.
  What is told is read as it was; chunks of a patch are checked, each at its place: in plain words. No program here. No conditions.
  Package manifest: Parse. Conditions: both tables of sha lie as the program's text lays them.
  What layer 20's statements ask first: answers by number. Condition: both tables of sha lie as the program's text lays them.
  The document's manifest: Head. No conditions.
  The document's manifest: Count, Length, Part. Condition: none (a patch of any length).
  The document's manifest: Length, Part. Conditions: none.
  The document's manifest: digest (32 bytes as a sum). Condition: there are just 32.
-/
import Derived.Test.YtlechjpaldpgnaaGreatDoorMg23
import Derived.Test.YtlechjpaldpgnaaGreatDoorMg24
import Derived.Test.YtlechjpaldpgnaaGreatDoorMg12
import Derived.Test.YtlechjpaldpgnaaGreatDoorMg9
import Derived.Test.YtlechjpaldpgnaaGreatDoorMg19
import Derived.Test.YtlechjpaldpgnaaGreatDoorMg10
import Derived.Test.YtlechjpaldpgnaaGreatDoorMg8
import Derived.Test.YtlechjpaldpgnaaGreatDoorMg6
import Derived.Test.YtlechjpaldpgnaaGreatDoorMg3
import Derived.Deep.AppendLies
set_option maxRecDepth 100000
namespace Go.Proofs.YtlechjpaldpgnaaGreatDoor
open Go.ChangeShapes Go.WideShapes Go.ChangeAt Go.RowKit Sh Pn Mf

namespace Mf
structure Grow (base mb : Nat) (t e : TypeId) (m : Man) (A : Option Addr) (k : Nat) (W : World) : Prop where
  at_ : At W mb t m A k
  row : W.ownsRow base e 32 (.slice A m.sums.length k) m.sums.length (dcells m.sums)
  lt : mb < base
  low : base ≤ W.heap.size
section
variable {base mb : Nat} {t e : TypeId} {m : Man} {A : Option Addr} {k : Nat} {W W' wz : World}
theorem Grow.below (h : Grow base mb t e m A k W) (hb : Below W.heap.size W W') : Grow base mb t e m A k W' := ⟨h.at_.keep hb, own_below h.row hb, h.lt, Nat.le_trans h.low hb.size⟩
theorem Grow.only (h : Grow base mb t e m A k W) {p : Nat} (ho : Only W W' p) (hp : p < base) (hne : mb ≠ p) : Grow base mb t e m A k W' :=
  ⟨h.at_.of_block (ho.block mb h.at_.lt hne), own_only h.row ho hp, h.lt, Nat.le_trans h.low ho.size⟩
theorem Grow.off (h : Grow base mb t e m A k W) {j : Nat} (hj : some j = (Value.slice A m.sums.length k).ownBlock) : base ≤ j := (h.row.lt j hj.symm).1
theorem Grow.sin (h : Grow base mb t e m A k W) : SIn W A k m.sums := by
  rcases h.row.2 with ⟨h1, h2⟩ | ⟨g, cap, cur, hv, _, _, hc, _⟩
  · injection h1 with h3 h4 h5
    exact ⟨by omega, fun h0 => absurd h0 (by omega)⟩
  · have hv' := hv
    injection hv with h3 _ h5
    refine ⟨by omega, fun _ => ⟨g, 0, h3, fun j u hj => ?_⟩⟩
    have := h.row.cells (g := g) ((congrArg Value.ownBlock hv').trans rfl) j u hj
    rwa [Addr.add_lit] at this
theorem grow_new (h : At W mb t m none 0) (hm : m.sums = []) (base : Nat) (hb : base = W.heap.size) : Grow base mb t e m none 0 W := by
  subst hb
  refine ⟨h, ?_, h.lt, Nat.le_refl _⟩
  rw [hm]
  exact World.ownsRow_nil _ _ _ _
theorem Grow.added (h : Grow base mb t e m A k W) (f : Nat → UInt8) {g cap : Nat} (hown : wz.ownsRow base e 32 (.slice (some ⟨g, 0, none⟩) (m.sums.length + 1) cap) (m.sums.length + 1) (dcells m.sums ++ (digF f).toList)) (hat : At wz mb t m A k) (hsz : base ≤ wz.heap.size) :
    Grow base mb t e { m with sums := m.sums ++ [f] } (some ⟨g, 0, none⟩) cap (wz.setCell ⟨mb, 4, none⟩ (.slice (some ⟨g, 0, none⟩) (m.sums.length + 1) cap)) := by
  have hl : m.sums.length + 1 = (m.sums ++ [f]).length := by simp
  have hd : dcells (m.sums ++ [f]) = dcells m.sums ++ (digF f).toList := by rw [dcells_append]; unfold dcells; simp
  refine ⟨hat.setSums _ _ _ _ hl, ?_, h.lt, by simpa [World.setCell] using hsz⟩
  show World.ownsRow _ base e 32 (.slice (some ⟨g, 0, none⟩) (m.sums ++ [f]).length cap) (m.sums ++ [f]).length (dcells (m.sums ++ [f]))
  rw [hd, ← hl]
  exact own_only hown ((Only.refl wz mb).setCell (.inl rfl) _) h.lt
end
end Mf
section
variable {mb base : Nat} {tm : TypeId} {m : Man} {A : Option Addr} {k : Nat} {W : World}
theorem step_add {ops : Array Oper} {o : Oper} {a : Act} {K : Act → World → Prop} {Q : Exit → Act → World → Prop} {E : Prop} (hgd : o.guard = none) (s x : Operand) (t : TypeId) (ho : o.op = .call { callee := .builtin .append, args := #[s, x], argTypes := #[t, t] })
    (e : TypeId) (ht : Tryz.prog.underlying t = some (.slice e)) (hinf : (Tryz.prog.info? e).map (fun i => (i.zero, i.size, i.bytes)) = some (some (.agg (digF fun _ => 0)), 32, 32))
    (hG : Grow base mb tm e m A k W) (f : Nat → UInt8) (hs : a.eval s = .slice A m.sums.length k) (hx : a.eval x = .slice (some ⟨W.heap.size, 0, none⟩) 1 1) (hn : m.sums.length ≤ 100000)
    (h : ∀ g cap wz, Grow base mb tm e { m with sums := m.sums ++ [f] } (some ⟨g, 0, none⟩) cap (wz.setCell ⟨mb, 4, none⟩ (.slice (some ⟨g, 0, none⟩) (m.sums.length + 1) cap)) → At wz mb tm m A k → Below base W wz → K (a.put o.dst (.slice (some ⟨g, 0, none⟩) (m.sums.length + 1) cap)) wz) :
    if Region.wanted o (yielded ops a.tmps) = true then Oper.wp Tryz.prog o a (W.alloc (.cells (digF f) e)) K Q else E := by
  obtain ⟨i0, hi, hz0, hz1, hz2⟩ := info_parts hinf
  have hg1 : Grow base mb tm e m A k (W.alloc (.cells (digF f) e)) := hG.below ((Below.refl _ _).alloc (Nat.le_refl _) _)
  refine step_append_lies _ hgd s x t ho base e i0 _ 32 32 ht hi hz0 hz1 hz2 (vals_size 32 _) (by omega) _ m.sums.length (dcells m.sums) hs hg1.row ⟨W.heap.size, 0, none⟩ 1 1 (digF f).toList hx
    (by rw [Array.length_toList, Nat.one_mul]; exact vals_size 32 _) ?_ (fun u hu => Array.all_eq_true_iff_forall_mem.1 (hoDig f) u (by simpa using hu)) (by omega) (by unfold maxLen; omega) (by omega) hg1.low _ rfl ?_
  · intro j u hj
    rw [Addr.add_lit, Nat.zero_add, cell_of_row _ _ _ _ _ _ (heap_alloc_new W _), ← hj, Array.getElem?_toList]
  · intro g cap wz hown hgr _ _
    have hat : At wz mb tm m A k := hg1.at_.of_block (hgr.block mb hg1.at_.lt fun e' => by have := hg1.off e'; have := hg1.lt; omega)
    exact h g cap wz (hg1.added f hown hat (Nat.le_trans hg1.low hgr.size)) hat
      (((Below.refl base W).alloc hG.low _).grown hgr hg1.low fun i hi => hg1.off hi.symm)
end
end Go.Proofs.YtlechjpaldpgnaaGreatDoor
namespace Go.Proofs.YtlechjpaldpgnaaGreatDoor
open Go.ChangeShapes Go.WideShapes Go.ChangeAt Go.RowKit Sh Pn Mf

namespace Mf
def atD (L : List (Nat → UInt8)) (i : Nat) : Nat → UInt8 := L.getD i fun _ => 0
def sameL (L M : List (Nat → UInt8)) : Bool := decide (L.length = M.length) && (List.range L.length).all fun i => same (atD L i) (atD M i)
theorem sameL_len {L M : List (Nat → UInt8)} (h : L.length ≠ M.length) : sameL L M = false := by unfold sameL; rw [decide_eq_false h]; rfl
theorem sameL_not {L M : List (Nat → UInt8)} {i : Nat} (hi : i < L.length) (h : same (atD L i) (atD M i) = false) : sameL L M = false := by
  unfold sameL
  rw [Bool.and_eq_false_iff]
  refine .inr (List.all_eq_false.2 ⟨i, List.mem_range.2 hi, ?_⟩)
  rw [h]
  exact Bool.false_ne_true
theorem sameL_yes {L M : List (Nat → UInt8)} (hl : L.length = M.length) (h : ∀ i, i < L.length → same (atD L i) (atD M i) = true) : sameL L M = true := by
  unfold sameL
  rw [decide_eq_true hl, Bool.true_and, List.all_eq_true]
  exact fun i hi => h i (List.mem_range.1 hi)
theorem sameL_self (L : List (Nat → UInt8)) : sameL L L = true := sameL_yes rfl fun _ _ => same_refl _
theorem mfLess (j n : Nat) (h : j < n) : n - ((j : Int) + 1).toNat < n - (j : Int).toNat := by omega
end Mf
set_option maxRecDepth 100000 in
set_option maxHeartbeats 1600000 in
theorem equal_digs (w : World) (A : Option Addr) (n c : Nat) (B : Option Addr) (m c' : Nat) (L M : List (Nat → UInt8)) (hz : L.length = n) (hu : M.length = m) (hm : n ≤ 1000000) (hA : SIn w A c L) (hB : SIn w B c' M) :
    Calls Tryz.prog 36 #[.slice A n c, .slice B m c'] w fun e w' => e = .returned (.bool (sameL L M)) ∧ ∃ k, w' = w.drewN k := by
  have HA := Lib.hid hA
  have HB := Lib.hid hB
  have HZ := Lib.hid hz
  have HU := Lib.hid hu
  clear hA hB hz hu
  by_cases hnm : n = m
  · subst hnm
    have HL := Lib.hid (show L.length = M.length from HZ.out.trans HU.out.symm)
    have t1 : ((n : Int) == (n : Int)) = true := beq_self_eq_true _
    go_enter Tryz.func36, Tryz.ntmps36
    go_wp2_with (fail)
    go_loopw [13] (fun i wr => ∃ j d : Nat, i = .int .i64 (j : Int) ∧ j ≤ n ∧ (∀ k, k < j → same (atD L k) (atD M k) = true) ∧ wr = w.drewN d) (fun i _ => match i with | .int _ k => n - k.toNat | _ => 0)
    case atStart => exact ⟨0, 0, rfl, Nat.zero_le _, fun k hk => absurd hk (Nat.not_lt_zero k), rfl⟩
    case round =>
      obtain ⟨j, d, rfl, hj, he, rfl⟩ := hrel
      have HE := Lib.hid he
      clear he
      have x2 : 0 ≤ (j : Int) := by omega
      by_cases hlt : j < n
      · have x0 : (j : Int) < (n : Int) := by omega
        have x1 : decide ((j : Int) < (n : Int)) = true := decide_eq_true x0
        have HJ := Lib.hid (show j + 1 ≤ n by omega)
        obtain ⟨pa, oa, rfl, hpa, hc1⟩ := HA.out.at (show j < L.length by rw [HZ.out]; exact hlt)
        obtain ⟨pb, ob, rfl, hpb, hc2⟩ := HB.out.at (show j < M.length by rw [HU.out]; exact hlt)
        have HS := Lib.hid (show (∀ W : World, W.heap = w.heap → W.rangeAt pa (oa + j * 32) (digF (atD L j)).toList ∧ W.rangeAt pb (ob + j * 32) (digF (atD M j)).toList) from fun W hW =>
          ⟨fun x v hx => (World.cell?_of_block (w := w) (by rw [hW])).trans (hc1 x v hx), fun x v hx => (World.cell?_of_block (w := w) (by rw [hW])).trans (hc2 x v hx)⟩)
        have HI1 := Lib.hid (show (Tryz.prog.info? 24).map (·.size) = some (digF (atD L j)).toList.length by rw [Array.length_toList]; exact hiDigF _)
        have HI2 := Lib.hid (show (Tryz.prog.info? 24).map (·.size) = some (digF (atD M j)).toList.length by rw [Array.length_toList]; exact hiDigF _)
        have HFT := Lib.hid (show (same (atD L j) (atD M j) = true → ∀ k, k < j + 1 → same (atD L k) (atD M k) = true) ∧ (same (atD L j) (atD M j) = false → sameL L M = false) from
          ⟨fun h k hk => by
            by_cases hkj : k = j
            · rw [hkj]; exact h
            · exact HE.out k (by omega), fun h => sameL_not (by rw [HZ.out]; exact hlt) h⟩)
        have E : ∀ W, (binOp .neq 24 (.agg (digF (atD L j))) (.agg (digF (atD M j)))).run Tryz.prog W = .ok (.bool (!same (atD L j) (atD M j))) W := fun W => run_neq_dig _ _ W
        have x3 := IntWalk.wrap64_in ((j : Int) + 1) (by omega)
        clear hc1 hc2 hpa hpb HE
        generalize atD L j = f at HS HI1 HFT E
        generalize atD M j = g at HS HI2 HFT E
        go_wp2_with (fail)
        -- HAND
        refine wp_region_noPanic ?_
        refine wp_region_held_drew (S := (fun W : World => W.rangeAt pa (oa + j * 32) (digF f).toList ∧ W.rangeAt pb (ob + j * 32) (digF g).toList)) (by kernel_rfl) (HS.out _ rfl) (fun hHeld => ?_)
        refine wpAnyH_takeAt (i := 0) (v := .slice (some ⟨pa, oa, none⟩) n c) 16 rfl rfl (by kernel_rfl) (by kernel_rfl) (by kernel_rfl) (fun _ _ _ h => h) (Or.inl ⟨by rfl, ?_⟩) hHeld ?_
        · intro W hW
          try dsimp only at hW
          go_simp
        simp only [Act.put, List.setIfInBounds_toArray, List.set_cons_succ, List.set_cons_zero]
        refine wpAnyH_takeAt (i := 1) (v := .int .i64 (j : Int)) 17 rfl rfl (by kernel_rfl) (by kernel_rfl) (by kernel_rfl) (fun _ _ _ h => h) (Or.inl ⟨by rfl, ?_⟩) hHeld ?_
        · intro W hW
          try dsimp only at hW
          go_simp
        simp only [Act.put, List.setIfInBounds_toArray, List.set_cons_succ, List.set_cons_zero]
        refine wpAnyH_takeAt (i := 2) (v := .pointer (some ⟨pa, oa + j * 32, none⟩)) 18 rfl rfl (by kernel_rfl) (by kernel_rfl) (by kernel_rfl) (fun _ _ _ h => h) (Or.inl ⟨by rfl, ?_⟩) hHeld ?_
        · intro W hW
          try dsimp only at hW
          go_simp
        simp only [Act.put, List.setIfInBounds_toArray, List.set_cons_succ, List.set_cons_zero]
        refine wpAnyH_takeAt (i := 3) (v := .agg (digF f).toList.toArray) 19 rfl rfl (by kernel_rfl) (by kernel_rfl) (by kernel_rfl) (fun _ _ _ h => h) (yieldsIf_load_mid (by rfl) 24 _ rfl pa (oa + j * 32) rfl (digF f).toList _ (fun W hW => hW.1) Tryz.underlying24 rfl HI1.out) hHeld ?_
        simp only [Act.put, List.setIfInBounds_toArray, List.set_cons_succ, List.set_cons_zero]
        refine wpAnyH_takeAt (i := 4) (v := .slice (some ⟨pb, ob, none⟩) n c') 20 rfl rfl (by kernel_rfl) (by kernel_rfl) (by kernel_rfl) (fun _ _ _ h => h) (Or.inl ⟨by rfl, ?_⟩) hHeld ?_
        · intro W hW
          try dsimp only at hW
          go_simp
        simp only [Act.put, List.setIfInBounds_toArray, List.set_cons_succ, List.set_cons_zero]
        refine wpAnyH_takeAt (i := 5) (v := .int .i64 (j : Int)) 21 rfl rfl (by kernel_rfl) (by kernel_rfl) (by kernel_rfl) (fun _ _ _ h => h) (Or.inl ⟨by rfl, ?_⟩) hHeld ?_
        · intro W hW
          try dsimp only at hW
          go_simp
        simp only [Act.put, List.setIfInBounds_toArray, List.set_cons_succ, List.set_cons_zero]
        refine wpAnyH_takeAt (i := 6) (v := .pointer (some ⟨pb, ob + j * 32, none⟩)) 22 rfl rfl (by kernel_rfl) (by kernel_rfl) (by kernel_rfl) (fun _ _ _ h => h) (Or.inl ⟨by rfl, ?_⟩) hHeld ?_
        · intro W hW
          try dsimp only at hW
          go_simp
        simp only [Act.put, List.setIfInBounds_toArray, List.set_cons_succ, List.set_cons_zero]
        refine wpAnyH_takeAt (i := 7) (v := .agg (digF g).toList.toArray) 23 rfl rfl (by kernel_rfl) (by kernel_rfl) (by kernel_rfl) (fun _ _ _ h => h) (yieldsIf_load_mid (by rfl) 24 _ rfl pb (ob + j * 32) rfl (digF g).toList _ (fun W hW => hW.2) Tryz.underlying24 rfl HI2.out) hHeld ?_
        simp only [Act.put, List.setIfInBounds_toArray, List.set_cons_succ, List.set_cons_zero]
        refine wpAnyH_takeAt (i := 8) (v := .bool (!same f g)) 24 rfl rfl (by kernel_rfl) (by kernel_rfl) (by kernel_rfl) (fun _ _ _ h => h) (Or.inl ⟨by rfl, ?_⟩) hHeld ?_
        · intro W hW
          try dsimp only at hW
          go_simp
        simp only [Act.put, List.setIfInBounds_toArray, List.set_cons_succ, List.set_cons_zero]
        refine wpAnyH_done (by kernel_rfl) ?_ _
        refine NoPanic.normal ?_
        -- DNAH
        clear hHeld E
        cases hs : same f g with
        | true =>
          have HE2 := Lib.hid (HFT.out.1 hs)
          clear hs HFT
          go_wp2_with (fail)
          exact ⟨⟨j + 1, _, rfl, HJ.out, HE2.out, rfl⟩, mfLess j n hlt⟩
        | false =>
          have HN := Lib.hid (HFT.out.2 hs)
          clear hs HFT
          go_wp2_with (fail)
          refine bodyPost_ret (results_tmp rfl _ _ _) rfl ?_
          rw [HN.out]
          exact ⟨rfl, _, World.drewN_drewN ..⟩
      · have hke : j = n := by omega
        have x0 : ¬ (j : Int) < (n : Int) := by omega
        have x1 : decide ((j : Int) < (n : Int)) = false := decide_eq_false x0
        have HN := Lib.hid (show sameL L M = true from sameL_yes HL.out fun i hi => HE.out i (by have := HZ.out; omega))
        go_wp2_with (fail)
        refine bodyPost_ret (results_tmp rfl _ _ _) rfl ?_
        rw [HN.out]
        exact ⟨rfl, d, rfl⟩
  · have HN := Lib.hid (show sameL L M = false from sameL_len fun e => hnm (by rw [← HZ.out, ← HU.out, e]))
    have t1 : ((n : Int) == (m : Int)) = false := beq_eq_false_iff_ne.2 (by omega)
    clear hnm
    go_enter Tryz.func36, Tryz.ntmps36
    go_wp2_with (fail)
    refine bodyPost_ret (results_tmp rfl _ _ _) rfl ?_
    rw [HN.out]
    exact ⟨rfl, 0, rfl⟩
end Go.Proofs.YtlechjpaldpgnaaGreatDoor
namespace Go.Proofs.YtlechjpaldpgnaaGreatDoor
open Go.ChangeShapes Go.WideShapes Go.ChangeAt Go.RowKit Sh Pn Mf

theorem wpList_load_mid_g {P : Program} {ops : Array Oper} {rest : List Oper} {op : Oper} {a : Act} {w : World} {Q : Exit → Act → World → Prop} (hw : Region.wanted op (yielded ops a.tmps) = true) (ty : TypeId) (x : Operand) (ho : op.op = .load ty x)
    (b o : Nat) (hx : a.eval x = .pointer (some ⟨b, o, none⟩)) (cs : List Value) (d : TypeDesc) (hc : w.rangeAt b o cs)
    (hu : P.underlying ty = some d) (hd : d.isRow = true) (hi : (P.info? ty).map (·.size) = some cs.length)
    (h : wpList P ops Q rest (a.put op.dst (.agg cs.toArray)) w) : wpList P ops Q (op :: rest) a w :=
  wpList_step fun K hK => by simp only [hw, if_true]; exact wp_load_mid ty x ho b o hx cs d hc hu hd hi (hK _ _ h)
namespace Mf
def sameM (m n : Man) : Bool := (m.b == n.b) && (m.v == n.v) && (m.s == n.s) && (m.c == n.c) && same m.res n.res && sameL m.sums n.sums
theorem first_no (b1 b2 b3 b4 b5 : Bool) : b1 = false ∨ (b1 = true ∧ b2 = false) ∨ (b1 = true ∧ b2 = true ∧ b3 = false) ∨ (b1 = true ∧ b2 = true ∧ b3 = true ∧ b4 = false) ∨ (b1 = true ∧ b2 = true ∧ b3 = true ∧ b4 = true ∧ b5 = false) ∨ (b1 = true ∧ b2 = true ∧ b3 = true ∧ b4 = true ∧ b5 = true) := by
  cases b1 <;> cases b2 <;> cases b3 <;> cases b4 <;> cases b5 <;> simp
end Mf
set_option maxRecDepth 100000 in
set_option maxHeartbeats 3200000 in
theorem mf_same (w : World) (m : Man) (A : Option Addr) (k : Nat) (n : Man) (B : Option Addr) (q : Nat) (hA : SIn w A k m.sums) (hB : SIn w B q n.sums) (hm : m.sums.length ≤ 1000000) :
    Calls Tryz.prog 10 #[.agg (manA m A k), .agg (manA n B q)] w fun e w' => e = .returned (.bool (sameM m n)) ∧ Below w.heap.size w w' := by
  have h1 := (at_new w 26 m A k).keep ((Below.refl _ _).alloc (Nat.le_refl _) (.cells (manA n B q) 26))
  have h2 := at_new (w.alloc (.cells (manA m A k) 26)) 26 n B q
  have hb := ((Below.refl w.heap.size w).alloc (Nat.le_refl _) (.cells (manA m A k) 26)).alloc (by simp) (.cells (manA n B q) 26)
  rw [show (w.alloc (.cells (manA m A k) 26)).heap.size = w.heap.size + 1 by simp] at h2
  have HB := Lib.hid hb
  have HA1 := Lib.hid h1
  have HA2 := Lib.hid h2
  have HEQ := Lib.hid (fun (W : World) (hW : Below w.heap.size w W) => equal_digs W A m.sums.length k B n.sums.length q m.sums n.sums rfl rfl hm (hA.keep hW) (hB.keep hW))
  have p0 := h1.base
  have p1 := h1.ver
  have p2 := h1.size
  have p3 := h1.chunk
  have p4 := h1.sums
  have q0 := h2.base
  have q1 := h2.ver
  have q2 := h2.size
  have q3 := h2.chunk
  have q4 := h2.sums
  have E : ∀ W, (binOp .eql 24 (.agg (digF m.res)) (.agg (digF n.res))).run Tryz.prog W = .ok (.bool (same m.res n.res)) W := fun W => run_eql_dig _ _ W
  have HI1 := Lib.hid (show (Tryz.prog.info? 24).map (·.size) = some (digF m.res).toList.length by rw [Array.length_toList]; exact hiDigF _)
  have HI2 := Lib.hid (show (Tryz.prog.info? 24).map (·.size) = some (digF n.res).toList.length by rw [Array.length_toList]; exact hiDigF _)
  have HM := Lib.hid (show sameM m n = ((m.b == n.b) && (m.v == n.v) && (m.s == n.s) && (m.c == n.c) && same m.res n.res && sameL m.sums n.sums) from rfl)
  generalize sameL m.sums n.sums = z at HEQ HM
  clear h1 h2 hb hA hB hm
  rcases first_no (m.b == n.b) (m.v == n.v) (m.s == n.s) (m.c == n.c) (same m.res n.res) with t1 | ⟨t1, t2⟩ | ⟨t1, t2, t3⟩ | ⟨t1, t2, t3, t4⟩ | ⟨t1, t2, t3, t4, t5⟩ | ⟨t1, t2, t3, t4, t5⟩
  case inr.inr.inr.inr.inr =>
    have HR := Lib.hid (show sameM m n = z by rw [HM.out, t1, t2, t3, t4, t5]; rfl)
    rw [t5] at E
    go_enter Tryz.func10, Tryz.ntmps10
    go_wp2_with (first
      | (refine wpList_load_mid_g (by rfl) 24 _ rfl w.heap.size 5 rfl (digF m.res).toList _ HA1.out.res Tryz.underlying24 rfl HI1.out ?_)
      | (refine wpList_load_mid_g (by rfl) 24 _ rfl (w.heap.size + 1) 5 rfl (digF n.res).toList _ HA2.out.res Tryz.underlying24 rfl HI2.out ?_))
    refine (HEQ.out _ HB.out).mono ?_
    rintro e w1 ⟨rfl, k1, rfl⟩
    have HB1 := Lib.hid (below_drewN HB.out k1)
    go_wp2_with (fail)
    refine bodyPost_ret (results_tmp rfl _ _ _) rfl ?_
    rw [HR.out]
    exact ⟨rfl, HB1.out⟩
  all_goals
    have HR := Lib.hid (show sameM m n = false by rw [HM.out, t1]; first | rfl | (rw [t2]; rfl) | (rw [t2, t3]; rfl) | (rw [t2, t3, t4]; rfl) | (rw [t2, t3, t4, t5]; rfl))
    try rw [t5] at E
    go_enter Tryz.func10, Tryz.ntmps10
    go_wp2_with (first
      | (refine wpList_load_mid_g (by rfl) 24 _ rfl w.heap.size 5 rfl (digF m.res).toList _ HA1.out.res Tryz.underlying24 rfl HI1.out ?_)
      | (refine wpList_load_mid_g (by rfl) 24 _ rfl (w.heap.size + 1) 5 rfl (digF n.res).toList _ HA2.out.res Tryz.underlying24 rfl HI2.out ?_))
    refine bodyPost_ret (results_tmp rfl _ _ _) rfl ?_
    rw [HR.out]
    exact ⟨rfl, HB.out⟩
end Go.Proofs.YtlechjpaldpgnaaGreatDoor
namespace Go.Proofs.YtlechjpaldpgnaaGreatDoor
open Go.ChangeShapes Go.WideShapes Go.ChangeAt Go.RowKit Sh Pn Mf Cf

namespace Mf
/-- What is left behind k sums, and whether something was wrong. -/
def rD (r : ByteArray) : Nat → ByteArray
  | 0 => r
  | k + 1 => tkRest (rD r k) 32
def bD (r : ByteArray) (bad : Bool) : Nat → Bool
  | 0 => bad
  | k + 1 => tkBad (rD r k) (bD r bad k) 32
def sD (r : ByteArray) (k : Nat) : Nat → UInt8 := dgOut (rD r k)
def sumsD (r : ByteArray) (k : Nat) : List (Nat → UInt8) := (List.range k).map (sD r)
theorem sumsD_next (r : ByteArray) (k : Nat) : sumsD r (k + 1) = sumsD r k ++ [sD r k] := by unfold sumsD; rw [List.range_succ, List.map_append]; rfl
theorem sumsD_length (r : ByteArray) (k : Nat) : (sumsD r k).length = k := by simp [sumsD]
/-- The numbers, the rest, what is read. -/
def headT (s : ByteArray) : Man := ⟨vsT limM s 0, vsT limM s 1, vsT limM s 2, vsT limM s 3, [], fun _ => 0⟩
def needT (s : ByteArray) : Nat := needM (headT s)
def readT (s : ByteArray) : Man := { headT s with sums := sumsD (rsT limM s 4) (needT s), res := sD (rsT limM s 4) (needT s) }
def rootT (s : ByteArray) : Nat → UInt8 := sD (rsT limM s 4) (needT s + 1)
def endT (s : ByteArray) : Int := endOf (rD (rsT limM s 4) (needT s + 2)) (bD (rsT limM s 4) (bsT limM s 4) (needT s + 2))
/-- What Parse answers. -/
def parM (s : ByteArray) : Man × Int := if 0 < needT s ∧ endT s = 0 then (if same (rootT s) (rootF (readT s).sums) = true then (readT s, 0) else (zeroM, 6)) else (zeroM, 5)
theorem need_most (m : Man) : needM m ≤ 64 := by
  unfold needM needN
  split
  · rename_i h
    exact (headB_iff.1 h).2.2.2.2.2.2.2.2.2
  · omega
theorem count_read (s : ByteArray) : countM (readT s) = needT s := by
  rw [countM_need]
  have h : needM (readT s) = needT s := rfl
  rw [h, show (readT s).sums.length = needT s from sumsD_length _ _, if_pos rfl]
/-- A reader on its way: k sums are read. -/
structure Reads (t e : TypeId) (w : World) (eb mb base : Nat) (r : ByteArray) (bad : Bool) (m : Man) (j k : Nat) (A : Option Addr) (c : Nat) (W : World) : Prop where
  eye : EyeAt W eb (rD r j) (bD r bad j)
  out : At W w.heap.size t zeroM none 0
  grow : Grow base mb t e { m with sums := sumsD r k } A c W
  below : Below w.heap.size w W
  l0 : w.heap.size < eb
  l1 : eb < mb
section
variable {t e : TypeId} {w W W' : World} {eb mb base : Nat} {r : ByteArray} {bad : Bool} {m : Man} {j k : Nat} {A : Option Addr} {c : Nat}
theorem Reads.step (h : Reads t e w eb mb base r bad m j k A c W) (hb : Below W.heap.size W W') : Reads t e w eb mb base r bad m j k A c W' :=
  ⟨h.eye.of_block (hb.block _ h.eye.lt), h.out.keep hb, h.grow.below hb, h.below.trans (hb.mono h.below.size), h.l0, h.l1⟩
theorem Reads.read (h : Reads t e w eb mb base r bad m j k A c W) (he : EyeAt W' eb (tkRest (rD r j) 32) (tkBad (rD r j) (bD r bad j) 32)) (ho : Only W W' eb) : Reads t e w eb mb base r bad m (j + 1) k A c W' := by
  have h0 := h.l0
  have h1 := h.l1
  have h2 := h.grow.lt
  exact ⟨he, h.out.of_block (ho.block _ h.out.lt (by omega)), h.grow.only ho (by omega) (by omega), h.below.trans (ho.below (by omega) h.below.size), h0, h1⟩
theorem Reads.added (h : Reads t e w eb mb base r bad m (k + 1) k A c W) {wz : World} {g cap : Nat} (hg : Grow base mb t e { m with sums := sumsD r k ++ [sD r k] } (some ⟨g, 0, none⟩) cap (wz.setCell ⟨mb, 4, none⟩ (.slice (some ⟨g, 0, none⟩) (k + 1) cap))) (hb : Below base W wz) :
    Reads t e w eb mb base r bad m (k + 1) (k + 1) (some ⟨g, 0, none⟩) cap (wz.setCell ⟨mb, 4, none⟩ (.slice (some ⟨g, 0, none⟩) (k + 1) cap)) := by
  have h0 := h.l0
  have h1 := h.l1
  have h2 := h.grow.lt
  rw [← sumsD_next] at hg
  refine ⟨h.eye.of_block ((heap_setCell_other _ _ _ _ (by show eb ≠ mb; omega)).trans (hb.block _ (by omega))), h.out.of_block ((heap_setCell_other _ _ _ _ (by show w.heap.size ≠ mb; omega)).trans (hb.block _ (by omega))), hg, ?_, h0, h1⟩
  exact (h.below.trans (hb.mono (by omega))).setCell (p := ⟨mb, 4, none⟩) (by show w.heap.size ≤ mb; omega) _
theorem Reads.res (h : Reads t e w eb mb base r bad m j k A c W) (f : Nat → UInt8) : Reads t e w eb mb base r bad { m with res := f } j k A c (W.setCells mb 5 (digF f).toList) := by
  have h0 := h.l0
  have h1 := h.l1
  refine ⟨h.eye.of_block (setCells_other (by omega) _ _ _), h.out.of_block (setCells_other (by omega) _ _ _), ⟨h.grow.at_.setRes f, ?_, h.grow.lt, by rw [setCells_size]; exact h.grow.low⟩, setCells_below (by omega) _ _ _ h.below, h0, h1⟩
  exact own_only h.grow.row (setCells_only (.inl rfl) _ _ _ (Only.refl W mb)) h.grow.lt
theorem Reads.sinOut (h : Reads t e w eb mb base r bad m j k A c W) (cs : Array Value) : SIn (W.setRow w.heap.size cs) A c (sumsD r k) := by
  have h0 := h.l0
  have h1 := h.l1
  have h2 := h.grow.lt
  exact (h.grow.only ((Only.refl W w.heap.size).setRow (.inl rfl) cs) (by omega) (by omega)).sin
end
end Mf
theorem mf_res_tmp {P : Program} {fn : Func} {p u : Tmp} {ty : TypeId} (h : fn.results = #[.cell p ty, .tmp u]) (tmps : Array Value) (w : World) (g : Nat) (t : TypeId) (cs : Array Value) (fr : Nat × Nat) (d : TypeDesc)
    (hp : tmps.getD p undef = .pointer (some ⟨g, 0, none⟩)) (hg : w.heap[g]? = some (.cells cs t fr))
    (hu : P.underlying ty = some d) (hd : (match d with | .struct _ | .array _ _ => true | _ => false) = true) (hi : (P.info? ty).map (·.size) = some cs.size) :
    (results fn tmps).run P w = .ok (.tuple #[.agg cs, tmps.getD u undef]) w := by
  rw [results_cell_tmp h, hp]
  simp [asAddr, run_loadVar_row w g t ty cs fr d hg hu hd hi]
theorem zeroMan : Tryz.prog.built 26 [] = some (manA zeroM none 0) := by kernel_rfl
end Go.Proofs.YtlechjpaldpgnaaGreatDoor
namespace Go.Proofs.YtlechjpaldpgnaaGreatDoor
open Go Go.RowKit Sh Pn Mf Cf

namespace Mf
def freeM (_ : Nat) : Int := 2147483647
theorem freeM_ok {r : ByteArray} {m : Int} (h : nmOk r m = true) (hm : m ≤ 2147483647) (i : Nat) : nmOk r (freeM i) = true := by
  unfold nmOk at h
  simp only [Bool.and_eq_true, decide_eq_true_iff] at h
  exact nm_ok h.1 (by unfold freeM; omega)
theorem limM_most (i : Nat) : limM i ≤ 2147483647 := by
  unfold limM
  split <;> omega
theorem step_alikeM {t : ByteArray} {i : Nat} (hr : rsT limM t i = rsT freeM t i) (hb : bsT limM t i = bsT freeM t i) (h1 : nmOk (rsT freeM t i) (limM i) = true) :
    vsT limM t i = vsT freeM t i ∧ rsT limM t (i + 1) = rsT freeM t (i + 1) ∧ bsT limM t (i + 1) = bsT freeM t (i + 1) := by
  have h2 := freeM_ok h1 (limM_most i) i
  have h3 : nmOk (rsT limM t i) (limM i) = true := by rw [hr]; exact h1
  refine ⟨?_, ?_, ?_⟩
  · unfold vsT
    rw [nm_out_yes h3, nm_out_yes h2, hr]
  · show nmRest (rsT limM t i) (limM i) = nmRest (rsT freeM t i) (freeM i)
    rw [nm_rest_yes h3, nm_rest_yes h2, hr]
  · show nmBad (rsT limM t i) (bsT limM t i) (limM i) = nmBad (rsT freeM t i) (bsT freeM t i) (freeM i)
    rw [nm_bad_yes _ h3, nm_bad_yes _ h2, hb]
theorem four_alike {t : ByteArray} (h : ∀ i, i < 4 → rsT limM t i = rsT freeM t i → nmOk (rsT freeM t i) (limM i) = true) :
    ∀ i, i ≤ 4 → rsT limM t i = rsT freeM t i ∧ bsT limM t i = bsT freeM t i ∧ (∀ j, j < i → vsT limM t j = vsT freeM t j)
  | 0, _ => ⟨rfl, rfl, fun j hj => by omega⟩
  | i + 1, hi => by
    obtain ⟨a, b, c⟩ := four_alike h i (by omega)
    obtain ⟨d, e, f⟩ := step_alikeM a b (h i (by omega) a)
    exact ⟨e, f, fun j hj => by
      by_cases hji : j = i
      · rw [hji]; exact d
      · exact c j (by omega)⟩
def headV (m : Nat → Int) (t : ByteArray) : Bool := headB (vsT m t 0) (vsT m t 1) (vsT m t 2) (vsT m t 3)
def okF (t : ByteArray) : Bool := !bsT freeM t 4 && headV freeM t
theorem headV_in {m : Nat → Int} {t : ByteArray} (h : headV m t = true) (i : Nat) (hi : i < 4) : 1 ≤ vsT m t i ∧ (vsT m t i : Int) ≤ limM i := by
  have := headB_iff.1 h
  rcases (show i = 0 ∨ i = 1 ∨ i = 2 ∨ i = 3 by omega) with rfl | rfl | rfl | rfl <;> (simp only [limM]; omega)
theorem key_lim {t : ByteArray} (h : headV limM t = true) (i : Nat) (hi : i < 4) (he : rsT limM t i = rsT freeM t i) : nmOk (rsT freeM t i) (limM i) = true := by
  have := low_ok (headV_in h i hi).1
  rwa [he] at this
theorem key_free {t : ByteArray} (h : okF t = true) (i : Nat) (hi : i < 4) : nmOk (rsT freeM t i) (limM i) = true := by
  unfold okF at h
  rw [Bool.and_eq_true, Bool.not_eq_true'] at h
  have hb : bsT freeM t (i + 1) = false := bad_stays (i + 1) (4 - (i + 1)) (by rw [show i + 1 + (4 - (i + 1)) = 4 by omega]; exact h.1)
  have hb' : nmBad (rsT freeM t i) (bsT freeM t i) (freeM i) = false := hb
  have ho : nmOk (rsT freeM t i) (freeM i) = true := by
    unfold nmBad at hb'
    have := (Bool.or_eq_false_iff.1 hb').2
    simpa using this
  have hl := (headV_in h.2 i hi).2
  unfold vsT at hl
  rw [nm_out_yes ho] at hl
  unfold nmOk at ho
  simp only [Bool.and_eq_true, decide_eq_true_iff] at ho
  exact nm_ok ho.1 hl
theorem alike_all {t : ByteArray} (h : headV limM t = true ∨ okF t = true) : rsT limM t 4 = rsT freeM t 4 ∧ bsT limM t 4 = bsT freeM t 4 ∧ (∀ j, j < 4 → vsT limM t j = vsT freeM t j) :=
  four_alike (fun i hi he => by
    rcases h with h | h
    · exact key_lim h i hi he
    · exact key_free h i hi) 4 (Nat.le_refl _)
theorem bad_lim {t : ByteArray} (h : headV limM t = true) : ∀ i, i ≤ 4 → bsT limM t i = false
  | 0, _ => rfl
  | i + 1, hi => by
    show nmBad (rsT limM t i) (bsT limM t i) (limM i) = false
    rw [nm_bad_yes _ (low_ok (headV_in h i (by omega)).1)]
    exact bad_lim h i (by omega)
theorem ok_same (t : ByteArray) : okF t = headV limM t := by
  have hv : (∀ j, j < 4 → vsT limM t j = vsT freeM t j) → headV limM t = headV freeM t := fun h => by
    unfold headV
    rw [h 0 (by omega), h 1 (by omega), h 2 (by omega), h 3 (by omega)]
  cases h1 : headV limM t with
  | true =>
    obtain ⟨_, b, c⟩ := alike_all (.inl h1)
    unfold okF
    rw [← hv c, h1, ← b, bad_lim h1 4 (Nat.le_refl _)]
    rfl
  | false =>
    cases h2 : okF t with
    | false => rfl
    | true =>
      obtain ⟨_, _, c⟩ := alike_all (.inr h2)
      unfold okF at h2
      rw [← hv c, h1, Bool.and_false] at h2
      cases h2
theorem need_head_V (t : ByteArray) : needT t = if headV limM t = true then cntN (vsT limM t 2) (vsT limM t 3) else 0 := by
  show needN (vsT limM t 0) (vsT limM t 1) (vsT limM t 2) (vsT limM t 3) = _
  unfold needN headV
  simp only [Int.toNat_natCast]
theorem need_pos (t : ByteArray) : 0 < needT t ↔ headV limM t = true := by
  rw [need_head_V]
  by_cases h : headV limM t = true
  · rw [if_pos h]
    have := headB_iff.1 h
    have h1 := cntN_pos (s := vsT limM t 2) (c := vsT limM t 3) (by omega) (by omega)
    exact ⟨fun _ => h, fun _ => h1⟩
  · rw [if_neg h]
    exact ⟨fun h' => absurd h' (Nat.lt_irrefl 0), fun h' => absurd h' h⟩
/-! The sums of what is left. -/
theorem rD_list (r : ByteArray) : ∀ k, (32 * k ≤ r.size → bD r false k = false ∧ (rD r k).data.toList = r.data.toList.drop (32 * k)) ∧ (r.size < 32 * k → bD r false k = true)
  | 0 => ⟨fun _ => ⟨rfl, by simp [rD]⟩, fun h => by omega⟩
  | k + 1 => by
    obtain ⟨h1, h2⟩ := rD_list r k
    have hz : r.data.toList.length = r.size := rfl
    have sz : 32 * k ≤ r.size → (rD r k).size = r.size - 32 * k := fun h => by
      have h3 := congrArg List.length (h1 h).2
      rw [List.length_drop, hz] at h3
      exact h3
    constructor
    · intro h
      have h3 := sz (by omega)
      obtain ⟨h4, h5⟩ := h1 (by omega)
      constructor
      · show tkBad (rD r k) (bD r false k) 32 = false
        rw [tk_bad_yes _ (by omega), h4]
      · show (tkRest (rD r k) 32).data.toList = _
        rw [tk_rest_yes (by omega), ByteArray.data_extract, Array.toList_extract, List.extract_eq_take_drop, List.take_of_length_le (by rw [List.length_drop]; exact Nat.le_refl _), h5, List.drop_drop]
        congr 1
    · intro h
      show tkBad (rD r k) (bD r false k) 32 = true
      by_cases h3 : 32 * k ≤ r.size
      · exact tk_bad_no _ (by rw [sz h3]; omega)
      · unfold tkBad
        rw [h2 (by omega)]
        rfl
theorem end_iff (r : ByteArray) (k : Nat) : endOf (rD r k) (bD r false k) = 0 ↔ r.size = 32 * k := by
  obtain ⟨h1, h2⟩ := rD_list r k
  have hz : r.data.toList.length = r.size := rfl
  by_cases h : 32 * k ≤ r.size
  · obtain ⟨h3, h4⟩ := h1 h
    have h5 : (rD r k).size = r.size - 32 * k := by
      have := congrArg List.length h4
      rw [List.length_drop, hz] at this
      exact this
    unfold endOf
    rw [h3, h5]
    by_cases h6 : 0 < r.size - 32 * k
    · rw [if_pos h6]
      exact ⟨fun h => absurd h (by decide), fun h => by omega⟩
    · rw [if_neg h6]
      exact ⟨fun _ => by omega, fun _ => rfl⟩
  · have h3 := h2 (by omega)
    unfold endOf
    rw [h3]
    constructor
    · intro h4
      split at h4
      · cases h4
      · cases h4
    · intro h4
      omega
theorem sD_list (r : ByteArray) (k : Nat) (h : 32 * (k + 1) ≤ r.size) : digL (sD r k) = (r.data.toList.drop (32 * k)).take 32 := by
  obtain ⟨_, h2⟩ := (rD_list r k).1 (by omega)
  have hz : r.data.toList.length = r.size := rfl
  have h5 : (rD r k).data.toList.length = r.size - 32 * k := by rw [h2, List.length_drop, hz]
  have hg : ∀ i, i < 32 → (sD r k i) = (r.data.toList.drop (32 * k)).getD i 0 := fun i hi => by
    unfold sD dgOut
    have hsz : (rD r k).size = (rD r k).data.toList.length := rfl
    rw [if_pos (show 32 ≤ (rD r k).size by omega)]
    unfold byAt
    rw [h2]
  have hl : 32 ≤ (r.data.toList.drop (32 * k)).length := by rw [List.length_drop, hz]; omega
  generalize r.data.toList.drop (32 * k) = l at hg hl
  apply List.ext_getElem?
  intro i
  unfold digL
  by_cases hi : i < 32
  · rw [List.getElem?_map, List.getElem?_range hi, List.getElem?_take, if_pos hi, Option.map_some, hg i hi, List.getD_eq_getElem?_getD, List.getElem?_eq_getElem (show i < l.length by omega)]
    rfl
  · rw [List.getElem?_eq_none (by simp; omega), List.getElem?_eq_none (by rw [List.length_take]; omega)]
theorem sums_list (r : ByteArray) : ∀ k, 32 * k ≤ r.size → sumsL (sumsD r k) = r.data.toList.take (32 * k)
  | 0, _ => by rw [Nat.mul_zero, List.take_zero]; rfl
  | k + 1, h => by
    have h1 : sumsL (sumsD r k ++ [sD r k]) = sumsL (sumsD r k) ++ digL (sD r k) := by unfold sumsL; rw [List.flatMap_append]; simp
    rw [sumsD_next, h1, sums_list r k (by omega), sD_list r k h, show 32 * (k + 1) = 32 * k + 32 by omega, List.take_add]
theorem rest_list {r : ByteArray} {n : Nat} (h : r.size = 32 * (n + 2)) : r.data.toList = sumsL (sumsD r n) ++ (digL (sD r n) ++ digL (sD r (n + 1))) := by
  have hz : r.data.toList.length = r.size := rfl
  rw [sums_list r n (by omega), sD_list r n (by omega), sD_list r (n + 1) (by omega), show 32 * (n + 1) = 32 * n + 32 by omega, ← List.drop_drop,
    List.take_of_length_le (l := (r.data.toList.drop (32 * n)).drop 32) (by rw [List.length_drop, List.length_drop, hz]; omega), List.take_append_drop, List.take_append_drop]
theorem num_list {r : ByteArray} {m : Int} (h : nmOk r m = true) : r.data.toList = numL (nmOut r m : Int) ++ (nmRest r m).data.toList := by
  have ho := h
  unfold nmOk at ho
  simp only [Bool.and_eq_true, decide_eq_true_iff] at ho
  have hz : r.data.toList.length = r.size := rfl
  rw [nm_out_yes h, nm_rest_yes h, ByteArray.data_extract, Array.toList_extract, List.extract_eq_take_drop, List.take_of_length_le (l := r.data.toList.drop 4) (by rw [List.length_drop]; exact Nat.le_refl _)]
  have hv : numV (le4 r : Int) = le4 r := by
    have h1 := numV_ok (n := (le4 r : Int)) (num_ok (by omega) (by have := le4_lt r; omega))
    omega
  have hb : ∀ j, j < 4 → numF (le4 r : Int) j = byAt r j := fun j hj => by
    apply UInt8.toNat_inj.1
    unfold numF
    rw [hv, UInt8.toNat_ofNat']
    unfold le4
    have b0 := (byAt r 0).toNat_lt
    have b1 := (byAt r 1).toNat_lt
    have b2 := (byAt r 2).toNat_lt
    have b3 := (byAt r 3).toNat_lt
    rcases (show j = 0 ∨ j = 1 ∨ j = 2 ∨ j = 3 by omega) with rfl | rfl | rfl | rfl <;> (simp only [Nat.pow_zero, Nat.pow_succ, Nat.one_mul]; omega)
  rw [numL_four, hb 0 (by omega), hb 1 (by omega), hb 2 (by omega), hb 3 (by omega)]
  have hl : ∀ j, j < 4 → r.data.toList[j]? = some (byAt r j) := fun j hj => by
    unfold byAt
    rw [List.getD_eq_getElem?_getD, List.getElem?_eq_getElem (by omega)]
    rfl
  generalize r.data.toList = l at hl hz
  match l, hz, hl with
  | a :: b :: c :: d :: t, _, hl =>
    have h0 := hl 0 (by omega)
    have h1 := hl 1 (by omega)
    have h2 := hl 2 (by omega)
    have h3 := hl 3 (by omega)
    simp at h0 h1 h2 h3
    simp [h0, h1, h2, h3]
  | [], hz, _ => simp at hz; omega
  | [_], hz, _ => simp at hz; omega
  | [_, _], hz, _ => simp at hz; omega
  | [_, _, _], hz, _ => simp at hz; omega
theorem head_list {t : ByteArray} (h : headV limM t = true) : t.data.toList = headL (headT t) ++ (rsT limM t 4).data.toList := by
  have ok := fun i hi => num_list (low_ok (headV_in h i hi).1)
  have h0 := ok 0 (by omega)
  have h1 := ok 1 (by omega)
  have h2 := ok 2 (by omega)
  have h3 := ok 3 (by omega)
  show (rsT limM t 0).data.toList = (numL _ ++ (numL _ ++ (numL _ ++ numL _))) ++ _
  rw [h0]
  show numL _ ++ (rsT limM t 1).data.toList = _
  rw [h1]
  show numL _ ++ (numL _ ++ (rsT limM t 2).data.toList) = _
  rw [h2]
  show numL _ ++ (numL _ ++ (numL _ ++ (rsT limM t 3).data.toList)) = _
  rw [h3]
  simp only [List.append_assoc]
  rfl
end Mf
end Go.Proofs.YtlechjpaldpgnaaGreatDoor
namespace Go.Proofs.YtlechjpaldpgnaaGreatDoor
open Go.ChangeShapes Go.WideShapes Go.ChangeAt Go.RowKit Sh Pn Mf

namespace Mf
theorem piece_extract (p : ByteArray) (c i : Nat) : (p.extract (i * c) (i * c + lenN p.size c i)).data.toList = pieceL p.data.toList c i := by
  have hl : p.data.toList.length = p.size := rfl
  rw [ByteArray.data_extract, Array.toList_extract, List.extract_eq_take_drop]
  unfold pieceL lenN
  rw [Nat.add_sub_cancel_left, ← hl, ← List.length_drop, List.take_eq_take_min (i := c)]
/-- The sums of a patch's chunks. -/
def sumsP (p : ByteArray) (c n : Nat) : List (Nat → UInt8) := (List.range n).map fun i => sumF (pieceL p.data.toList c i)
theorem sumsP_next (p : ByteArray) (c n : Nat) : sumsP p c (n + 1) = sumsP p c n ++ [sumF (pieceL p.data.toList c n)] := by unfold sumsP; rw [List.range_succ, List.map_append]; rfl
theorem sumsP_length (p : ByteArray) (c n : Nat) : (sumsP p c n).length = n := by simp [sumsP]
def headP (b v c : Int) (p : ByteArray) (f : Nat → UInt8) : Man := ⟨b, v, p.size, c, [], f⟩
/-- What Make answers. -/
def makM (b v c : Int) (p : ByteArray) (f : Nat → UInt8) : Man × Int :=
  if needM (headP b v c p f) = 0 then (zeroM, 1) else ({ headP b v c p f with sums := sumsP p c.toNat (needM (headP b v c p f)) }, 0)
theorem need_head {m : Man} (h : needM m ≠ 0) : headB m.b m.v m.s m.c = true ∧ needM m = cntN m.s.toNat m.c.toNat := by
  unfold needM needN at h ⊢
  split
  · rename_i h1
    exact ⟨h1, rfl⟩
  · rename_i h1
    rw [if_neg h1] at h
    exact absurd rfl h
/-- A manifest that is made: q sums are there. -/
structure Makes (t e : TypeId) (w : World) (mb base : Nat) (p : ByteArray) (cc : Nat) (m : Man) (q : Nat) (A : Option Addr) (c : Nat) (W : World) : Prop where
  out : At W (w.heap.size + 1) t zeroM none 0
  grow : Grow base mb t e { m with sums := sumsP p cc q } A c W
  below : Below w.heap.size w W
  l1 : w.heap.size + 1 < mb
section
variable {t e : TypeId} {w W W' : World} {mb base : Nat} {p : ByteArray} {cc : Nat} {m : Man} {q : Nat} {A : Option Addr} {c : Nat}
theorem Makes.step (h : Makes t e w mb base p cc m q A c W) (hb : Below W.heap.size W W') : Makes t e w mb base p cc m q A c W' :=
  ⟨h.out.keep hb, h.grow.below hb, h.below.trans (hb.mono h.below.size), h.l1⟩
theorem Makes.added (h : Makes t e w mb base p cc m q A c W) {wz : World} {g cap : Nat} (hg : Grow base mb t e { m with sums := sumsP p cc q ++ [sumF (pieceL p.data.toList cc q)] } (some ⟨g, 0, none⟩) cap (wz.setCell ⟨mb, 4, none⟩ (.slice (some ⟨g, 0, none⟩) (q + 1) cap))) (hb : Below base W wz) :
    Makes t e w mb base p cc m (q + 1) (some ⟨g, 0, none⟩) cap (wz.setCell ⟨mb, 4, none⟩ (.slice (some ⟨g, 0, none⟩) (q + 1) cap)) := by
  have h1 := h.l1
  have h2 := h.grow.lt
  rw [← sumsP_next] at hg
  refine ⟨h.out.of_block ((heap_setCell_other _ _ _ _ (by show w.heap.size + 1 ≠ mb; omega)).trans (hb.block _ (by omega))), hg, ?_, h1⟩
  exact (h.below.trans (hb.mono (by omega))).setCell (p := ⟨mb, 4, none⟩) (by show w.heap.size ≤ mb; omega) _
theorem Makes.sinOut (h : Makes t e w mb base p cc m q A c W) (cs : Array Value) : SIn (W.setRow (w.heap.size + 1) cs) A c (sumsP p cc q) := by
  have h1 := h.l1
  have h2 := h.grow.lt
  exact (h.grow.only ((Only.refl W (w.heap.size + 1)).setRow (.inl rfl) cs) (by omega) (by omega)).sin
end
end Mf
theorem oneStr (s : ByteArray) : Tryz.prog.builtSlice 9 1 [(0, .string s)] = some #[.string s] := by kernel_rfl
theorem headMan (b v s c : Int) (f : Nat → UInt8) : Tryz.prog.built 26 [(0, .int .i64 b), (1, .int .i64 v), (2, .int .i64 s), (3, .int .i64 c), (5, .agg (digF f))] = some (manA ⟨b, v, s, c, [], f⟩ none 0) := by kernel_rfl
set_option maxRecDepth 100000 in
set_option maxHeartbeats 6400000 in
theorem mf_make (w : World) (b v c : Int) (p : ByteArray) (f : Nat → UInt8) (hp : p.size ≤ 281474976710656) (hT : Tabs w) :
    Calls Tryz.prog 27 #[.int .i64 b, .int .i64 v, .int .i64 c, .string p, .agg (digF f)] w fun e w' => ∃ A k, e = .returned (.tuple #[.agg (manA (makM b v c p f).1 A k), .int .i64 (makM b v c p f).2]) ∧ SIn w' A k (makM b v c p f).1.sums ∧ Below w.heap.size w w' := by
  have HT := Lib.hid hT
  have HI := Lib.hid (fun m A k => manI m A k)
  have HO := Lib.hid (fun m A k => manA_one m A k)
  have HNE := Lib.hid (fun W => mf_needed W (headP b v c p f) none 0)
  have HN64 := Lib.hid (need_most (headP b v c p f))
  have HNH := Lib.hid (need_head (m := headP b v c p f))
  have HPM := Lib.hid (show makM b v c p f = if needM (headP b v c p f) = 0 then (zeroM, 1) else ({ headP b v c p f with sums := sumsP p c.toNat (needM (headP b v c p f)) }, 0) from rfl)
  have HHS := Lib.hid (show (headP b v c p f).sums = [] from rfl)
  have HS := Lib.hid (show (headP b v c p f).s = (p.size : Int) ∧ (headP b v c p f).c = c from ⟨rfl, rfl⟩)
  have HBU := Lib.hid (headMan b v p.size c f)
  rw [show (⟨b, v, p.size, c, [], f⟩ : Man) = headP b v c p f from rfl] at HBU
  have HP := Lib.hid hp
  generalize makM b v c p f = pm at *
  generalize headP b v c p f = h at *
  generalize needM h = n at *
  have hn64 := HN64.out
  clear hT hp
  go_enter Tryz.func27, Tryz.ntmps27
  go_upto_region 1 with (fail)
  refine gen_world (fun W => W.heap[w.heap.size]? = some (.cells (digF f) 24 (0, 0)) ∧ At W (w.heap.size + 1) 26 zeroM none 0 ∧ Below w.heap.size w W) ?_ ?_
  · refine ⟨(heap_alloc_old _ _ (by simp)).trans (heap_alloc_new w _), ⟨?_⟩, ((Below.refl _ _).alloc (Nat.le_refl _) _).alloc (by simp) _⟩
    have := heap_alloc_new (w.alloc (.cells (digF f) 24)) (.cells (manA zeroM none 0) 26)
    simp only [World.size_alloc] at this
    exact this
  rintro w1 ⟨x1, a1, b1⟩
  have X1 := Lib.hid x1
  have A1 := Lib.hid a1
  have B1 := Lib.hid b1
  have HNW := Lib.hid (show ∀ o, (w1.alloc o).heap[w1.heap.size]? = some o from fun o => heap_alloc_new w1 o)
  have HXW := Lib.hid (show ∀ c, ((w1.alloc (.cells c 26)).setRow w1.heap.size (manA h none 0)).heap[w1.heap.size]? = some (.cells (manA h none 0) 26 (0, 0)) from fun c => setRow_heap _ _ _ _ _ _ (heap_alloc_new w1 _))
  have HMK := Lib.hid (show ∀ cc, Makes 26 24 w w1.heap.size (w1.heap.size + 1) p c.toNat h 0 none 0 ((w1.alloc (.cells cc 26)).setRow w1.heap.size (manA h none 0)) from fun cc => by
    have hb : Below w1.heap.size w1 ((w1.alloc (.cells cc 26)).setRow w1.heap.size (manA h none 0)) := below_setRow' ((Below.refl _ _).alloc (Nat.le_refl _) _) (Nat.le_refl _) _
    have hs : ((w1.alloc (.cells cc 26)).setRow w1.heap.size (manA h none 0)).heap.size = w1.heap.size + 1 := by simp [World.setRow]
    refine ⟨A1.out.keep hb, ?_, B1.out.trans (hb.mono B1.out.size), A1.out.lt⟩
    have hh : { h with sums := sumsP p c.toNat 0 } = h := by
      cases h
      simp only at HHS
      rw [show sumsP p c.toNat 0 = [] from rfl]
      congr 1
      exact HHS.out.symm
    rw [hh]
    exact grow_new ⟨HXW.out cc⟩ HHS.out _ hs.symm)
  clear x1 a1 b1
  go_wp2_with (first
    | (with_reducible refine wpList_load_row rfl 24 _ rfl _ rfl 24 (digF f) (0, 0) _ X1.out Tryz.underlying24 rfl (hiDigF f) ?_)
    | (refine wpList_build_to rfl 26 #[(0, .tmp 17), (1, .tmp 18), (2, .tmp 20), (3, .tmp 21), (5, .tmp 22)] rfl [(0, .int .i64 b), (1, .int .i64 v), (2, .int .i64 p.size), (3, .int .i64 c), (5, .agg (digF f))] rfl _ HBU.out ?_)
    | (with_reducible refine wpList_store_row rfl 26 _ _ rfl _ (manA h none 0) rfl rfl 26 _ (HNW.out _) (HI.out h none 0) (by rw [manA_size]; kernel_rfl) (HO.out h none 0) ?_)
    | (with_reducible refine wpList_load_row rfl 26 _ rfl _ rfl 26 (manA h none 0) (0, 0) _ (HXW.out _) Tryz.underlying26 rfl (HI.out h none 0) ?_))
  refine mf_calls (fun W => Makes 26 24 w w1.heap.size (w1.heap.size + 1) p c.toNat h 0 none 0 W) (HMK.out _) ?_
  rintro w2 m2
  have M2 := Lib.hid m2
  clear m2 HNW HXW HMK X1 A1 B1
  generalize w1.heap.size = mb at *
  refine (HNE.out w2).mono ?_
  rintro e w3 ⟨rfl, b3⟩
  have M3 := Lib.hid (M2.out.step b3)
  clear b3 M2
  have HZB := Lib.hid (fun (W : World) (hb : Below w.heap.size w W) => below_setRow' hb (show w.heap.size ≤ w.heap.size + 1 by omega) (manA zeroM none 0))
  have HSZ := Lib.hid (fun W => show SIn W none 0 zeroM.sums from ⟨Nat.le_refl _, fun h0 => absurd h0 (Nat.lt_irrefl 0)⟩)
  by_cases hn0 : n = 0
  case pos =>
    have t1 : ((n : Int) == 0) = true := by rw [hn0]; rfl
    have t2 : (n == 0) = true := by rw [hn0]; rfl
    have HPM' := Lib.hid (show pm = (zeroM, 1) from HPM.out.trans (if_pos hn0))
    have HZ0 := Lib.hid M3.out.out.cells
    clear hn0
    go_wp2_with (first
      | (refine wpList_build_to rfl 26 #[] rfl [] rfl _ zeroMan ?_)
      | (with_reducible refine wpList_store_row rfl 26 _ _ rfl _ (manA zeroM none 0) rfl rfl 26 _ HZ0.out (HI.out zeroM none 0) rfl (HO.out zeroM none 0) ?_))
    refine bodyPost_ret (mf_res_tmp rfl _ _ _ 26 (manA zeroM none 0) (0, 0) _ rfl (setRow_heap _ _ _ _ _ _ HZ0.out) Tryz.underlying26 rfl (HI.out zeroM none 0)) rfl ?_
    rw [HPM'.out]
    exact ⟨none, 0, rfl, HSZ.out _, HZB.out _ M3.out.below⟩
  have t1 : ((n : Int) == 0) = false := beq_eq_false_iff_ne.2 (by omega)
  have t2 : (n == 0) = false := beq_eq_false_iff_ne.2 (by omega)
  have HPM' := Lib.hid (show pm = ({ h with sums := sumsP p c.toNat n }, 0) from HPM.out.trans (if_neg hn0))
  obtain ⟨hg, hcn⟩ := HNH.out hn0
  have hgi := headB_iff.1 hg
  have hs := HS.out
  rw [hs.1, hs.2] at hgi hcn
  obtain ⟨cc, hc⟩ : ∃ cc : Nat, c = (cc : Int) := ⟨c.toNat, by omega⟩
  subst hc
  simp only [Int.toNat_natCast] at *
  have HGI := Lib.hid (show p.size ≤ 4096 ∧ 1 ≤ cc ∧ cc ≤ 256 ∧ n = cntN p.size cc from ⟨by omega, by omega, by omega, hcn⟩)
  clear hg hcn hgi hs HNH HNE hn0
  go_wp2_with (fail)
  go_loopw [30] (fun i wr => ∃ (q : Nat) (A : Option Addr) (k : Nat), i = .int .i64 (q : Int) ∧ q ≤ n ∧ Makes 26 24 w mb (mb + 1) p cc h q A k wr) (fun i _ => match i with | .int _ q => n - q.toNat | _ => 0)
  case atStart => exact ⟨0, none, 0, rfl, Nat.zero_le _, M3.out⟩
  case round =>
    clear M3
    obtain ⟨q, A, k, rfl, hq, hr⟩ := hrel
    have HR := Lib.hid hr
    clear hr
    have HMC := Lib.hid HR.out.grow.at_.cells
    by_cases hlt : q < n
    · have x0 : (q : Int) < (n : Int) := by omega
      have x1 : decide ((q : Int) < (n : Int)) = true := decide_eq_true x0
      have x3 := IntWalk.wrap64_in ((q : Int) + 1) (by omega)
      obtain ⟨g1, g2, g3, g4⟩ := HGI.out
      have hic := (cntN_at (s := p.size) (c := cc) (i := q) g2).1 (by omega)
      have hl2 := lenN_within (s := p.size) (c := cc) (i := q) g2 (by omega)
      have HSP := Lib.hid (fun W => mf_span W { h with sums := sumsP p cc q } A k p.size cc q HS.out.1 HS.out.2 g1 g3 hic)
      have HPE := Lib.hid (piece_extract p cc q)
      have hcut := fun (W : World) => str_cut p (q * cc) (q * cc + lenN p.size cc q) ((q * cc : Nat) : Int) ((q * cc + lenN p.size cc q : Nat) : Int) rfl rfl (by omega) hl2 W
      have hpl : (pieceL p.data.toList cc q).length ≤ 4096 := by
        rw [pieceL_length]
        have hz : p.data.toList.length = p.size := rfl
        rw [hz]
        unfold lenN
        omega
      have HPL := Lib.hid hpl
      generalize q * cc + lenN p.size cc q = Z at *
      generalize q * cc = F at *
      generalize p.extract F Z = X at *
      clear g1 g2 g3 g4 hic hl2 hpl
      go_wp2_with (with_reducible refine wpList_load_row rfl 26 _ rfl _ rfl 26 (manA { h with sums := sumsP p cc q } A k) (0, 0) _ HMC.out Tryz.underlying26 rfl (HI.out _ A k) ?_)
      refine (HSP.out _).mono ?_
      rintro e w4 ⟨rfl, b4⟩
      have HR4 := Lib.hid (HR.out.step b4)
      clear b4 HR HMC HSP
      have R0 := Lib.hid (HR4.out.step (below_drewN (Below.refl w4.heap.size w4) 1))
      have HSL := Lib.hid (fun (W : World) (hh : Makes 26 24 w mb (mb + 1) p cc h q A k W) => show W.cell? ⟨mb, 4, none⟩ = some (.slice A q k) from by
        have := hh.grow.at_.sums
        simp only [sumsP_length] at this
        exact this)
      have k0 := HSL.out _ R0.out
      have HOF := Lib.hid (fun (W : World) (hW : Makes 26 24 w mb (mb + 1) p cc h q A k W) (g : Nat) (hg : W.cell? ⟨g, 0, none⟩ = some (.string X)) => show Calls Tryz.prog 62 #[.slice (some ⟨g, 0, none⟩) 1 1] W fun e w' => e = .returned (.agg (digF (sumF (pieceL p.data.toList cc q)))) ∧ Below W.heap.size W w' from
        of_here [X] (pieceL p.data.toList cc q) ((flat_one X).trans HPE.out) W (some ⟨g, 0, none⟩) 1 1 rfl (by omega) (fun _ => ⟨g, 0, rfl, fun j hj => by
          obtain rfl : j = 0 := by omega
          exact hg⟩) (HT.out.below hW.below).f (HT.out.below hW.below).k (by have := HPL.out; omega))
      have R1 := Lib.hid (R0.out.step ((Below.refl _ _).alloc (Nat.le_refl _) (.cells #[.string X] 9)))
      have HC1 := Lib.hid (show (w4.drew.alloc (.cells #[.string X] 9)).cell? ⟨w4.heap.size, 0, none⟩ = some (.string X) from by
        show (w4.drew.alloc (.cells #[.string X] 9)).cell? ⟨w4.drew.heap.size, 0, none⟩ = some (.string X)
        rw [cell_of_row _ _ _ _ _ _ (heap_alloc_new w4.drew _)]
        rfl)
      have k1 := HSL.out _ R1.out
      have HAD := Lib.hid (fun (W : World) (hh : Makes 26 24 w mb (mb + 1) p cc h q A k W) (wz : World) (g cap : Nat) hg hb => hh.added (wz := wz) (g := g) (cap := cap) hg hb)
      generalize sumF (pieceL p.data.toList cc q) = D at *
      go_wp2_with (fail)
      -- HANDV 0
      refine wp_region_noPanic ?_
      refine wp_region_heldV (S := (fun W : World => W.cell? ⟨mb, 4, none⟩ = some (.slice A q k))) 11 (by kernel_rfl) (by kernel_rfl) (by kernel_rfl) (by kernel_rfl) (by decide) k0 (fun hHeld => ?_)
      refine wpAnyV_take (i := 0) (v := .pointer (some ⟨mb, 4, none⟩)) 39 rfl rfl (by decide) (by kernel_rfl) (by kernel_rfl) (fun _ _ _ h => h) (Or.inl ⟨by rfl, ?_⟩) hHeld ?_
      · intro W hW
        try dsimp only at hW
        go_simp
      simp only [Act.put, List.setIfInBounds_toArray, List.set_cons_succ, List.set_cons_zero]
      refine wpAnyV_take (i := 1) (v := .slice A q k) 40 rfl rfl (by decide) (by kernel_rfl) (by kernel_rfl) (fun _ _ _ h => h) (Or.inl ⟨by rfl, ?_⟩) hHeld ?_
      · intro W hW
        try dsimp only at hW
        go_simp
      simp only [Act.put, List.setIfInBounds_toArray, List.set_cons_succ, List.set_cons_zero]
      refine wpAnyV_take (i := 2) (v := .string p) 41 rfl rfl (by decide) (by kernel_rfl) (by kernel_rfl) (fun _ _ _ h => h) (Or.inl ⟨by rfl, ?_⟩) hHeld ?_
      · intro W hW
        try dsimp only at hW
        go_simp
      simp only [Act.put, List.setIfInBounds_toArray, List.set_cons_succ, List.set_cons_zero]
      refine wpAnyV_take (i := 3) (v := .int .i64 (F : Int)) 42 rfl rfl (by decide) (by kernel_rfl) (by kernel_rfl) (fun _ _ _ h => h) (Or.inl ⟨by rfl, ?_⟩) hHeld ?_
      · intro W hW
        try dsimp only at hW
        go_simp
      simp only [Act.put, List.setIfInBounds_toArray, List.set_cons_succ, List.set_cons_zero]
      refine wpAnyV_take (i := 4) (v := .int .i64 (Z : Int)) 43 rfl rfl (by decide) (by kernel_rfl) (by kernel_rfl) (fun _ _ _ h => h) (Or.inl ⟨by rfl, ?_⟩) hHeld ?_
      · intro W hW
        try dsimp only at hW
        go_simp
      simp only [Act.put, List.setIfInBounds_toArray, List.set_cons_succ, List.set_cons_zero]
      refine wpAnyV_take (i := 5) (v := .string X) 44 rfl rfl (by decide) (by kernel_rfl) (by kernel_rfl) (fun _ _ _ h => h) (Or.inl ⟨by rfl, ?_⟩) hHeld ?_
      · intro W hW
        try dsimp only at hW
        go_simp
      simp only [Act.put, List.setIfInBounds_toArray, List.set_cons_succ, List.set_cons_zero]
      refine wpAnyV_one (i := 6) (by kernel_rfl) rfl (by decide) (fun K hK => ?_)
      refine step_buildTo (by rfl) 42 9 1 #[(0, .tmp 44)] (by rfl) Tryz.underlying42 #[.string X] (by rw [Array.toList_map]; exact oneStr _) ?_
      refine hK.out _ _ k1 (fun hHeld2 => ?_)
      clear hK K hHeld
      have hHeld := hHeld2
      clear hHeld2
      try simp only [Act.put, List.setIfInBounds_toArray]
      refine wpAnyV_one (i := 7) (by kernel_rfl) rfl (by decide) (fun K hK => ?_)
      go_simp
      refine (HOF.out _ R1.out _ HC1.out).mono ?_
      rintro e w5 ⟨rfl, b5⟩
      have R5 := Lib.hid (R1.out.step b5)
      clear b5
      refine hK.out _ _ (HSL.out _ R5.out) (fun hHeld2 => ?_)
      clear hK K hHeld
      have hHeld := hHeld2
      clear hHeld2
      try simp only [Act.put, List.setIfInBounds_toArray, List.set_cons_succ, List.set_cons_zero]
      refine wpAnyV_one (i := 8) (by kernel_rfl) rfl (by decide) (fun K hK => ?_)
      refine step_buildTo (by rfl) 22 24 1 #[(0, .tmp 46)] (by rfl) Tryz.underlying22 (digF D) (by rw [Array.toList_map]; exact dgOneS _) ?_
      refine hK.out _ _ (HSL.out _ (R5.out.step ((Below.refl w5.heap.size w5).alloc (Nat.le_refl _) (.cells (digF D) 24)))) (fun hHeld2 => ?_)
      clear hK K hHeld
      have hHeld := hHeld2
      clear hHeld2
      try simp only [Act.put, List.setIfInBounds_toArray]
      refine wpAnyV_one (i := 9) (by kernel_rfl) rfl (by decide) (fun K hK => ?_)
      refine step_add (by rfl) (.tmp 40) (.tmp 47) 22 (by rfl) 24 Tryz.underlying22 infoD R5.out.grow D (by simp only [sumsP_length]; rfl) (by rfl) (by simp only [sumsP_length]; omega) ?_
      intro g cap wz hg hat hb7
      simp only [sumsP_length] at hg hat ⊢
      have R7 := Lib.hid (HAD.out _ R5.out _ _ _ hg hb7)
      have c7 := hat.sums
      simp only [sumsP_length] at c7
      have f7 := hat.fz 4
      clear hg hat hb7
      refine hK.out _ _ c7 (fun hHeld2 => ?_)
      clear hK K hHeld
      have hHeld := hHeld2
      clear hHeld2
      try simp only [Act.put]
      refine wpAnyV_take (i := 10) (v := .pointer (some ⟨mb, 4, none⟩)) 49 rfl rfl (by decide) (by kernel_rfl) (by kernel_rfl) (fun _ _ _ h => h) (Or.inl ⟨by rfl, ?_⟩) hHeld ?_
      · intro W hW
        try dsimp only at hW
        go_simp
      simp only [Act.put]
      refine wpAnyV_last (by kernel_rfl) rfl (by kernel_rfl) (fun K hK => ?_)
      go_simp
      refine hK.out _ _ ?_
      refine NoPanic.normal ?_
      -- VDNAH 0
      clear hHeld f7 c7 k0 k1 hcut
      go_wp2_with (fail)
      exact ⟨⟨q + 1, _, _, rfl, by omega, R7.out⟩, mfLess q n hlt⟩
    · obtain rfl : q = n := by omega
      have x0 : ¬ (q : Int) < (q : Int) := by omega
      have x1 : decide ((q : Int) < (q : Int)) = false := decide_eq_false x0
      have HZ1 := Lib.hid HR.out.out.cells
      have HSN := Lib.hid (HR.out.sinOut (manA { h with sums := sumsP p cc q } A k))
      go_wp2_with (first
        | (with_reducible refine wpList_load_row rfl 26 _ rfl _ rfl 26 (manA { h with sums := sumsP p cc q } A k) (0, 0) _ HMC.out Tryz.underlying26 rfl (HI.out _ A k) ?_)
        | (with_reducible refine wpList_store_row rfl 26 _ _ rfl _ (manA { h with sums := sumsP p cc q } A k) rfl rfl 26 _ HZ1.out (HI.out _ A k) (by rw [manA_size, manA_size]) (HO.out _ A k) ?_))
      refine bodyPost_ret (mf_res_tmp rfl _ _ _ 26 (manA { h with sums := sumsP p cc q } A k) (0, 0) _ rfl (setRow_heap _ _ _ _ _ _ HZ1.out) Tryz.underlying26 rfl (HI.out _ A k)) rfl ?_
      rw [HPM'.out]
      exact ⟨A, k, rfl, HSN.out, below_setRow' HR.out.below (by omega) _⟩
end Go.Proofs.YtlechjpaldpgnaaGreatDoor
namespace Go.Proofs.YtlechjpaldpgnaaGreatDoor
open Go Go.RowKit Sh Pn Mf Cf

namespace Mf
/-! Sums are alike where their 32 bytes are. -/
def cl (f : Nat → UInt8) : Nat → UInt8 := fun j => if j < 32 then f j else 0
theorem same_cl {f g : Nat → UInt8} : same f g = true ↔ cl f = cl g := by
  rw [same_iff]
  constructor
  · intro h
    funext j
    unfold cl
    split
    · exact h j (by assumption)
    · rfl
  · intro h j hj
    have := congrFun h j
    unfold cl at this
    rwa [if_pos hj, if_pos hj] at this
theorem pr_cl {f g f' g' : Nat → UInt8} (h1 : cl f = cl f') (h2 : cl g = cl g') : pr f g = pr f' g' := by
  have e1 : dig32 f = dig32 f' := by
    unfold dig32
    exact List.map_congr_left fun j hj => (same_iff f f').1 (same_cl.2 h1) j (List.mem_range.1 hj)
  have e2 : dig32 g = dig32 g' := by
    unfold dig32
    exact List.map_congr_left fun j hj => (same_iff g g').1 (same_cl.2 h2) j (List.mem_range.1 hj)
  unfold pr pairL
  rw [e1, e2]
theorem pairs_cl : ∀ (L M : List (Nat → UInt8)), L.map cl = M.map cl → (pairsD L).map cl = (pairsD M).map cl
  | [], [], _ => rfl
  | [f], [g], h => h
  | f :: g :: L, f' :: g' :: M, h => by
    simp only [List.map_cons, List.cons.injEq] at h
    simp only [pairsD, List.map_cons, List.cons.injEq]
    exact ⟨by rw [pr_cl h.1 h.2.1], pairs_cl L M h.2.2⟩
  | [], _ :: _, h => by simp at h
  | _ :: _, [], h => by simp at h
  | [_], _ :: _ :: _, h => by simp at h
  | _ :: _ :: _, [_], h => by simp at h
theorem head_cl {L M : List (Nat → UInt8)} (h : L.map cl = M.map cl) : cl (L.headD fun _ => 0) = cl (M.headD fun _ => 0) := by
  cases L with
  | nil => cases M with
    | nil => rfl
    | cons _ _ => simp at h
  | cons f L => cases M with
    | nil => simp at h
    | cons g M =>
      simp only [List.map_cons, List.cons.injEq] at h
      exact h.1
theorem treeF_cl : ∀ (k : Nat) (L M : List (Nat → UInt8)), L.map cl = M.map cl → cl (treeF k L) = cl (treeF k M)
  | 0, L, M, h => head_cl h
  | k + 1, L, M, h => by
    have hl : L.length = M.length := by simpa using congrArg List.length h
    simp only [treeF]
    by_cases h1 : L.length ≤ 1
    · rw [if_pos h1, if_pos (by omega)]
      exact head_cl h
    · rw [if_neg h1, if_neg (by omega)]
      exact treeF_cl k _ _ (pairs_cl L M h)
theorem rootF_cl {L M : List (Nat → UInt8)} (h : L.map cl = M.map cl) : cl (rootF L) = cl (rootF M) := by
  have hl : L.length = M.length := by simpa using congrArg List.length h
  unfold rootF
  rw [← hl]
  split
  · rfl
  · unfold treeD
    rw [← hl]
    exact treeF_cl _ _ _ h
theorem sameL_cl {L M : List (Nat → UInt8)} : sameL L M = true ↔ L.map cl = M.map cl := by
  constructor
  · intro h
    unfold sameL at h
    rw [Bool.and_eq_true] at h
    have hl := of_decide_eq_true h.1
    have ha := List.all_eq_true.1 h.2
    apply List.ext_getElem (by simpa using hl)
    intro i h1 h2
    rw [List.length_map] at h1 h2
    rw [List.getElem_map, List.getElem_map]
    have := same_cl.1 (ha i (List.mem_range.2 h1))
    unfold atD at this
    rwa [List.getD_eq_getElem?_getD, List.getElem?_eq_getElem h1, List.getD_eq_getElem?_getD, List.getElem?_eq_getElem h2] at this
  · intro h
    have hl : L.length = M.length := by simpa using congrArg List.length h
    refine sameL_yes hl fun i hi => same_cl.2 ?_
    have h2 : (L.map cl)[i]'(by simpa using hi) = (M.map cl)[i]'(by rw [List.length_map]; omega) := by simp only [h]
    rw [List.getElem_map, List.getElem_map] at h2
    unfold atD
    rwa [List.getD_eq_getElem?_getD, List.getElem?_eq_getElem hi, List.getD_eq_getElem?_getD, List.getElem?_eq_getElem (show i < M.length by omega)]
/-! What was told is read as it was. -/
theorem dg_head (f : Nat → UInt8) (T : List UInt8) : cl (dgOut ⟨(digL f ++ T).toArray⟩) = cl f := by
  funext j
  unfold cl
  split
  · rename_i hj
    unfold dgOut
    rw [if_pos (by rw [Pn.size_list, List.length_append, digL_length]; omega), byAt_list, List.getD_eq_getElem?_getD, List.getElem?_append_left (by rw [digL_length]; exact hj)]
    unfold digL
    simp [hj]
  · rfl
theorem tk_head (f : Nat → UInt8) (T : List UInt8) : tkRest ⟨(digL f ++ T).toArray⟩ 32 = ⟨T.toArray⟩ := by
  rw [tk_rest_yes (by rw [Pn.size_list, List.length_append, digL_length]; omega)]
  exact Pn.extract_list _ _ 32 (digL_length f).symm
theorem tk_fine (f : Nat → UInt8) (T : List UInt8) (b : Bool) : tkBad ⟨(digL f ++ T).toArray⟩ b 32 = b := tk_bad_yes b (by rw [Pn.size_list, List.length_append, digL_length]; omega)
theorem sumsL_cons (f : Nat → UInt8) (L : List (Nat → UInt8)) : sumsL (f :: L) = digL f ++ sumsL L := by unfold sumsL; simp
theorem rD_sums (L : List (Nat → UInt8)) (T : List UInt8) : ∀ k, k ≤ L.length → rD ⟨(sumsL L ++ T).toArray⟩ k = ⟨(sumsL (L.drop k) ++ T).toArray⟩ ∧ bD ⟨(sumsL L ++ T).toArray⟩ false k = false
  | 0, _ => ⟨rfl, rfl⟩
  | k + 1, h => by
    obtain ⟨h1, h2⟩ := rD_sums L T k (by omega)
    have h3 : L.drop k = L[k] :: L.drop (k + 1) := List.drop_eq_getElem_cons (by omega)
    simp only [rD, bD]
    rw [h1, h2, h3, sumsL_cons, List.append_assoc]
    exact ⟨tk_head _ _, tk_fine _ _ _⟩
theorem sD_sums (L : List (Nat → UInt8)) (T : List UInt8) (k : Nat) (h : k < L.length) : cl (sD ⟨(sumsL L ++ T).toArray⟩ k) = cl L[k] := by
  have h1 := (rD_sums L T k (by omega)).1
  unfold sD
  rw [h1, List.drop_eq_getElem_cons h, sumsL_cons, List.append_assoc]
  exact dg_head _ _
theorem sumsD_cl (L : List (Nat → UInt8)) (T : List UInt8) (n : Nat) (hn : n = L.length) : (sumsD ⟨(sumsL L ++ T).toArray⟩ n).map cl = L.map cl := by
  subst hn
  apply List.ext_getElem (by simp [sumsD])
  intro i h1 h2
  rw [List.length_map] at h2
  rw [List.getElem_map, List.getElem_map]
  unfold sumsD
  rw [List.getElem_map, List.getElem_range]
  exact sD_sums L T i h2
/-- A manifest that was told is read: alike. -/
theorem read_text {m : Man} (h : 0 < countM m) : ∃ n, parM ⟨(textM m).toArray⟩ = (n, 0) ∧ n.b = m.b ∧ n.v = m.v ∧ n.s = m.s ∧ n.c = m.c ∧ cl n.res = cl m.res ∧ n.sums.map cl = m.sums.map cl := by
  obtain ⟨hg, hl, hcm⟩ := countM_good h
  have hgi := headB_iff.1 hg
  have ok : ∀ z : Int, 1 ≤ z → z ≤ 2147483647 → numOk z = true := fun z h0 h1 => num_ok (by omega) (by omega)
  obtain ⟨T4, hT4⟩ : ∃ T, T = sumsL m.sums ++ (digL m.res ++ digL (rootF m.sums)) := ⟨_, rfl⟩
  have htx : textM m = numL m.b ++ (numL m.v ++ (numL m.s ++ (numL m.c ++ T4))) := by
    rw [text_root (by omega), hT4]
    unfold headL
    simp only [List.append_assoc]
  generalize hS : (⟨(textM m).toArray⟩ : ByteArray) = S
  have s0 : rsT limM S 0 = ⟨(numL m.b ++ (numL m.v ++ (numL m.s ++ (numL m.c ++ T4)))).toArray⟩ := by rw [← htx, hS]; rfl
  obtain ⟨v0, s1, b1⟩ := back_step limM S 0 m.b _ s0 rfl (ok _ hgi.1 hgi.2.1) (by show m.b ≤ 2147483647; omega)
  obtain ⟨v1, s2, b2⟩ := back_step limM S 1 m.v _ s1 b1 (ok _ (by omega) (by omega)) (by show m.v ≤ 2147483647; omega)
  obtain ⟨v2, s3, b3⟩ := back_step limM S 2 m.s _ s2 b2 (ok _ (by omega) (by omega)) (by show m.s ≤ 4096; omega)
  obtain ⟨v3, s4, b4⟩ := back_step limM S 3 m.c _ s3 b3 (ok _ (by omega) (by omega)) (by show m.c ≤ 256; omega)
  have hhd : headT S = ⟨m.b, m.v, m.s, m.c, [], fun _ => 0⟩ := by unfold headT; rw [v0, v1, v2, v3]
  have hnd : needT S = m.sums.length := by
    unfold needT
    rw [hhd]
    show needN m.b m.v m.s m.c = _
    unfold needN
    rw [if_pos hg, hl]
  have hr : rsT limM S 4 = ⟨(sumsL m.sums ++ (digL m.res ++ digL (rootF m.sums))).toArray⟩ := by rw [s4, hT4]
  obtain ⟨r1, r2⟩ := rD_sums m.sums (digL m.res ++ digL (rootF m.sums)) m.sums.length (Nat.le_refl _)
  rw [List.drop_length, show sumsL [] = [] from rfl, List.nil_append] at r1
  have r3 : rD ⟨(sumsL m.sums ++ (digL m.res ++ digL (rootF m.sums))).toArray⟩ (m.sums.length + 1) = ⟨(digL (rootF m.sums)).toArray⟩ := by
    show tkRest (rD _ m.sums.length) 32 = _
    rw [r1]
    exact tk_head _ _
  have r4 : bD ⟨(sumsL m.sums ++ (digL m.res ++ digL (rootF m.sums))).toArray⟩ false (m.sums.length + 1) = false := by
    show tkBad (rD _ m.sums.length) (bD _ false m.sums.length) 32 = _
    rw [r1, r2]
    exact tk_fine _ _ _
  have r5 : rD ⟨(sumsL m.sums ++ (digL m.res ++ digL (rootF m.sums))).toArray⟩ (m.sums.length + 2) = ⟨#[]⟩ := by
    show tkRest (rD _ (m.sums.length + 1)) 32 = _
    rw [r3]
    have := tk_head (rootF m.sums) []
    rwa [List.append_nil] at this
  have r6 : bD ⟨(sumsL m.sums ++ (digL m.res ++ digL (rootF m.sums))).toArray⟩ false (m.sums.length + 2) = false := by
    show tkBad (rD _ (m.sums.length + 1)) (bD _ false (m.sums.length + 1)) 32 = _
    rw [r3, r4]
    have := tk_fine (rootF m.sums) [] false
    rwa [List.append_nil] at this
  have hen : endT S = 0 := by
    unfold endT
    rw [hnd, hr, b4, r5, r6]
    rfl
  have hsu : (readT S).sums.map cl = m.sums.map cl := by
    show (sumsD (rsT limM S 4) (needT S)).map cl = _
    rw [hnd, hr]
    exact sumsD_cl _ _ _ rfl
  have hro : same (rootT S) (rootF (readT S).sums) = true := by
    rw [same_cl, rootF_cl hsu]
    show cl (sD (rsT limM S 4) (needT S + 1)) = _
    rw [hnd, hr]
    unfold sD
    rw [r3]
    have := dg_head (rootF m.sums) []
    rwa [List.append_nil] at this
  refine ⟨readT S, ?_, ?_, ?_, ?_, ?_, ?_, hsu⟩
  · unfold parM
    rw [if_pos ⟨by rw [hnd]; omega, hen⟩, if_pos hro]
  · show (headT S).b = _
    rw [hhd]
  · show (headT S).v = _
    rw [hhd]
  · show (headT S).s = _
    rw [hhd]
  · show (headT S).c = _
    rw [hhd]
  · show cl (sD (rsT limM S 4) (needT S)) = _
    rw [hnd, hr]
    unfold sD
    rw [r1]
    exact dg_head _ _
theorem sameM_of {m n : Man} (h1 : n.b = m.b) (h2 : n.v = m.v) (h3 : n.s = m.s) (h4 : n.c = m.c) (h5 : cl n.res = cl m.res) (h6 : n.sums.map cl = m.sums.map cl) : sameM m n = true := by
  unfold sameM
  rw [h1, h2, h3, h4, same_cl.2 h5.symm, sameL_cl.2 h6.symm]
  simp
/-! A manifest that is made. -/
theorem made {b v : Int} {c : Nat} {p : ByteArray} {f : Nat → UInt8} (h1 : 1 ≤ b) (h2 : b ≤ 2147483647) (h3 : 1 ≤ v) (h4 : v ≤ 2147483647) (h5 : b ≠ v) (h6 : 1 ≤ p.size) (h7 : p.size ≤ 4096) (h8 : 1 ≤ c) (h9 : c ≤ 256) (h10 : cntN p.size c ≤ 64) :
    makM b v c p f = (⟨b, v, p.size, c, sumsP p c (cntN p.size c), f⟩, 0) ∧ countM ⟨b, v, p.size, c, sumsP p c (cntN p.size c), f⟩ = cntN p.size c := by
  have hg : headB b v (p.size : Int) (c : Int) = true := headB_iff.2 (by simp; omega)
  have hn : needM (headP b v c p f) = cntN p.size c := by
    show needN b v (p.size : Int) (c : Int) = _
    unfold needN
    rw [if_pos hg]
    simp
  have h0 := cntN_pos h8 h6
  constructor
  · unfold makM
    rw [hn, if_neg (by omega)]
    simp [headP]
  · unfold countM
    rw [if_pos ⟨hg, by simp [sumsP]⟩]
    simp [sumsP]
theorem made_length {b v : Int} {c : Nat} {p : ByteArray} {f : Nat → UInt8} (hc : countM ⟨b, v, p.size, c, sumsP p c (cntN p.size c), f⟩ = cntN p.size c) (i : Nat) (hi : i < cntN p.size c) :
    lengthM ⟨b, v, p.size, c, sumsP p c (cntN p.size c), f⟩ (i : Int) = lenN p.size c i := by
  unfold lengthM
  rw [if_pos ⟨by omega, by rw [hc]; omega⟩]
  rfl
theorem made_out {m : Man} {i : Int} (h : (countM m : Int) ≤ i) : lengthM m i = 0 := if_neg fun h' => by omega
theorem made_part {b v : Int} {c : Nat} {p : ByteArray} {f : Nat → UInt8} (h8 : 1 ≤ c) (hc : countM ⟨b, v, p.size, c, sumsP p c (cntN p.size c), f⟩ = cntN p.size c) (i : Nat) (hi : i < cntN p.size c) :
    partM ⟨b, v, p.size, c, sumsP p c (cntN p.size c), f⟩ (i : Int) p = p.extract (i * c) (i * c + lenN p.size c i) := by
  unfold partM
  rw [made_length hc i hi, if_pos ⟨lenN_pos h8 hi, rfl⟩]
  rfl
theorem made_part_size {p : ByteArray} {c i : Nat} (h8 : 1 ≤ c) (hi : i < cntN p.size c) : (p.extract (i * c) (i * c + lenN p.size c i)).size = lenN p.size c i := by
  rw [ByteArray.size_extract]
  have := lenN_within h8 hi
  omega
theorem made_check {b v : Int} {c : Nat} {p : ByteArray} {f : Nat → UInt8} (h8 : 1 ≤ c) (hc : countM ⟨b, v, p.size, c, sumsP p c (cntN p.size c), f⟩ = cntN p.size c) (i : Nat) (hi : i < cntN p.size c) :
    checkM ⟨b, v, p.size, c, sumsP p c (cntN p.size c), f⟩ (i : Int) (p.extract (i * c) (i * c + lenN p.size c i)) = 0 := by
  have h0 := lenN_pos h8 hi
  unfold checkM
  rw [made_length hc i hi, if_neg (by omega), if_neg (by rw [made_part_size h8 hi]; simp), if_pos]
  show same _ ((sumsP p c (cntN p.size c)).getD i _) = true
  rw [piece_extract]
  unfold sumsP
  rw [List.getD_eq_getElem?_getD, List.getElem?_map, List.getElem?_range hi]
  exact same_refl _
theorem check_size {m : Man} {i : Int} {d : ByteArray} (h : 0 < lengthM m i) (hd : d.size ≠ lengthM m i) : checkM m i d = 5 := (if_neg (by omega)).trans (if_pos hd)
theorem check_none {m : Man} {i : Int} {d : ByteArray} (h : lengthM m i = 0) : checkM m i d = 3 := if_pos h
end Mf
end Go.Proofs.YtlechjpaldpgnaaGreatDoor
namespace Go.Proofs.YtlechjpaldpgnaaGreatDoor
open Go.ChangeShapes Go.WideShapes Go.ChangeAt Go.RowKit Sh Pn Mf Cf

end Go.Proofs.YtlechjpaldpgnaaGreatDoor
namespace Go.Proofs.YtlechjpaldpgnaaGreatDoor
open Go.ChangeShapes Go.WideShapes Go.ChangeAt Go.RowKit Sh Pn Mf

namespace Mf
def exP : ByteArray := ⟨#[48, 49, 50, 51, 52, 53, 54, 55, 56, 57]⟩
def exM : Man := ⟨1, 2, (exP.size : Int), ((4 : Nat) : Int), sumsP exP 4 (cntN exP.size 4), sumF [114]⟩
theorem ex_cnt : cntN exP.size 4 = 3 := by decide +kernel
theorem ex_made : makM 1 2 4 exP (sumF [114]) = (exM, 0) ∧ countM exM = 3 := by
  have h := made (b := 1) (v := 2) (c := 4) (p := exP) (f := sumF [114]) (by omega) (by omega) (by omega) (by omega) (by omega) (by decide +kernel) (by decide +kernel) (by omega) (by omega) (by rw [ex_cnt]; omega)
  rw [ex_cnt] at h
  exact ⟨h.1.trans (by unfold exM; rw [ex_cnt]), by
    unfold exM
    rw [ex_cnt]
    exact h.2⟩
theorem ex_count : countM exM = cntN exP.size 4 := by rw [ex_made.2, ex_cnt]
theorem ex_len : lengthM exM 2 = 2 := by
  have h := made_length ex_count 2 (by rw [ex_cnt]; omega)
  exact h.trans (by decide +kernel)
theorem ex_piece : exP.extract (2 * 4) (2 * 4 + lenN exP.size 4 2) = ⟨#[56, 57]⟩ := by
  have h : (exP.extract (2 * 4) (2 * 4 + lenN exP.size 4 2)).data = #[56, 57] := by decide +kernel
  exact ByteArray.ext h
theorem ex_part : partM exM 2 exP = ⟨#[56, 57]⟩ := (made_part (by omega) ex_count 2 (by rw [ex_cnt]; omega)).trans ex_piece
theorem ex_check : checkM exM 2 ⟨#[56, 57]⟩ = 0 := by
  have h := made_check (by omega) ex_count 2 (by rw [ex_cnt]; omega)
  rw [ex_piece] at h
  exact h
theorem ex_short : checkM exM 2 ⟨#[56]⟩ = 5 := check_size (by rw [ex_len]; omega) (by rw [ex_len]; decide)
theorem ex_none : checkM exM 3 ⟨#[]⟩ = 3 := check_none (made_out (by rw [ex_made.2]; omega))
theorem ex_sums : exM.sums.length = 3 := by
  show (sumsP exP 4 (cntN exP.size 4)).length = 3
  rw [sumsP_length, ex_cnt]
theorem ex_text : (⟨(textM exM).toArray⟩ : ByteArray).size = 176 := bsize (by rw [textM_length, ex_sums])
/-- Two manifests on their way. -/
structure Two (t : TypeId) (w : World) (mb nb : Nat) (m n : Man) (A : Option Addr) (k : Nat) (B : Option Addr) (q : Nat) (W : World) : Prop where
  one : At W mb t m A k
  two : At W nb t n B q
  s1 : SIn W A k m.sums
  s2 : SIn W B q n.sums
  below : Below w.heap.size w W
theorem Two.step {t : TypeId} {w W W' : World} {mb nb : Nat} {m n : Man} {A : Option Addr} {k : Nat} {B : Option Addr} {q : Nat} (h : Two t w mb nb m n A k B q W) (hb : Below W.heap.size W W') : Two t w mb nb m n A k B q W' :=
  ⟨h.one.keep hb, h.two.keep hb, h.s1.keep hb, h.s2.keep hb, h.below.trans (hb.mono h.below.size)⟩
theorem at_store {w : World} {t : TypeId} (m : Man) (A : Option Addr) (k : Nat) (c : Array Value) : At ((w.alloc (.cells c t)).setRow w.heap.size (manA m A k)) w.heap.size t m A k ∧ Below w.heap.size w ((w.alloc (.cells c t)).setRow w.heap.size (manA m A k)) :=
  ⟨⟨setRow_heap _ _ _ _ _ _ (heap_alloc_new w _)⟩, below_setRow' ((Below.refl _ _).alloc (Nat.le_refl _) _) (Nat.le_refl _) _⟩
/-- A manifest and a sum that came in, on their way. -/
structure Held (t td : TypeId) (w : World) (mb : Nat) (m : Man) (A : Option Addr) (k : Nat) (f : Nat → UInt8) (W : World) : Prop where
  one : At W mb t m A k
  sin : SIn W A k m.sums
  res : W.heap[w.heap.size]? = some (.cells (digF f) td (0, 0))
  below : Below w.heap.size w W
  lt : w.heap.size < mb
theorem Held.step {t td : TypeId} {w W W' : World} {mb : Nat} {m : Man} {A : Option Addr} {k : Nat} {f : Nat → UInt8} (h : Held t td w mb m A k f W) (hb : Below W.heap.size W W') : Held t td w mb m A k f W' :=
  ⟨h.one.keep hb, h.sin.keep hb, (hb.block _ (Array.getElem?_eq_some_iff.1 h.res).1).trans h.res, h.below.trans (hb.mono h.below.size), h.lt⟩
end Mf
end Go.Proofs.YtlechjpaldpgnaaGreatDoor
namespace Go.Proofs.YtlechjpaldpgnaaGreatDoor
open Go.ChangeShapes Go.WideShapes Go.ChangeAt Go.RowKit Sh Pn Mf

theorem infM2 : (Tryz.prog.info? 33).map (·.size) = some 37 := by kernel_rfl
theorem manI2 (m : Man) (A : Option Addr) (k : Nat) : (Tryz.prog.info? 33).map (·.size) = some (manA m A k).size := by rw [manA_size]; exact infM2
theorem manIL2 (m : Man) (A : Option Addr) (k : Nat) : (Tryz.prog.info? 33).map (·.size) = some (manA m A k).toList.length := by rw [Array.length_toList]; exact manI2 m A k
namespace Mf
theorem head_not {b v s c : Int} (h : ¬ (1 ≤ b ∧ b ≤ 2147483647 ∧ 1 ≤ v ∧ v ≤ 2147483647 ∧ b ≠ v ∧ 1 ≤ s ∧ s ≤ 4096 ∧ 1 ≤ c ∧ c ≤ 256 ∧ cntN s.toNat c.toNat ≤ 64)) : headB b v s c = false := by
  cases hh : headB b v s c with
  | false => rfl
  | true => exact absurd (headB_iff.1 hh) h
theorem head_cases (b v s c : Int) :
    (decide (b < 1) = true ∧ headB b v s c = false) ∨ (decide (b < 1) = false ∧ decide (2147483647 < b) = true ∧ headB b v s c = false) ∨
    (decide (b < 1) = false ∧ decide (2147483647 < b) = false ∧ decide (v < 1) = true ∧ headB b v s c = false) ∨
    (decide (b < 1) = false ∧ decide (2147483647 < b) = false ∧ decide (v < 1) = false ∧ decide (2147483647 < v) = true ∧ headB b v s c = false) ∨
    (decide (b < 1) = false ∧ decide (2147483647 < b) = false ∧ decide (v < 1) = false ∧ decide (2147483647 < v) = false ∧ (b == v) = true ∧ headB b v s c = false) ∨
    (decide (b < 1) = false ∧ decide (2147483647 < b) = false ∧ decide (v < 1) = false ∧ decide (2147483647 < v) = false ∧ (b == v) = false ∧ (
      (decide (1 ≤ s) = false ∧ headB b v s c = false) ∨ (decide (1 ≤ s) = true ∧ decide (s ≤ 4096) = false ∧ headB b v s c = false) ∨
      (decide (1 ≤ s) = true ∧ decide (s ≤ 4096) = true ∧ decide (1 ≤ c) = false ∧ headB b v s c = false) ∨
      (decide (1 ≤ s) = true ∧ decide (s ≤ 4096) = true ∧ decide (1 ≤ c) = true ∧ decide (c ≤ 256) = false ∧ headB b v s c = false) ∨
      (decide (1 ≤ s) = true ∧ decide (s ≤ 4096) = true ∧ decide (1 ≤ c) = true ∧ decide (c ≤ 256) = true ∧ ∃ n : Nat, (s + c - 1).tdiv c = (n : Int) ∧ n ≤ 4096 ∧ headB b v s c = decide (n ≤ 64)))) := by
  by_cases h1 : b < 1
  · exact .inl ⟨decide_eq_true h1, head_not fun h => by omega⟩
  by_cases h2 : 2147483647 < b
  · exact .inr (.inl ⟨decide_eq_false h1, decide_eq_true h2, head_not fun h => by omega⟩)
  by_cases h3 : v < 1
  · exact .inr (.inr (.inl ⟨decide_eq_false h1, decide_eq_false h2, decide_eq_true h3, head_not fun h => by omega⟩))
  by_cases h4 : 2147483647 < v
  · exact .inr (.inr (.inr (.inl ⟨decide_eq_false h1, decide_eq_false h2, decide_eq_false h3, decide_eq_true h4, head_not fun h => by omega⟩)))
  by_cases h5 : b = v
  · exact .inr (.inr (.inr (.inr (.inl ⟨decide_eq_false h1, decide_eq_false h2, decide_eq_false h3, decide_eq_false h4, beq_iff_eq.2 h5, head_not fun h => by omega⟩))))
  refine .inr (.inr (.inr (.inr (.inr ⟨decide_eq_false h1, decide_eq_false h2, decide_eq_false h3, decide_eq_false h4, beq_eq_false_iff_ne.2 h5, ?_⟩))))
  by_cases h6 : 1 ≤ s
  case neg => exact .inl ⟨decide_eq_false h6, head_not fun h => by omega⟩
  by_cases h7 : s ≤ 4096
  case neg => exact .inr (.inl ⟨decide_eq_true h6, decide_eq_false h7, head_not fun h => by omega⟩)
  by_cases h8 : 1 ≤ c
  case neg => exact .inr (.inr (.inl ⟨decide_eq_true h6, decide_eq_true h7, decide_eq_false h8, head_not fun h => by omega⟩))
  by_cases h9 : c ≤ 256
  case neg => exact .inr (.inr (.inr (.inl ⟨decide_eq_true h6, decide_eq_true h7, decide_eq_true h8, decide_eq_false h9, head_not fun h => by omega⟩)))
  refine .inr (.inr (.inr (.inr ⟨decide_eq_true h6, decide_eq_true h7, decide_eq_true h8, decide_eq_true h9, cntN s.toNat c.toNat, cntN_quot h6 h8, ?_, ?_⟩)))
  · unfold cntN
    exact Nat.div_le_of_le_mul (by omega)
  · by_cases h10 : cntN s.toNat c.toNat ≤ 64
    · rw [decide_eq_true h10]
      exact headB_iff.2 (by omega)
    · rw [decide_eq_false h10]
      exact head_not fun h => h10 h.2.2.2.2.2.2.2.2.2
end Mf
set_option maxRecDepth 100000 in
set_option maxHeartbeats 3200000 in
theorem ref20_head (w : World) (m : Man) (A : Option Addr) (k : Nat) : Calls Tryz.prog 35 #[.agg (manA m A k)] w fun e w' => e = .returned (.bool (headB m.b m.v m.s m.c)) ∧ Below w.heap.size w w' := by
  have HB := Lib.hid ((Below.refl w.heap.size w).alloc (Nat.le_refl _) (.cells (manA m A k) 33))
  have h0 := at_new w 33 m A k
  have e0 := h0.base
  have e1 := h0.ver
  have e2 := h0.size
  have e3 := h0.chunk
  have hc := head_cases m.b m.v m.s m.c
  clear h0
  generalize manA m A k = M at *
  generalize m.b = b at *
  generalize m.v = v at *
  generalize m.s = s at *
  generalize m.c = c at *
  generalize headB b v s c = N at *
  rcases hc with ⟨t1, rfl⟩ | ⟨t1, t2, rfl⟩ | ⟨t1, t2, t3, rfl⟩ | ⟨t1, t2, t3, t4, rfl⟩ | ⟨t1, t2, t3, t4, t5, rfl⟩ | ⟨t1, t2, t3, t4, t5, ⟨t6, rfl⟩ | ⟨t6, t7, rfl⟩ | ⟨t6, t7, t8, rfl⟩ | ⟨t6, t7, t8, t9, rfl⟩ | ⟨t6, t7, t8, t9, n, hq, hn, rfl⟩⟩
  case inr.inr.inr.inr.inr.inr.inr.inr.inr =>
    have i4 := of_decide_eq_true t6
    have i5 := of_decide_eq_true t7
    have i6 := of_decide_eq_true t8
    have i7 := of_decide_eq_true t9
    have x1 := IntWalk.wrap64_in (s + c) (by omega)
    have x2 := IntWalk.wrap64_in (s + c - 1) (by omega)
    have x3 : ¬ c = 0 := by omega
    have x4 : ¬ c = -1 := by omega
    have x5 : (c == 0) = false := beq_eq_false_iff_ne.2 x3
    have x6 : (c == -1) = false := beq_eq_false_iff_ne.2 x4
    have x7 := IntWalk.wrap64_in (n : Int) (by clear hq x1 x2; omega)
    have x8 : decide ((n : Int) ≤ 64) = decide (n ≤ 64) := by
      by_cases h : n ≤ 64
      · rw [decide_eq_true h, decide_eq_true (by clear hq x1 x2 x7; omega)]
      · rw [decide_eq_false h, decide_eq_false (by clear hq x1 x2 x7; omega)]
    have X8 := Lib.hid x8
    generalize hz : decide (n ≤ 64) = z at *
    clear i4 i5 i6 i7 hz x8
    cases hz2 : decide ((n : Int) ≤ 64)
    all_goals
      have HZ := Lib.hid (X8.out.symm.trans hz2)
      go_enter Tryz.func35, Tryz.ntmps35
      go_wp2_with (fail)
      refine bodyPost_ret (results_tmp rfl _ _ _) rfl ?_
      rw [HZ.out]
      first | exact ⟨rfl, HB.out⟩ | (refine ⟨?_, HB.out⟩; simp only [hz2]; first | rfl | (simp at hz2; simp [hz2]))
  all_goals
    go_enter Tryz.func35, Tryz.ntmps35
    go_wp2_with (fail)
    exact bodyPost_ret (results_tmp rfl _ _ _) rfl ⟨rfl, HB.out⟩
end Go.Proofs.YtlechjpaldpgnaaGreatDoor
namespace Go.Proofs.YtlechjpaldpgnaaGreatDoor
open Go.ChangeShapes Go.WideShapes Go.ChangeAt Go.RowKit Sh Pn Mf

namespace Mf
theorem At.row5 {w : World} {b : Nat} {t : TypeId} {m : Man} {A : Option Addr} {k : Nat} (h : At w b t m A k) : w.rangeAt b 0 (manA m A k).toList := fun j u hj => by
  rw [cell_of_row w b (0 + j) _ _ _ h.h, Nat.zero_add, ← hj, Array.getElem?_toList]
theorem count_not {m : Man} (h : headB m.b m.v m.s m.c = false) : countM m = 0 := if_neg fun h' => by rw [h] at h'; exact Bool.false_ne_true h'.1
end Mf
set_option maxRecDepth 100000 in
set_option maxHeartbeats 3200000 in
theorem ref20_count (w : World) (m : Man) (A : Option Addr) (k : Nat) : Calls Tryz.prog 9 #[.agg (manA m A k)] w fun e w' => e = .returned (.int .i64 (countM m : Int)) ∧ Below w.heap.size w w' := by
  have HH := Lib.hid (fun W => ref20_head W m A k)
  have HA := Lib.hid (at_new w 33 m A k)
  have HB := Lib.hid ((Below.refl w.heap.size w).alloc (Nat.le_refl _) (.cells (manA m A k) 33))
  have HIL := Lib.hid (manIL2 m A k)
  cases hh : headB m.b m.v m.s m.c with
  | false =>
    have HC := Lib.hid (count_not hh)
    rw [hh] at HH
    go_enter Tryz.func9, Tryz.ntmps9
    go_upto_region 1 with (fail)
    refine gen_world (fun W => At W w.heap.size 33 m A k ∧ Below w.heap.size w W) ⟨HA.out, HB.out⟩ ?_
    rintro w1 ⟨a1, b1⟩
    have HK := Lib.hid (fun (W : World) (hW : Below w1.heap.size w1 W) => show W.rangeAt w.heap.size 0 (manA m A k).toList from (a1.keep hW).row5)
    have B1 := Lib.hid b1
    have b00 : Below w1.heap.size w1 w1.drew := below_drewN (Below.refl _ _) 1
    have k0 := HK.out _ b00
    clear a1 b1 hh HA HB
    -- HAND
    refine wp_region_noPanic ?_
    refine wp_region_held_drew (S := (fun W : World => W.rangeAt w.heap.size 0 (manA m A k).toList)) (by kernel_rfl) k0 (fun hHeld => ?_)
    refine wpAnyH_takeAt (i := 0) (v := .agg (manA m A k).toList.toArray) 3 rfl rfl (by kernel_rfl) (by kernel_rfl) (by kernel_rfl) (fun _ _ _ h => h) (yieldsIf_load_mid (by rfl) 33 _ rfl w.heap.size (0) rfl (manA m A k).toList _ (fun W hW => hW) Tryz.underlying33 rfl HIL.out) hHeld ?_
    simp only [Act.put, List.setIfInBounds_toArray, List.set_cons_succ, List.set_cons_zero]
    refine wpAnyH_ready (rs := [1]) (by kernel_rfl) (by simp) ?_
    refine AllReadyH.cons rfl (fun K hK => ?_) AllReadyH.nil
    go_simp
    refine (HH.out _).mono ?_
    rintro e w2 ⟨rfl, b2⟩
    have hk1 := b00.trans (b2.mono b00.size)
    clear b2
    refine hK.out _ _ (HK.out _ hk1) (fun hHeld2 => ?_)
    clear hK K hHeld
    have hHeld := hHeld2
    clear hHeld2
    try simp only [Act.put, List.setIfInBounds_toArray, List.set_cons_succ, List.set_cons_zero]
    refine wpAnyH_takeAt (i := 2) (v := .bool true) 5 rfl rfl (by kernel_rfl) (by kernel_rfl) (by kernel_rfl) (fun _ _ _ h => h) (Or.inl ⟨by rfl, ?_⟩) hHeld ?_
    · intro W hW
      try dsimp only at hW
      go_simp
    simp only [Act.put, List.setIfInBounds_toArray, List.set_cons_succ, List.set_cons_zero]
    refine wpAnyH_takeAt (i := 3) (v := .bool true) 6 rfl rfl (by kernel_rfl) (by kernel_rfl) (by kernel_rfl) (fun _ _ _ h => h) (Or.inl ⟨by rfl, ?_⟩) hHeld ?_
    · intro W hW
      try dsimp only at hW
      go_simp
    simp only [Act.put, List.setIfInBounds_toArray, List.set_cons_succ, List.set_cons_zero]
    refine wpAnyH_takeAt (i := 4) (v := undef) 7 rfl rfl (by kernel_rfl) (by kernel_rfl) (by kernel_rfl) (fun _ _ _ h => h) (Or.inr ⟨by rfl, rfl⟩) hHeld ?_
    simp only [Act.put, List.setIfInBounds_toArray, List.set_cons_succ, List.set_cons_zero]
    refine wpAnyH_takeAt (i := 5) (v := undef) 8 rfl rfl (by kernel_rfl) (by kernel_rfl) (by kernel_rfl) (fun _ _ _ h => h) (Or.inr ⟨by rfl, rfl⟩) hHeld ?_
    simp only [Act.put, List.setIfInBounds_toArray, List.set_cons_succ, List.set_cons_zero]
    refine wpAnyH_takeAt (i := 6) (v := undef) 9 rfl rfl (by kernel_rfl) (by kernel_rfl) (by kernel_rfl) (fun _ _ _ h => h) (Or.inr ⟨by rfl, rfl⟩) hHeld ?_
    simp only [Act.put, List.setIfInBounds_toArray, List.set_cons_succ, List.set_cons_zero]
    refine wpAnyH_takeAt (i := 7) (v := undef) 10 rfl rfl (by kernel_rfl) (by kernel_rfl) (by kernel_rfl) (fun _ _ _ h => h) (Or.inr ⟨by rfl, rfl⟩) hHeld ?_
    simp only [Act.put, List.setIfInBounds_toArray, List.set_cons_succ, List.set_cons_zero]
    refine wpAnyH_takeAt (i := 8) (v := undef) 11 rfl rfl (by kernel_rfl) (by kernel_rfl) (by kernel_rfl) (fun _ _ _ h => h) (Or.inr ⟨by rfl, rfl⟩) hHeld ?_
    simp only [Act.put, List.setIfInBounds_toArray, List.set_cons_succ, List.set_cons_zero]
    refine wpAnyH_takeAt (i := 9) (v := undef) 12 rfl rfl (by kernel_rfl) (by kernel_rfl) (by kernel_rfl) (fun _ _ _ h => h) (Or.inr ⟨by rfl, rfl⟩) hHeld ?_
    simp only [Act.put, List.setIfInBounds_toArray, List.set_cons_succ, List.set_cons_zero]
    refine wpAnyH_takeAt (i := 10) (v := undef) 13 rfl rfl (by kernel_rfl) (by kernel_rfl) (by kernel_rfl) (fun _ _ _ h => h) (Or.inr ⟨by rfl, rfl⟩) hHeld ?_
    simp only [Act.put, List.setIfInBounds_toArray, List.set_cons_succ, List.set_cons_zero]
    refine wpAnyH_takeAt (i := 11) (v := undef) 14 rfl rfl (by kernel_rfl) (by kernel_rfl) (by kernel_rfl) (fun _ _ _ h => h) (Or.inr ⟨by rfl, rfl⟩) hHeld ?_
    simp only [Act.put, List.setIfInBounds_toArray, List.set_cons_succ, List.set_cons_zero]
    refine wpAnyH_takeAt (i := 12) (v := undef) 15 rfl rfl (by kernel_rfl) (by kernel_rfl) (by kernel_rfl) (fun _ _ _ h => h) (Or.inr ⟨by rfl, rfl⟩) hHeld ?_
    simp only [Act.put, List.setIfInBounds_toArray, List.set_cons_succ, List.set_cons_zero]
    refine wpAnyH_takeAt (i := 13) (v := undef) 16 rfl rfl (by kernel_rfl) (by kernel_rfl) (by kernel_rfl) (fun _ _ _ h => h) (Or.inr ⟨by rfl, rfl⟩) hHeld ?_
    simp only [Act.put, List.setIfInBounds_toArray, List.set_cons_succ, List.set_cons_zero]
    refine wpAnyH_takeAt (i := 14) (v := undef) 17 rfl rfl (by kernel_rfl) (by kernel_rfl) (by kernel_rfl) (fun _ _ _ h => h) (Or.inr ⟨by rfl, rfl⟩) hHeld ?_
    simp only [Act.put, List.setIfInBounds_toArray, List.set_cons_succ, List.set_cons_zero]
    refine wpAnyH_takeAt (i := 15) (v := undef) 18 rfl rfl (by kernel_rfl) (by kernel_rfl) (by kernel_rfl) (fun _ _ _ h => h) (Or.inr ⟨by rfl, rfl⟩) hHeld ?_
    simp only [Act.put, List.setIfInBounds_toArray, List.set_cons_succ, List.set_cons_zero]
    refine wpAnyH_takeAt (i := 16) (v := undef) 19 rfl rfl (by kernel_rfl) (by kernel_rfl) (by kernel_rfl) (fun _ _ _ h => h) (Or.inr ⟨by rfl, rfl⟩) hHeld ?_
    simp only [Act.put, List.setIfInBounds_toArray, List.set_cons_succ, List.set_cons_zero]
    refine wpAnyH_takeAt (i := 17) (v := .bool true) 20 rfl rfl (by kernel_rfl) (by kernel_rfl) (by kernel_rfl) (fun _ _ _ h => h) (Or.inl ⟨by rfl, ?_⟩) hHeld ?_
    · intro W hW
      try dsimp only at hW
      go_simp
    simp only [Act.put, List.setIfInBounds_toArray, List.set_cons_succ, List.set_cons_zero]
    refine wpAnyH_done (by kernel_rfl) ?_ _
    refine NoPanic.normal ?_
    -- DNAH
    have B2 := Lib.hid (B1.out.trans (hk1.mono B1.out.size))
    clear hHeld k0 b00 hk1
    go_wp2_with (fail)
    refine bodyPost_ret (results_tmp rfl _ _ _) rfl ?_
    rw [HC.out]
    exact ⟨rfl, B2.out⟩
  | true =>
    have hgi := headB_iff.1 hh
    have hq := cntN_quot (s := m.s) (c := m.c) (by omega) (by omega)
    have hn := hgi.2.2.2.2.2.2.2.2.2
    have hcm : countM m = if m.sums.length = cntN m.s.toNat m.c.toNat then m.sums.length else 0 := by
      unfold countM
      rw [hh]
      simp
    rw [hh] at HH
    generalize cntN m.s.toNat m.c.toNat = n at *
    have HC := Lib.hid hcm
    have HQ0 := Lib.hid hq
    clear hq
    obtain ⟨nb, hnb⟩ : ∃ nb : Bool, ((m.sums.length : Int) != (n : Int)) = nb := ⟨_, rfl⟩
    have HNB := Lib.hid (show (nb = false → m.sums.length = n) ∧ (nb = true → m.sums.length ≠ n) by
      rw [← hnb]
      constructor
      · intro h
        have := bne_eq_false_iff_eq.1 h
        omega
      · intro h
        have := bne_iff_ne.1 h
        omega)
    have z1' : IntKind.i64.wrap (m.s + m.c) = m.s + m.c := IntWalk.i64_in _ (by omega)
    have z2' : IntKind.i64.wrap (m.s + m.c - 1) = m.s + m.c - 1 := IntWalk.i64_in _ (by clear z1'; omega)
    have z7' : IntKind.i64.wrap (n : Int) = (n : Int) := IntWalk.i64_in _ (by clear z1' z2'; omega)
    have z1 := IntWalk.wrap64_in (m.s + m.c) (by clear z1' z2' z7'; omega)
    have z2 := IntWalk.wrap64_in (m.s + m.c - 1) (by clear z1' z2' z7' z1; omega)
    have z3 : ¬ m.c = 0 := by clear z1' z2' z7' z1 z2; omega
    have z4 : (m.c == 0) = false := beq_eq_false_iff_ne.2 z3
    have z5 : ¬ m.c = -1 := by clear z1' z2' z7' z1 z2; omega
    have z6 : (m.c == -1) = false := beq_eq_false_iff_ne.2 z5
    have z7 := IntWalk.wrap64_in (n : Int) (by clear z1' z2' z7' z1 z2; omega)
    have hq := HQ0.out
    clear hgi hn hcm hh
    go_enter Tryz.func9, Tryz.ntmps9
    go_upto_region 1 with (fail)
    refine gen_world (fun W => At W w.heap.size 33 m A k ∧ Below w.heap.size w W) ⟨HA.out, HB.out⟩ ?_
    rintro w1 ⟨a1, b1⟩
    have HK := Lib.hid (fun (W : World) (hW : Below w1.heap.size w1 W) => show W.rangeAt w.heap.size 0 (manA m A k).toList ∧ W.cell? ⟨w.heap.size, 4, none⟩ = some (.slice A m.sums.length k) ∧ W.cell? ⟨w.heap.size, 2, none⟩ = some (.int .i64 m.s) ∧ W.cell? ⟨w.heap.size, 3, none⟩ = some (.int .i64 m.c) from
      ⟨(a1.keep hW).row5, (a1.keep hW).sums, (a1.keep hW).size, (a1.keep hW).chunk⟩)
    have A1 := Lib.hid a1
    have B1 := Lib.hid b1
    have b00 : Below w1.heap.size w1 w1.drew := below_drewN (Below.refl _ _) 1
    have k0 := HK.out _ b00
    clear a1 b1 HA HB
    -- HAND2
    refine wp_region_noPanic ?_
    refine wp_region_held_drew (S := (fun W : World => W.rangeAt w.heap.size 0 (manA m A k).toList ∧ W.cell? ⟨w.heap.size, 4, none⟩ = some (.slice A m.sums.length k) ∧ W.cell? ⟨w.heap.size, 2, none⟩ = some (.int .i64 m.s) ∧ W.cell? ⟨w.heap.size, 3, none⟩ = some (.int .i64 m.c))) (by kernel_rfl) k0 (fun hHeld => ?_)
    refine wpAnyH_takeAt (i := 0) (v := .agg (manA m A k).toList.toArray) 3 rfl rfl (by kernel_rfl) (by kernel_rfl) (by kernel_rfl) (fun _ _ _ h => h) (yieldsIf_load_mid (by rfl) 33 _ rfl w.heap.size (0) rfl (manA m A k).toList _ (fun W hW => hW.1) Tryz.underlying33 rfl HIL.out) hHeld ?_
    simp only [Act.put, List.setIfInBounds_toArray, List.set_cons_succ, List.set_cons_zero]
    refine wpAnyH_ready (rs := [1]) (by kernel_rfl) (by simp) ?_
    refine AllReadyH.cons rfl (fun K hK => ?_) AllReadyH.nil
    go_simp
    refine (HH.out _).mono ?_
    rintro e w2 ⟨rfl, b2⟩
    have hk1 := b00.trans (b2.mono b00.size)
    clear b2
    refine hK.out _ _ (HK.out _ hk1) (fun hHeld2 => ?_)
    clear hK K hHeld
    have hHeld := hHeld2
    clear hHeld2
    try simp only [Act.put, List.setIfInBounds_toArray, List.set_cons_succ, List.set_cons_zero]
    refine wpAnyH_takeAt (i := 2) (v := .bool false) 5 rfl rfl (by kernel_rfl) (by kernel_rfl) (by kernel_rfl) (fun _ _ _ h => h) (Or.inl ⟨by rfl, ?_⟩) hHeld ?_
    · intro W hW
      try dsimp only at hW
      go_simp
    simp only [Act.put, List.setIfInBounds_toArray, List.set_cons_succ, List.set_cons_zero]
    refine wpAnyH_takeAt (i := 3) (v := .bool false) 6 rfl rfl (by kernel_rfl) (by kernel_rfl) (by kernel_rfl) (fun _ _ _ h => h) (Or.inl ⟨by rfl, ?_⟩) hHeld ?_
    · intro W hW
      try dsimp only at hW
      go_simp
    simp only [Act.put, List.setIfInBounds_toArray, List.set_cons_succ, List.set_cons_zero]
    refine wpAnyH_takeAt (i := 4) (v := .pointer (some ⟨w.heap.size, 4, none⟩)) 7 rfl rfl (by kernel_rfl) (by kernel_rfl) (by kernel_rfl) (fun _ _ _ h => h) (Or.inl ⟨by rfl, ?_⟩) hHeld ?_
    · intro W hW
      try dsimp only at hW
      go_simp
    simp only [Act.put, List.setIfInBounds_toArray, List.set_cons_succ, List.set_cons_zero]
    refine wpAnyH_takeAt (i := 5) (v := .slice A m.sums.length k) 8 rfl rfl (by kernel_rfl) (by kernel_rfl) (by kernel_rfl) (fun _ _ _ h => h) (Or.inl ⟨by rfl, ?_⟩) hHeld ?_
    · intro W hW
      try dsimp only at hW
      go_simp
    simp only [Act.put, List.setIfInBounds_toArray, List.set_cons_succ, List.set_cons_zero]
    refine wpAnyH_takeAt (i := 6) (v := .int .i64 (m.sums.length : Int)) 9 rfl rfl (by kernel_rfl) (by kernel_rfl) (by kernel_rfl) (fun _ _ _ h => h) (Or.inl ⟨by rfl, ?_⟩) hHeld ?_
    · intro W hW
      try dsimp only at hW
      go_simp
    simp only [Act.put, List.setIfInBounds_toArray, List.set_cons_succ, List.set_cons_zero]
    refine wpAnyH_takeAt (i := 7) (v := .pointer (some ⟨w.heap.size, 2, none⟩)) 10 rfl rfl (by kernel_rfl) (by kernel_rfl) (by kernel_rfl) (fun _ _ _ h => h) (Or.inl ⟨by rfl, ?_⟩) hHeld ?_
    · intro W hW
      try dsimp only at hW
      go_simp
    simp only [Act.put, List.setIfInBounds_toArray, List.set_cons_succ, List.set_cons_zero]
    refine wpAnyH_takeAt (i := 8) (v := .int .i64 m.s) 11 rfl rfl (by kernel_rfl) (by kernel_rfl) (by kernel_rfl) (fun _ _ _ h => h) (Or.inl ⟨by rfl, ?_⟩) hHeld ?_
    · intro W hW
      try dsimp only at hW
      go_simp
    simp only [Act.put, List.setIfInBounds_toArray, List.set_cons_succ, List.set_cons_zero]
    refine wpAnyH_takeAt (i := 9) (v := .pointer (some ⟨w.heap.size, 3, none⟩)) 12 rfl rfl (by kernel_rfl) (by kernel_rfl) (by kernel_rfl) (fun _ _ _ h => h) (Or.inl ⟨by rfl, ?_⟩) hHeld ?_
    · intro W hW
      try dsimp only at hW
      go_simp
    simp only [Act.put, List.setIfInBounds_toArray, List.set_cons_succ, List.set_cons_zero]
    refine wpAnyH_takeAt (i := 10) (v := .int .i64 m.c) 13 rfl rfl (by kernel_rfl) (by kernel_rfl) (by kernel_rfl) (fun _ _ _ h => h) (Or.inl ⟨by rfl, ?_⟩) hHeld ?_
    · intro W hW
      try dsimp only at hW
      go_simp
    simp only [Act.put, List.setIfInBounds_toArray, List.set_cons_succ, List.set_cons_zero]
    refine wpAnyH_takeAt (i := 11) (v := .int .i64 (m.s + m.c)) 14 rfl rfl (by kernel_rfl) (by kernel_rfl) (by kernel_rfl) (fun _ _ _ h => h) (Or.inl ⟨by rfl, ?_⟩) hHeld ?_
    · intro W hW
      try dsimp only at hW
      go_simp
    simp only [Act.put, List.setIfInBounds_toArray, List.set_cons_succ, List.set_cons_zero]
    refine wpAnyH_takeAt (i := 12) (v := .int .i64 (m.s + m.c - 1)) 15 rfl rfl (by kernel_rfl) (by kernel_rfl) (by kernel_rfl) (fun _ _ _ h => h) (Or.inl ⟨by rfl, ?_⟩) hHeld ?_
    · intro W hW
      try dsimp only at hW
      go_simp
    simp only [Act.put, List.setIfInBounds_toArray, List.set_cons_succ, List.set_cons_zero]
    refine wpAnyH_takeAt (i := 13) (v := .pointer (some ⟨w.heap.size, 3, none⟩)) 16 rfl rfl (by kernel_rfl) (by kernel_rfl) (by kernel_rfl) (fun _ _ _ h => h) (Or.inl ⟨by rfl, ?_⟩) hHeld ?_
    · intro W hW
      try dsimp only at hW
      go_simp
    simp only [Act.put, List.setIfInBounds_toArray, List.set_cons_succ, List.set_cons_zero]
    refine wpAnyH_takeAt (i := 14) (v := .int .i64 m.c) 17 rfl rfl (by kernel_rfl) (by kernel_rfl) (by kernel_rfl) (fun _ _ _ h => h) (Or.inl ⟨by rfl, ?_⟩) hHeld ?_
    · intro W hW
      try dsimp only at hW
      go_simp
    simp only [Act.put, List.setIfInBounds_toArray, List.set_cons_succ, List.set_cons_zero]
    refine wpAnyH_takeAt (i := 15) (v := .int .i64 (n : Int)) 18 rfl rfl (by kernel_rfl) (by kernel_rfl) (by kernel_rfl) (fun _ _ _ h => h) (Or.inl ⟨by rfl, ?_⟩) hHeld ?_
    · intro W hW
      try dsimp only at hW
      go_simp
    simp only [Act.put, List.setIfInBounds_toArray, List.set_cons_succ, List.set_cons_zero]
    refine wpAnyH_takeAt (i := 16) (v := .bool nb) 19 rfl rfl (by kernel_rfl) (by kernel_rfl) (by kernel_rfl) (fun _ _ _ h => h) (Or.inl ⟨by rfl, ?_⟩) hHeld ?_
    · intro W hW
      try dsimp only at hW
      go_simp
    simp only [Act.put, List.setIfInBounds_toArray, List.set_cons_succ, List.set_cons_zero]
    refine wpAnyH_takeAt (i := 17) (v := .bool nb) 20 rfl rfl (by kernel_rfl) (by kernel_rfl) (by kernel_rfl) (fun _ _ _ h => h) (Or.inl ⟨by rfl, ?_⟩) hHeld ?_
    · intro W hW
      try dsimp only at hW
      go_simp
    simp only [Act.put, List.setIfInBounds_toArray, List.set_cons_succ, List.set_cons_zero]
    refine wpAnyH_done (by kernel_rfl) ?_ _
    refine NoPanic.normal ?_
    -- DNAH2
    have B2 := Lib.hid (B1.out.trans (hk1.mono B1.out.size))
    have A2 := A1.out.keep hk1
    have e4 := A2.sums
    clear hHeld k0 b00 hk1 z1 z2 z3 z4 z5 z6 z7 z1' z2' z7' hq hnb A2
    cases nb with
    | true =>
      go_wp2_with (fail)
      refine bodyPost_ret (results_tmp rfl _ _ _) rfl ?_
      rw [HC.out, if_neg (HNB.out.2 (by first | rfl | trivial))]
      exact ⟨rfl, B2.out⟩
    | false =>
      go_wp2_with (fail)
      refine bodyPost_ret (results_tmp rfl _ _ _) rfl ?_
      rw [HC.out, if_pos (HNB.out.1 (by first | rfl | trivial))]
      exact ⟨rfl, B2.out⟩
end Go.Proofs.YtlechjpaldpgnaaGreatDoor
namespace Go.Proofs.YtlechjpaldpgnaaGreatDoor
open Go.ChangeShapes Go.WideShapes Go.ChangeAt Go.RowKit Sh Pn Mf

set_option maxRecDepth 100000 in
set_option maxHeartbeats 3200000 in
theorem ref20_length (w : World) (m : Man) (A : Option Addr) (k : Nat) (a : Int) : Calls Tryz.prog 64 #[.agg (manA m A k), .int .i64 a] w fun e w' => e = .returned (.int .i64 (lengthM m a : Int)) ∧ Below w.heap.size w w' := by
  have HN := Lib.hid (fun W => ref20_count W m A k)
  have HB := Lib.hid ((Below.refl w.heap.size w).alloc (Nat.le_refl _) (.cells (manA m A k) 33))
  have HA := Lib.hid (at_new w 33 m A k)
  have HI := Lib.hid (manI2 m A k)
  by_cases h1 : a < 0
  · have t1 : decide (a < 0) = true := decide_eq_true h1
    have HL := Lib.hid (show lengthM m a = 0 from if_neg fun h => by omega)
    go_enter Tryz.func64, Tryz.ntmps64
    go_wp2_with (fail)
    refine bodyPost_ret (results_tmp rfl _ _ _) rfl ?_
    rw [HL.out]
    exact ⟨rfl, HB.out⟩
  have t1 : decide (a < 0) = false := decide_eq_false h1
  by_cases h2 : (countM m : Int) ≤ a
  · have t2 : decide ((countM m : Int) ≤ a) = true := decide_eq_true h2
    have HL := Lib.hid (show lengthM m a = 0 from if_neg fun h => by omega)
    generalize countM m = C at *
    clear h2
    go_enter Tryz.func64, Tryz.ntmps64
    go_wp2_with (refine wpList_load_row_g (by rfl) 33 _ rfl _ rfl 33 _ (0, 0) _ HA.out.cells Tryz.underlying33 rfl HI.out ?_)
    refine (HN.out _).mono ?_
    rintro e w1 ⟨rfl, b1⟩
    have HB1 := Lib.hid (HB.out.trans (b1.mono HB.out.size))
    clear b1
    go_wp2_with (fail)
    refine bodyPost_ret (results_tmp rfl _ _ _) rfl ?_
    rw [HL.out]
    exact ⟨rfl, HB1.out⟩
  · have t2 : decide ((countM m : Int) ≤ a) = false := decide_eq_false h2
    have h3 : 0 < lengthM m a := by
      unfold lengthM
      rw [if_pos ⟨by omega, by omega⟩]
      obtain ⟨hg, hl, hcm⟩ := countM_good (m := m) (by omega)
      have hgi := headB_iff.1 hg
      exact lenN_pos (by omega) (by omega)
    obtain ⟨i, s, c, P⟩ := place_of h3
    have ha := P.ha
    subst ha
    have t3 : decide (countM m ≤ i) = false := decide_eq_false (by omega)
    have HL := Lib.hid P.len
    have hs := P.hs
    have hc := P.hc
    have hb := And.intro P.s1 (And.intro P.c1 P.hl)
    have hln : min (c : Int) ((s : Int) - ((i * c : Nat) : Int)) = (lenN s c i : Int) := by
      have := P.hl
      unfold lenN
      omega
    have x0 : (i : Int) * (c : Int) = ((i * c : Nat) : Int) := by simp
    generalize i * c = f at *
    generalize lenN s c i = n at *
    have x1 : wrap64 ((i : Int) * (c : Int)) = (f : Int) := by rw [x0]; exact IntWalk.wrap64_in _ (by clear x0 hln; omega)
    have x2 := IntWalk.wrap64_in ((s : Int) - (f : Int)) (by clear x0 x1 hln; omega)
    generalize countM m = C at *
    clear x0 h2 h3 hb P
    have HX := Lib.hid (And.intro hln (And.intro x1 x2))
    clear hln x1 x2
    go_enter Tryz.func64, Tryz.ntmps64
    go_wp2_with (refine wpList_load_row_g (by rfl) 33 _ rfl _ rfl 33 _ (0, 0) _ HA.out.cells Tryz.underlying33 rfl HI.out ?_)
    refine (HN.out _).mono ?_
    rintro e w1 ⟨rfl, b1⟩
    have e2 := (HA.out.keep b1).size
    have e3 := (HA.out.keep b1).chunk
    rw [hs] at e2
    rw [hc] at e3
    have HB1 := Lib.hid (HB.out.trans (b1.mono HB.out.size))
    clear b1
    obtain ⟨hln, x1, x2⟩ := HX.out
    go_wp2_with (fail)
    refine bodyPost_ret (results_tmp rfl _ _ _) rfl ?_
    rw [HL.out]
    refine ⟨?_, HB1.out⟩
    first
      | rfl
      | (show Ending.returned (.int .i64 (min (c : Int) (wrap64 ((s : Int) - wrap64 ((i : Int) * (c : Int)))))) = _; rw [x1, x2, hln])
      | (show Ending.returned (.int .i64 (min (c : Int) (wrap64 ((s : Int) - (f : Int))))) = _; rw [x2, hln])
      | (show Ending.returned (.int .i64 (min (c : Int) ((s : Int) - (f : Int)))) = _; rw [hln])
end Go.Proofs.YtlechjpaldpgnaaGreatDoor
namespace Go.Proofs.YtlechjpaldpgnaaGreatDoor
open Go.ChangeShapes Go.WideShapes Go.ChangeAt Go.RowKit Sh Pn Mf

namespace Mf
/-- What holds while a sum's bytes are laid: the first n are there. -/
structure Dg (t : TypeId) (w wr : World) (q : ByteArray) (n : Nat) : Prop where
  below : Below w.heap.size w wr
  res : wr.rowIs w.heap.size t 32 (fun _ => .int .u8 0)
  out : wr.rowIs (w.heap.size + 1) t 32 (fun j => .int .u8 (if j < n then ((byAt q j).toNat : Int) else 0))
theorem Dg.put {t : TypeId} {w wr : World} {q : ByteArray} {n : Nat} (h : Dg t w wr q n) {x : Int} (hx : x = ((byAt q n).toNat : Int)) : Dg t w (wr.setCell ⟨w.heap.size + 1, n, none⟩ (.int .u8 x)) q (n + 1) := by
  refine ⟨h.below.setCell (by show w.heap.size ≤ w.heap.size + 1; omega) _, h.res.setOther (by show w.heap.size ≠ w.heap.size + 1; omega) _, (h.out.set n _).congr fun j _ => ?_⟩
  by_cases e : j = n
  · subst e; rw [if_pos rfl, hx, if_pos (by omega)]
  · rw [if_neg e]
    by_cases hlt : j < n
    · rw [if_pos hlt, if_pos (by omega)]
    · rw [if_neg hlt, if_neg (by omega)]
end Mf
theorem zeroDig : Tryz.prog.built 23 [] = some (vals 32 fun _ => .int .u8 0) := by kernel_rfl
theorem hiR : ∀ f, (Tryz.prog.info? 23).map (·.size) = some (vals 32 f).size := fun f => info_vals f (by kernel_rfl)
theorem hiRD (f : Nat → UInt8) : (Tryz.prog.info? 23).map (·.size) = some (digF f).size := hiR _
end Go.Proofs.YtlechjpaldpgnaaGreatDoor
