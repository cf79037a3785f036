/-
  Rows of deeds that come in; how many bytes they may have. Conditions: none.
-/
import Derived.Test.YtiehpaffbaafcaaOpenStructs
import Derived.Test.YtiehpaffbaafcaaPtMem
import Derived.Deep.Grids
namespace Go.Proofs.Ytiehpaffbaafcaa
open Go.ChangeShapes Go.WideShapes Go.ChangeAt Go.RowKit Pt

section
variable {H : Type} {enc : TypeId × Value → H} {w : World} {base : Nat} {spare : Nat → Bool} {held : Bool}
theorem bytes_op : Try.prog.bytesOf 42 = 40 := by kernel_rfl
theorem weight_ops {t : TypeId} {cs : List Value} {fuel : Nat} {x : DataW H × List MemPlace} {A : Option Addr} {len cap : Nat} (ht : Try.prog.underlying t = some (.slice 42)) (h : DataW.trod enc Try.prog w base spare held fuel t cs = some x) (hcs : cs = [.slice A len cap])
    (ts : List TypeId) (ds : List (DataW H)) (hw : (DataW.weightsEach Try.prog (t :: ts) (x.1 :: ds)).all (· ≤ reachBytes) = true) : len * 40 ≤ 140737488351232 := by
  rcases Go.Deep.open_slice ht h with ⟨h0, _⟩ | ⟨a, l2, c2, m, n, D, Pl, h1, _, hl, hcm, hmm, rfl, hx⟩
  · rw [h0] at hcs
    injection hcs with hcs
    injection hcs with _ e2 _
    omega
  · rw [h1] at hcs
    injection hcs with hcs
    injection hcs with _ e2 _
    subst e2
    have hmem : ((List.range l2).map D).length + ((List.range (m - l2)).map fun j => D (l2 + j)).length = l2 + (m - l2) := by simp
    have hin : (l2 + (m - l2)) * 40 ∈ DataW.weightsEach Try.prog (t :: ts) (DataW.slice ((List.range l2).map D) ((List.range (m - l2)).map fun j => D (l2 + j)) :: ds) := by
      unfold DataW.weightsEach
      refine List.mem_append_left _ ?_
      unfold DataW.weights
      rw [ht]
      simp only [bytes_op, hmem]
      exact List.mem_cons_self
    have := of_decide_eq_true (List.all_eq_true.1 hw _ hin)
    unfold reachBytes at this
    have h3 : l2 * 40 ≤ (l2 + (m - l2)) * 40 := Nat.mul_le_mul_right _ (Nat.le_add_right _ _)
    omega
set_option maxRecDepth 100000 in
theorem open_ops {fuel : Nat} {cs : List Value} {x : DataW H × List MemPlace} (h : DataW.trod enc Try.prog w base spare held fuel 22 cs = some x) :
    ∃ (A : Option Addr) (len cap : Nat) (L : List Deed), cs = [.slice A len cap] ∧ L.length = len ∧ len ≤ maxLen ∧ DIn w A L ∧ (∀ (ts : List TypeId) (ds : List (DataW H)), (DataW.weightsEach Try.prog (22 :: ts) (x.1 :: ds)).all (· ≤ reachBytes) = true → len * 40 ≤ 140737488351232) := by
  obtain ⟨fs, hfs, hty⟩ : ∃ fs, Try.prog.underlying 42 = some (.struct fs) ∧ fs.toList.map (fun f => (f.type, f.offset)) = [(3, 0), (3, 1), (3, 2), (9, 3)] := ⟨_, Try.underlying42, by kernel_rfl⟩
  obtain ⟨f0, r, e0, g0, hr⟩ := List.map_eq_cons_iff.1 hty
  obtain ⟨f1, r, rfl, g1, hr⟩ := List.map_eq_cons_iff.1 hr
  obtain ⟨f2, r, rfl, g2, hr⟩ := List.map_eq_cons_iff.1 hr
  obtain ⟨f3, r, rfl, g3, hr⟩ := List.map_eq_cons_iff.1 hr
  obtain rfl := List.map_eq_nil_iff.1 hr
  simp only [Prod.mk.injEq] at g0 g1 g2 g3
  have hf : ∀ (j : Nat) (f : Field), fs[j]? = some f → (j = 0 ∧ f = f0) ∨ (j = 1 ∧ f = f1) ∨ (j = 2 ∧ f = f2) ∨ (j = 3 ∧ f = f3) := fun j f hj => by
    rw [← Array.getElem?_toList, e0] at hj
    match j, hj with
    | 0, hj => exact .inl ⟨rfl, (Option.some.inj hj).symm⟩
    | 1, hj => exact .inr (.inl ⟨rfl, (Option.some.inj hj).symm⟩)
    | 2, hj => exact .inr (.inr (.inl ⟨rfl, (Option.some.inj hj).symm⟩))
    | 3, hj => exact .inr (.inr (.inr ⟨rfl, (Option.some.inj hj).symm⟩))
    | j + 4, hj => simp at hj
  have c3 : Try.prog.cellsOf 3 = 1 := by kernel_rfl
  have c9 : Try.prog.cellsOf 9 = 1 := by kernel_rfl
  have hsz : fs.size = 4 := by rw [← Array.length_toList, e0]; rfl
  obtain ⟨A, len, cap, V, hcs, hl, hm, hV, hC⟩ := open_structs (m := 4) Try.underlying22 hfs (by omega) hsz (by kernel_rfl) (fun j f hj => by
    rcases hf j f hj with ⟨rfl, rfl⟩ | ⟨rfl, rfl⟩ | ⟨rfl, rfl⟩ | ⟨rfl, rfl⟩
    · rw [g0.1, g0.2]; exact ⟨rfl, c3⟩
    · rw [g1.1, g1.2]; exact ⟨rfl, c3⟩
    · rw [g2.1, g2.2]; exact ⟨rfl, c3⟩
    · rw [g3.1, g3.2]; exact ⟨rfl, c9⟩) h
  have get0 : fs[0]? = some f0 := by rw [← Array.getElem?_toList, e0]; rfl
  have get1 : fs[1]? = some f1 := by rw [← Array.getElem?_toList, e0]; rfl
  have get2 : fs[2]? = some f2 := by rw [← Array.getElem?_toList, e0]; rfl
  have get3 : fs[3]? = some f3 := by rw [← Array.getElem?_toList, e0]; rfl
  have each : ∀ i, i < len → ∃ o : Deed, V i 0 = .int .i64 o.k ∧ V i 1 = .int .i64 o.f ∧ V i 2 = .int .i64 o.s ∧ V i 3 = .string o.d := fun i hi => by
    obtain ⟨n0, y0, h0⟩ := hV i hi 0 f0 get0
    obtain ⟨n1, y1, h1⟩ := hV i hi 1 f1 get1
    obtain ⟨n2, y2, h2⟩ := hV i hi 2 f2 get2
    obtain ⟨n3, y3, h3⟩ := hV i hi 3 f3 get3
    rw [g0.1] at h0
    rw [g1.1] at h1
    rw [g2.1] at h2
    rw [g3.1] at h3
    obtain ⟨k, hk, _⟩ := one_int Try.underlying3 h0
    obtain ⟨f, hf, _⟩ := one_int Try.underlying3 h1
    obtain ⟨s, hs, _⟩ := one_int Try.underlying3 h2
    obtain ⟨d, hd, _⟩ := one_str Try.underlying9 h3
    exact ⟨⟨k, f, s, d⟩, hk, hf, hs, hd⟩
  haveI : Inhabited Deed := ⟨dz⟩
  obtain ⟨y, hy⟩ := Go.Deep.choose_lt each
  refine ⟨A, len, cap, (List.range len).map y, hcs, by simp, by omega, fun h0 => ?_, fun ts ds hw => weight_ops Try.underlying22 h hcs ts ds hw⟩
  rw [List.length_map, List.length_range] at h0
  obtain ⟨pb, po, hA, hcell⟩ := hC h0
  refine ⟨pb, po, hA, fun i o ho => ?_⟩
  rw [List.getElem?_map] at ho
  obtain ⟨i', hi', rfl⟩ := Option.map_eq_some_iff.1 ho
  obtain ⟨hlt, e⟩ := List.getElem?_eq_some_iff.1 hi'
  rw [List.length_range] at hlt
  rw [List.getElem_range] at e
  subst e
  obtain ⟨z0, z1, z2, z3⟩ := hy i hlt
  have q0 := hcell i hlt 0 (by omega)
  have q1 := hcell i hlt 1 (by omega)
  have q2 := hcell i hlt 2 (by omega)
  have q3 := hcell i hlt 3 (by omega)
  rw [z0] at q0
  rw [z1] at q1
  rw [z2] at q2
  rw [z3] at q3
  exact ⟨q0, q1, q2, q3⟩
end
end Go.Proofs.Ytiehpaffbaafcaa
