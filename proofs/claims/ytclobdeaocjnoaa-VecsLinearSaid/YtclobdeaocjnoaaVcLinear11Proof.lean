/-
  Proved: VecsLinear: for every table and every two rows of numbers the law answers true. No conditions.
-/
import Derived.Test.YtclobdeaocjnoaaVcLinear11
import Derived.Test.YtclobdeaocjnoaaOpenTb
import Derived.Deep.Strs
import Derived.ChangeMaps5
namespace Go.Proofs.Ytclobdeaocjnoaa.vecsLinear
open Go.ChangeShapes Go.WideShapes Go.ChangeAt Go.RowKit Go.ChangeMaps Nm Vc

set_option maxRecDepth 100000 in
theorem contract (H : Type) (enc : TypeId × Value → H) (W : World) (base : Nat) (args : Array Value) (ds gs : List (DataW H)) (before : List MemPlace)
    (hval : ∀ (j : Nat) t v, Try.f5.params[j]? = some t → args[j]? = some v → Value.okWide Try.prog W .any base t v)
    (hW : DataW.Whole enc Try.prog Try.f5.params.toList Rows.vecsLinearSpec.vars false W args.toList ds gs before) :
    Calls Try.prog 5 args W fun e W' => ∃ v, e = .returned v ∧ Rows.vecsLinearSpec.post enc Try.prog Try.f5 false true false false W args v W' := by
  have hW' := hW
  obtain ⟨p, q, hA0, hV, rfl, hfz, hnd⟩ := hW
  have hA : DataW.TrodAll enc Try.prog W 0 (fun _ => true) true Try.f5.params.toList args.toList ds p := hA0
  rw [Try.params5] at hA hval
  obtain ⟨v0, vs0, d0, ds0, p0, q0, hargs, rfl, rfl, h0, r0⟩ := trodAll_cons hA
  obtain ⟨v1, vs1, d1, ds1, p1, q1, rfl, rfl, rfl, h1, r1⟩ := trodAll_cons r0
  obtain ⟨v2, vs2, d2, ds2, p2, q2, rfl, rfl, rfl, h2, r2⟩ := trodAll_cons r1
  obtain ⟨rfl, rfl, rfl⟩ := trodAll_nil r2
  obtain rfl : args = #[v0, v1, v2] := by cases args; simp_all
  obtain ⟨rfl, rfl⟩ := trodVars_none hV
  obtain ⟨x0, y0, A0, m0, c0, D0, rfl, hD0, hK0, hI0⟩ := open_tb (hval 0 24 v0 rfl rfl) h0
  obtain ⟨A1, len1, cap1, rfl⟩ := okWide_slice Try.underlying30 (hval 1 30 v1 rfl rfl)
  have hk1 := h1
  obtain ⟨fuel1, hf1⟩ := hk1
  obtain ⟨A1', len1', cap1', X1, hcs1, hl1, hm1, hwf1, hX1⟩ := open_ints_row Try.underlying30 Try.underlying3 (by kernel_rfl) hf1
  simp [Value.cells] at hcs1
  obtain ⟨rfl, rfl, rfl⟩ := hcs1
  obtain ⟨A2, len2, cap2, rfl⟩ := okWide_slice Try.underlying30 (hval 2 30 v2 rfl rfl)
  have hk2 := h2
  obtain ⟨fuel2, hf2⟩ := hk2
  obtain ⟨A2', len2', cap2', X2, hcs2, hl2, hm2, hwf2, hX2⟩ := open_ints_row Try.underlying30 Try.underlying3 (by kernel_rfl) hf2
  simp [Value.cells] at hcs2
  obtain ⟨rfl, rfl, rfl⟩ := hcs2
  refine (walk W x0 y0 A0 m0 c0 D0 A1 len1 cap1 (listOf len1 X1) A2 len2 cap2 (listOf len2 X2) hD0 hK0 hI0 (listOf_length _ _) (kin_of hX1) (listOf_length _ _) (kin_of hX2)).mono fun e W' ⟨he, hb⟩ => ?_
  exact ⟨_, he, law_post laidIs hb hW' (by kernel_rfl) rfl rfl Try.underlying4 rfl rfl rfl⟩

set_option maxRecDepth 100000 in
theorem lifted (os : Os) (started : os.Started) (H : Type) (enc : TypeId × Value → H) :
    ReturnsInHanded {} Try.checked os 5 .any (Rows.vecsLinearSpec.pre6 enc Try.prog Try.f5 Rows.vecsLinearRow.domain false) (Rows.vecsLinearSpec.post enc Try.prog Try.f5 false true false false) :=
  returnsInHanded_of_change (C := Try.checked) ownIs started (by kernel_rfl) Try.func5
    (ChangeSpec.witness6 (enc := enc) (C := Try.checked) false ⟨#[], #[tbV 0 0 none 0 0, .slice none 0 0, .slice none 0 0], []⟩ 8 (by kernel_rfl) (by kernel_rfl) (by kernel_rfl) (by kernel_rfl))
    fun W base args ds gs before hval hW _ _ => contract H enc W base args ds gs before hval hW

theorem vecsLinear_holds : Rows.VecsLinearSaid :=
  OpenClaim.holds_of_wide 5 Try.f5 rfl rfl rfl rfl rfl rfl rfl ⟨rfl, rfl, rfl, rfl, rfl⟩ rfl rfl rfl rfl rfl (by kernel_rfl) Try.func5 (by kernel_rfl)
    (of_decide_eq_true (by kernel_rfl)) (by unfold Func.isWrapper; first | (rw [if_pos (by decide +kernel)]; kernel_rfl) | (rw [if_neg (by decide +kernel)]; exact ⟨rfl, rfl⟩))
    (fun os started H enc _ => lifted os started H enc)
end Go.Proofs.Ytclobdeaocjnoaa.vecsLinear
