/-
  Proved: ShaExact, and its tied card. No conditions of mine: the card's tie says how both tables lie.
-/
import Derived.Test.YtnpijnnmnniomaaDoorShaExact02
import Derived.Test.YtnpijnnmnniomaaDoorShaTabs
import Derived.Test.YtnpijnnmnniomaaDoorTie
import Derived.Test.YtnpijnnmnniomaaDoorCards
import Derived.Deep.Strs
namespace Go.Proofs.YtnpijnnmnniomaaDoor.shaExact
open Go.ChangeShapes Go.WideShapes Go.ChangeAt Go.RowKit Sh

theorem contract (H : Type) (enc : TypeId × Value → H) (W : World) (base : Nat) (args : Array Value) (ds gs : List (DataW H)) (before : List MemPlace)
    (hval : ∀ (j : Nat) t v, Tryd.f3.params[j]? = some t → args[j]? = some v → Value.okWide Tryd.prog W .any base t v)
    (hW : DataW.Whole enc Tryd.prog Tryd.f3.params.toList Rows.shaExactSpec.vars false W args.toList ds gs before)
    (hL : laidMetH Tryd.prog Rows.shaExactRow.laid W) :
    Calls Tryd.prog 3 args W fun e W' => ∃ v, e = .returned v ∧ Rows.shaExactSpec.post enc Tryd.prog Tryd.f3 false true false false W args v W' := by
  have hT := tabs_of hL
  have hW' := hW
  obtain ⟨p, q, hA0, hV, rfl, hfz, hnd⟩ := hW
  have hA : DataW.TrodAll enc Tryd.prog W 0 (fun _ => true) true Tryd.f3.params.toList args.toList ds p := hA0
  rw [Tryd.params3] at hA hval
  obtain ⟨v0, d0, hargs, rfl, h0⟩ := trodAll_one hA
  obtain rfl : args = #[v0] := by cases args; simp_all
  obtain ⟨rfl, rfl⟩ := trodVars_none hV
  obtain ⟨A, n, cap, rfl⟩ := okWide_slice Tryd.underlying22 (hval 0 22 v0 rfl rfl)
  have h0k := h0
  obtain ⟨fuel, hf⟩ := h0k
  have fin : ∀ d, DataW.Whole enc Tryd.prog Tryd.f3.params.toList Rows.shaExactSpec.vars false W #[Value.slice A n cap].toList [d] [] (p ++ []) → (∃ ss : List ByteArray, n = ss.length ∧ n ≤ 9223372036854775807 ∧
      (0 < n → ∃ pb po, A = some ⟨pb, po, none⟩ ∧ ∀ k, k < n → W.cell? ⟨pb, po + k, none⟩ = some (.string (ss.getD k ByteArray.empty)))) →
      Calls Tryd.prog 3 #[Value.slice A n cap] W fun e W' => ∃ v, e = .returned v ∧ Rows.shaExactSpec.post enc Tryd.prog Tryd.f3 false true false false W #[Value.slice A n cap] v W' := by
    rintro d hw ⟨ss, h1, h2, h3⟩
    refine (walk ss W A n cap h1 h2 hT h3).mono fun e W' ⟨he, hb⟩ => ?_
    exact ⟨_, he, law_post laidIs hb hw (by kernel_rfl) rfl rfl Tryd.underlying4 rfl rfl rfl⟩
  refine fin d0 hW' ?_
  rcases Go.Deep.open_strs Tryd.underlying22 Tryd.underlying9 (by kernel_rfl) hf with ⟨hcs, hx⟩ | ⟨a, len', cap', m, Sx, hcs, _, hl, hm, hmm, hx, hcell⟩
  · simp [Value.cells] at hcs
    obtain ⟨rfl, rfl, rfl⟩ := hcs
    exact ⟨[], rfl, by omega, fun h => by omega⟩
  · simp [Value.cells] at hcs
    obtain ⟨rfl, rfl, rfl⟩ := hcs
    refine ⟨(List.range n).map Sx, by simp, by unfold maxLen at hm; omega, fun hn => ?_⟩
    have hlm : n ≤ m := by rw [hmm]; split <;> omega
    obtain ⟨b, o, sp⟩ := a
    have hc0 := (hcell 0 (by omega)).1
    simp [Addr.add] at hc0
    obtain rfl : sp = none := World.cell?_spot hc0
    refine ⟨b, o, rfl, fun k hk => ?_⟩
    have := (hcell k (by omega)).1
    rw [Addr.add_lit] at this
    rw [this]
    simp [hk]

set_option maxRecDepth 100000 in
theorem lifted (os : Os) (started : os.Started) (H : Type) (enc : TypeId × Value → H) :
    ReturnsInHanded {} Tryd.checked os 3 .any (fun w args => (Rows.shaExactSpec.pre enc Tryd.prog Tryd.f3 [] false w args ∧ laidMetH Tryd.prog Rows.shaExactRow.laid w) ∧ sizedMet enc Tryd.prog Tryd.f3 (OpenSpec.ofChange Rows.shaExactSpec) false w args)
      (Rows.shaExactSpec.post enc Tryd.prog Tryd.f3 false true false false) := by
  refine returnsInHanded_of_change_and (C := Tryd.checked) (X := fun w _ => laidMetH Tryd.prog Rows.shaExactRow.laid w) (fun _ _ _ hh h => h.of_heap hh) ownIs started (by kernel_rfl) Tryd.func3
    (ChangeSpec.witness_shaped (enc := enc) (C := Tryd.checked) (os := os) (X := fun w _ => laidMetH Tryd.prog Rows.shaExactRow.laid w) false (World.doorLaid Tryd.prog 19 os) #[.slice none 0 0] 8 rfl (World.shaped_of_RefB (by kernel_rfl) (by kernel_rfl)) (by kernel_rfl) (by kernel_rfl) (by kernel_rfl) (sha_met os _)) ?_
  intro W base args ds gs before hval hW _ _ hL _
  exact contract H enc W base args ds gs before hval hW hL

theorem shaExact_holds : Rows.ShaExactSaid :=
  OpenClaim.holds_of_wide 3 Tryd.f3 rfl rfl rfl rfl rfl rfl rfl ⟨rfl, rfl, rfl, rfl, rfl⟩ rfl rfl rfl rfl rfl (by kernel_rfl) Tryd.func3 (by kernel_rfl)
    (of_decide_eq_true (by kernel_rfl)) (by unfold Func.isWrapper; first | (rw [if_pos (by decide +kernel)]; kernel_rfl) | (rw [if_neg (by decide +kernel)]; exact ⟨rfl, rfl⟩))
    (fun os started H enc _ => lifted os started H enc)

theorem card_holds : Rows.ShaExactCardSaid :=
  Claim7.holds_tied_plain_at .later [] [.data, .data] true (true, "031e74d391d8ede859cfaa7092114a32175d327ce26c04fea68aa2ac075cbed2") false
    shaExact_holds (fun _ h => by cases h) (by kernel_rfl) (fun _ h => by cases h) shaExact_row_tie rfl ⟨rfl, rfl⟩ (by kernel_rfl) rfl
    (fun f fn hf hfn => by
      obtain rfl : f = 3 := Option.some.inj ((show Tryd.prog.funcNamed "coadjutor/coadjutorlaw02.ShaExact" = some 3 by kernel_rfl).symm.trans hf) |>.symm
      obtain rfl : fn = Tryd.f3 := (Option.some.inj (Tryd.func3.symm.trans hfn)).symm
      exact ⟨by kernel_rfl, fun j t ht => by
        rw [Tryd.params3] at ht
        have hm : t ∈ [22] := by simpa using Array.mem_of_getElem? ht
        have hall : ([22].all fun u => !Tryd.prog.wantsStandIn u) = true := by kernel_rfl
        exact (show Tryd.prog.wantsStandIn t = false by simpa using List.all_eq_true.1 hall t hm)⟩)
    (by kernel_rfl)
end Go.Proofs.YtnpijnnmnniomaaDoor.shaExact
