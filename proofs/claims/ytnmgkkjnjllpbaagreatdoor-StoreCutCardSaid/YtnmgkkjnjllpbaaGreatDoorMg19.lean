/-
  A new disk whose power went in a format, in plain words: nothing is opened, or all was formatted; a disk at rest whose power goes. No program here. No conditions.
-/
import Derived.Test.YtnmgkkjnjllpbaaGreatDoorMg16
set_option maxRecDepth 100000
namespace Go.Proofs.YtnmgkkjnjllpbaaGreatDoor
open Go Go.RowKit Pn Dk Sl Ly Tw

namespace Ly
/-- The power goes, and comes, of a disk all of which is safe. -/
theorem rest_fall {y : Dk.St} (h : y.Full) (hl : y.loose = []) (kl : List Bool) (q j : Nat) (hj : j < 32) : sect (y.fall kl).come.now q j = sect y.now q j := by
  have hs : y.safe = y.now := by
    have := h
    unfold Dk.St.Full at this
    rw [hl] at this
    exact this
  rcases filled_fall y 0 (fun _ => 0) h hl 0 kl q with h1 | ⟨_, h2, _⟩
  · rw [← hs]
    exact h1 j hj
  · omega
theorem got_none {rd : Nat → Nat → UInt8} (h : numG (rd 0) = 0) : getR rd 2 0 = (⟨#[]⟩, 0, 5) := ok_not (by unfold okG; rw [h]; rfl)
theorem got_zero {y : Dk.St} (h : ∀ j, j < 32 → sect y.now 0 j = 0) : getR (rdZ y 0) 2 0 = (⟨#[]⟩, 0, 5) := got_none ((numG_congr (g := fun _ => 0) fun j hj => by show sect y.now (0 + 0) j = 0; exact h j hj).trans num_zero)
theorem got_keep {x y : Dk.St} {s : ByteArray} {g : Nat} (hs : s.size ≤ 1024) (hz : szN s.size = 2) (h1 : 1 ≤ g) (hg : g ≤ 2147483647) (hx : ∀ i, i < 2 → ∀ j, j < 32 → sect x.now i j = secF g (sealL s) i j) (e : ∀ q, q < 2 → ∀ j, j < 32 → sect y.now q j = sect x.now q j) : getR (rdZ y 0) 2 0 = (s, g, 0) :=
  Sl.got h1 hg hs (by rw [hz]; decide) fun i hi j hj => by
    show sect y.now (0 + (0 + i)) j = _
    rw [Nat.zero_add, Nat.zero_add, e i (by omega) j hj]
    exact hx i (by omega) j hj
section
variable {x : Dk.St} {nd r : Nat} {s sup : ByteArray} (hx : x.Full) (hl : x.loose = []) (h0 : ∀ k, x.now k = 0) (hsup : szN sup.size = 2) (h2 : sup.size ≤ 1024) (hr4 : 4 ≤ r) (hs : s.size ≤ 1024) (hp : szN s.size ≤ r / 2)
include hx hl h0 hsup h2 hr4 hs hp
theorem fell_opens {y : Dk.St} (hy : x.FmtFell nd r s sup y) : y.away = true ∧ y.n = x.n ∧ y.loose = [] ∧ (getR (rdZ y.come 0) 2 0 = (⟨#[]⟩, 0, 5) ∨ (getR (rdZ y.come 0) 2 0 = (sup, 1, 0) ∧ Rec y.come r s 1 0)) := by
  have hz : ∀ f n, x.filled f (fun _ => 0) n = x := fun f n => filled_full x f (fun _ => 0) n (fun p _ j _ => h0 _) n (Nat.le_refl _)
  have hrest : ∀ kl, getR (rdZ (x.fall kl).come 0) 2 0 = (⟨#[]⟩, 0, 5) := fun kl => got_zero fun j hj => by
    rw [rest_fall hx hl kl 0 j hj]
    exact h0 _
  rcases hy with ⟨_, k, kl, _, rfl⟩ | ⟨_, k, kl, _, rfl⟩ | ⟨_, k, kl, hk, rfl⟩ | ⟨_, k, kl, hk, rfl⟩
  · rw [hz]
    exact ⟨rfl, rfl, rfl, .inl (hrest kl)⟩
  · rw [hz, hz]
    exact ⟨rfl, rfl, rfl, .inl (hrest kl)⟩
  · have e : x.fmt0 nd r = x := by unfold Dk.St.fmt0; rw [hz, hz]
    rw [e]
    refine ⟨rfl, laid_n _ _ _ _, rfl, .inl (got_zero fun j hj => ?_)⟩
    show sect ((x.laid 2 (secF 1 (sealL s)) k).fall kl).now 0 j = 0
    rw [laid_fall x 2 (secF 1 (sealL s)) hl k kl 0 j hj, if_neg (by omega)]
    exact h0 _
  · have e : x.fmt0 nd r = x := by unfold Dk.St.fmt0; rw [hz, hz]
    have hF : (x.laid 2 (secF 1 (sealL s)) (szN s.size)).burnt.Full := laid_full _ _ _ hx _
    have e1 : x.fmt1 nd r s = (x.laid 2 (secF 1 (sealL s)) (szN s.size)).burnt.synced := by unfold Dk.St.fmt1; rw [e]; rfl
    have hn1 : (x.fmt1 nd r s).n = x.n := fmt1_n _ _ _ _
    have hsy := full_synced hF
    have hss : (x.fmt1 nd r s).safe = (x.fmt1 nd r s).now := by rw [e1]; exact hsy.2
    have hlo : (x.fmt1 nd r s).loose = [] := rfl
    have hR : Rec (x.fmt1 nd r s) r s 1 0 := by
      have hP := formatted (x := x.filled 0 (fun _ => 0) nd) (filled_full2 x 0 _ hx nd) (f := 2) (n := r) hs hp hr4 (x.fmt1 nd r s) rfl
      exact ⟨hs, hp, by decide, by decide, by rw [Nat.zero_mul, Nat.add_zero]; exact hP.cur, by rw [Nat.sub_zero, Nat.one_mul]; exact hP.old⟩
    have hq : ∀ q j, j < 32 → sect (((x.fmt1 nd r s).laid 0 (secF 1 (sealL sup)) k).fall kl).come.now q j = if 0 ≤ q ∧ q < 0 + k then (if kp kl (q - 0) = true then secF 1 (sealL sup) (q - 0) j else sect (x.fmt1 nd r s).safe q j) else sect (x.fmt1 nd r s).now q j := fun q j hj => laid_fall (x.fmt1 nd r s) 0 (secF 1 (sealL sup)) hlo k kl q j hj
    have hz1 : ∀ q, q < 2 → ∀ j, j < 32 → sect (x.fmt1 nd r s).safe q j = 0 := fun q hq2 j hj => by
      rw [hss, e1]
      show sect (x.laid 2 (secF 1 (sealL s)) (szN s.size)).now q j = 0
      rw [laid_out _ _ _ _ _ (by omega) j hj]
      exact h0 _
    refine ⟨rfl, (laid_n _ _ _ _).trans hn1, rfl, ?_⟩
    have hrd : ∀ i, i < szN sup.size → numG (rdZ (((x.fmt1 nd r s).laid 0 (secF 1 (sealL sup)) k).fall kl).come 0 (0 + i)) = 0 ∨ ∀ j, j < 32 → rdZ (((x.fmt1 nd r s).laid 0 (secF 1 (sealL sup)) k).fall kl).come 0 (0 + i) j = secF 1 (sealL sup) i j := fun i hi => by
      have hc : ∀ j, j < 32 → rdZ (((x.fmt1 nd r s).laid 0 (secF 1 (sealL sup)) k).fall kl).come 0 (0 + i) j = sect (((x.fmt1 nd r s).laid 0 (secF 1 (sealL sup)) k).fall kl).come.now i j := fun j _ => by
        show sect _ (0 + (0 + i)) j = _
        rw [Nat.zero_add, Nat.zero_add]
      by_cases hik : i < k ∧ kp kl i = true
      · refine .inr fun j hj => ?_
        rw [hc j hj, hq i j hj, if_pos ⟨Nat.zero_le _, by omega⟩, Nat.sub_zero, if_pos hik.2]
      · refine .inl ((numG_congr (g := fun _ => 0) fun j hj => ?_).trans num_zero)
        rw [hc j hj, hq i j hj, Nat.sub_zero]
        by_cases h1 : 0 ≤ i ∧ i < 0 + k
        · rw [if_pos h1, if_neg (fun h2 => hik ⟨by omega, h2⟩)]
          exact hz1 i (by omega) j hj
        · rw [if_neg h1, ← hss]
          exact hz1 i (by omega) j hj
    rcases part_got sup 1 h2 (by decide) (by decide) (rdZ (((x.fmt1 nd r s).laid 0 (secF 1 (sealL sup)) k).fall kl).come 0) 2 0 (by rw [hsup]; decide) hrd with ⟨g1, _⟩ | ⟨g1, _⟩
    · refine .inr ⟨g1, hR.keep fun q hq2 _ j hj => ?_⟩
      rw [hq q j hj, if_neg (by omega)]
    · exact .inl g1
end
section
variable {x : Dk.St} (hx : x.Full) (nd r : Nat) (s sup : ByteArray) (hsup : szN sup.size = 2) (h2 : sup.size ≤ 1024) (hr4 : 4 ≤ r) (hs : s.size ≤ 1024) (hp : szN s.size ≤ r / 2) (kl : List Bool)
include hx hsup h2 hr4 hs hp
/-- All was formatted, and the power goes, and comes. -/
theorem fmt_rests : getR (rdZ ((x.fmt nd r s sup).fall kl).come 0) 2 0 = (sup, 1, 0) ∧ Rec ((x.fmt nd r s sup).fall kl).come r s 1 0 := by
  have hF := fmt_full hx nd r s sup
  have hr := rest_fall hF rfl kl
  refine ⟨got_keep (x := x.fmt nd r s sup) h2 hsup (by decide) (by decide) (fun i hi j hj => ?_) (fun q _ j hj => hr q j hj), (fmt_rec x nd r s sup hsup hr4 hs hp hx).keep fun q _ _ j hj => hr q j hj⟩
  show sect ((x.fmt1 nd r s).laid 0 (secF 1 (sealL sup)) (szN sup.size)).now i j = _
  have := laid_in (x.fmt1 nd r s) 0 (secF 1 (sealL sup)) (szN sup.size) i (by omega) j hj
  rw [Nat.zero_add] at this
  exact this
end
end Ly
end Go.Proofs.YtnmgkkjnjllpbaaGreatDoor
