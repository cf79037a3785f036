/-
  A text in two copies, in plain words: what stands there behind a loss of power in a fill with bytes 0, in a save; the text that was, or the new one. No program here. No conditions.
-/
import Derived.Test.YtfpkgcofkgpgnaaDoorMg12
import Derived.Test.YtfpkgcofkgpgnaaDoorMg5
set_option maxRecDepth 100000
namespace Go.Proofs.YtfpkgcofkgpgnaaDoor
open Go Go.RowKit Pn Dk Sl
namespace Sl
/-- Of sectors of one text, some of which are there, the others without a number, all is got, or nothing. -/
theorem part_got (u : ByteArray) (g : Nat) (hu : u.size ≤ 1024) (hg1 : 1 ≤ g) (hg2 : g ≤ 2147483647) (rd : Nat → Nat → UInt8) (n p : Nat) (hp : p + szN u.size ≤ n)
    (hrd : ∀ i, i < szN u.size → numG (rd (p + i)) = 0 ∨ ∀ j, j < 32 → rd (p + i) j = secF g (sealL u) i j) :
    (getR rd n p = (u, g, 0) ∧ ∀ i, i < szN u.size → ∀ j, j < 32 → rd (p + i) j = secF g (sealL u) i j) ∨ (getR rd n p = (⟨#[]⟩, 0, 5) ∧ ∃ i, i < szN u.size ∧ numG (rd (p + i)) = 0) := by
  by_cases hall : ∀ i, i < szN u.size → ∀ j, j < 32 → rd (p + i) j = secF g (sealL u) i j
  · exact .inl ⟨got hg1 hg2 hu hp hall, hall⟩
  · have h2 := szN_two u.size
    obtain ⟨i, hi, h0⟩ : ∃ i, i < szN u.size ∧ numG (rd (p + i)) = 0 := by
      refine Classical.byContradiction fun h => hall fun i hi => ?_
      rcases hrd i hi with h0 | h1
      · exact absurd ⟨i, hi, h0⟩ h
      · exact h1
    refine .inr ⟨ok_not ?_, i, hi, h0⟩
    rw [Bool.eq_false_iff]
    intro ho
    obtain ⟨o1, o2, _, o4⟩ := (okG_iff rd n p).1 ho
    have r1 : ∀ j, j < 32 → rd (p + 1) j = secF g (sealL u) 1 j := by
      rcases hrd 1 (by omega) with h | h
      · have := ((jnOk_iff _ _ _ _ _).1 o2 1 (by omega)).2
        omega
      · exact h
    have hlen : Sl.lenV rd p = u.size := by
      refine (show Sl.lenV rd p = Sl.lenV (fun r => secF g (sealL u) (r - p)) p from ?_).trans (len_sealed (rd := fun r => secF g (sealL u) (r - p)) (num := g) hu fun q hq j hj => by rw [Nat.add_sub_cancel_left])
      have h1 : ∀ j, j < 32 → rd (p + 1) j = secF g (sealL u) (p + 1 - p) j := fun j hj => by rw [r1 j hj, Nat.add_sub_cancel_left]
      unfold Sl.lenV
      rw [h1 4 (by omega), h1 5 (by omega), h1 6 (by omega), h1 7 (by omega)]
    have := ((jnOk_iff _ _ _ _ _).1 o4 i (by rw [hlen]; exact hi)).2
    omega
end Sl
namespace Dk
section
variable (x : St) (f : Nat) (g : Nat → UInt8)
theorem chg_full (h : x.Full) (p : Nat) : (x.chg p g).Full := by
  unfold St.chg
  split
  · exact h
  · exact full_put (x := x.burnt) h _ _
theorem filled_full2 (h : x.Full) : ∀ k, (x.filled f g k).Full
  | 0 => h
  | k + 1 => chg_full _ g (filled_full2 h k) (f + k)
theorem filled_writes : ∀ k y, y ∈ (x.filled f g k).loose → y ∈ x.loose ∨ ∃ i, i < k ∧ y = (f + i, bs (secS g))
  | 0, _, h => .inl h
  | k + 1, y, h => by
    have h' : y ∈ ((x.filled f g k).chg (f + k) g).loose := h
    unfold St.chg at h'
    split at h'
    · rcases filled_writes k y h' with h1 | ⟨i, hi, h1⟩
      · exact .inl h1
      · exact .inr ⟨i, by omega, h1⟩
    · have h2 : y ∈ (x.filled f g k).loose ++ [(f + k, bs (secS g))] := h'
      rcases List.mem_append.1 h2 with h3 | h3
      · rcases filled_writes k y h3 with h1 | ⟨i, hi, h1⟩
        · exact .inl h1
        · exact .inr ⟨i, by omega, h1⟩
      · rw [List.mem_singleton] at h3
        exact .inr ⟨k, by omega, h3⟩
/-- Behind a loss of power in a fill each sector is as it was, or filled. -/
theorem filled_fall (h : x.Full) (hl : x.loose = []) (k : Nat) (kl : List Bool) (q : Nat) :
    (∀ j, j < 32 → sect ((x.filled f g k).fall kl).now q j = sect x.safe q j) ∨ (f ≤ q ∧ q < f + k ∧ ∀ j, j < 32 → sect ((x.filled f g k).fall kl).now q j = g j) := by
  rcases fall_sect (filled_full2 x f g h k) kl q with h1 | ⟨i, hi, h2, h3⟩
  · refine .inl fun j hj => ?_
    rw [h1 j hj, filled_safe]
  · have hm : (x.filled f g k).loose.getD i noWr ∈ (x.filled f g k).loose := by
      rw [List.getD_eq_getElem?_getD, List.getElem?_eq_getElem hi]
      exact List.getElem_mem hi
    rcases filled_writes x f g k _ hm with h4 | ⟨i', hi', h4⟩
    · rw [hl] at h4
      cases h4
    · rw [h4] at h2 h3
      have h2' : f + i' = q := h2
      refine .inr ⟨by omega, by omega, fun j hj => ?_⟩
      rw [h3 j hj]
      exact bs_secS g j hj
end
theorem fall_now {x : St} (h : x.Full) (kl : List Bool) (q j : Nat) (hj : j < 32) : sect (x.fall kl).now q j = sect (x.fall kl).safe q j := by
  show sect (fn (fs x.safe x.loose (kp kl) x.loose.length) x.now x.loose x.loose.length) q j = sect (fs x.safe x.loose (kp kl) x.loose.length) q j
  rcases fn_sect (fs x.safe x.loose (kp kl) x.loose.length) x.now x.loose q x.loose.length with h1 | ⟨h1, h2⟩
  · exact h1 j hj
  · rw [h2 j hj, fs_none x.safe x.loose (kp kl) q _ h1 j hj, ← fs_none x.safe x.loose (fun _ => true) q _ h1 j hj]
    have : fs x.safe x.loose (fun _ => true) x.loose.length = x.now := h
    rw [this]
theorem fall_full {x : St} (h : x.Full) (kl : List Bool) : (x.fall kl).come.Full := by
  show (x.fall kl).safe = (x.fall kl).now
  funext k
  have := fall_now h kl (k / 32) (k % 32) (by omega)
  unfold sect at this
  rw [show k / 32 * 32 + k % 32 = k by omega] at this
  exact this.symm
end Dk
namespace Tw
/-- Sectors of one text, some of them, the others without a number. -/
structure Some (F : Nat → UInt8) (o : Nat) (u : ByteArray) (g : Nat) : Prop where
  size : u.size ≤ 1024
  one : 1 ≤ g
  most : g ≤ 2147483647
  at_ : ∀ i, i < szN u.size → numG (sect F (o + i)) = 0 ∨ ∀ j, j < 32 → sect F (o + i) j = secF g (sealL u) i j
/-- All of them. -/
def Whole (F : Nat → UInt8) (o : Nat) (u : ByteArray) (g : Nat) : Prop := ∀ i, i < szN u.size → ∀ j, j < 32 → sect F (o + i) j = secF g (sealL u) i j
theorem Whole.congr {F H : Nat → UInt8} {o : Nat} {u : ByteArray} {g : Nat} (h : Whole F o u g) (e : ∀ i, i < szN u.size → ∀ j, j < 32 → sect H (o + i) j = sect F (o + i) j) : Whole H o u g := fun i hi j hj => (e i hi j hj).trans (h i hi j hj)
/-- A copy that isn't the last one: some sectors of one text: an older one's, or not all. -/
def Old (F : Nat → UInt8) (o gen : Nat) (lim : Nat) : Prop := ∃ u g, Some F o u g ∧ szN u.size ≤ lim ∧ (g < gen ∨ ∃ i, i < szN u.size ∧ numG (sect F (o + i)) = 0)
theorem Old.zero {F : Nat → UInt8} {o gen lim : Nat} (h2 : 2 ≤ lim) (h : ∀ i, i < lim → numG (sect F (o + i)) = 0) : Old F o gen lim :=
  ⟨⟨#[]⟩, 1, ⟨by decide, by decide, by decide, fun i hi => .inl (h i (Nat.lt_of_lt_of_le hi (show szN 0 ≤ lim from h2)))⟩, h2, .inr ⟨0, by decide, h 0 (by omega)⟩⟩
/-- Zeroing sectors leaves such a copy such a one. -/
theorem Old.zeroed {F H : Nat → UInt8} {o gen lim : Nat} (h : Old F o gen lim) (e : ∀ i, i < lim → numG (sect H (o + i)) = 0 ∨ ∀ j, j < 32 → sect H (o + i) j = sect F (o + i) j) : Old H o gen lim := by
  obtain ⟨u, g, hs, hl, hw⟩ := h
  refine ⟨u, g, ⟨hs.size, hs.one, hs.most, fun i hi => ?_⟩, hl, ?_⟩
  · rcases e i (by omega) with h0 | h1
    · exact .inl h0
    · rcases hs.at_ i hi with h2 | h2
      · exact .inl ((numG_congr h1).trans h2)
      · exact .inr fun j hj => (h1 j hj).trans (h2 j hj)
  · rcases hw with hw | ⟨i, hi, h0⟩
    · exact .inl hw
    · refine .inr ⟨i, hi, ?_⟩
      rcases e i (by omega) with h1 | h1
      · exact h1
      · exact (numG_congr h1).trans h0
/-- What is got of it: nothing, or a lesser number. -/
theorem Old.got {rd : Nat → Nat → UInt8} {F : Nat → UInt8} {o gen lim n p : Nat} (h : Old F o gen lim) (hrd : ∀ i, i < lim → ∀ j, j < 32 → rd (p + i) j = sect F (o + i) j) (hn : p + lim ≤ n) :
    (∃ u g, getR rd n p = (u, g, 0) ∧ g < gen ∧ szN u.size ≤ lim) ∨ getR rd n p = (⟨#[]⟩, 0, 5) := by
  obtain ⟨u, g, hs, hl, hw⟩ := h
  rcases part_got u g hs.size hs.one hs.most rd n p (by omega) (fun i hi => by
    rcases hs.at_ i hi with h0 | h1
    · exact .inl ((numG_congr (hrd i (by omega))).trans h0)
    · exact .inr fun j hj => (hrd i (by omega) j hj).trans (h1 j hj)) with ⟨h1, h2⟩ | ⟨h1, _⟩
  · rcases hw with hw | ⟨i, hi, h0⟩
    · exact .inl ⟨u, g, h1, hw, hl⟩
    · have h3 := (numG_congr (g := secF g (sealL u) i) fun j hj => by rw [← hrd i (by omega) j hj]; exact h2 i hi j hj).symm.trans h0
      rw [numG_sec g _ _ hs.most] at h3
      have := hs.one
      omega
  · exact .inr h1
theorem Whole.got {rd : Nat → Nat → UInt8} {F : Nat → UInt8} {o n p : Nat} {u : ByteArray} {g : Nat} (h : Whole F o u g) (hu : u.size ≤ 1024) (hg1 : 1 ≤ g) (hg2 : g ≤ 2147483647) (hrd : ∀ i, i < szN u.size → ∀ j, j < 32 → rd (p + i) j = sect F (o + i) j) (hn : p + szN u.size ≤ n) : getR rd n p = (u, g, 0) :=
  Sl.got hg1 hg2 hu hn fun i hi j hj => (hrd i hi j hj).trans (h i hi j hj)
theorem num_zero : numG (fun _ => 0) = 0 := by decide
/-- A disk with two copies of lim places, at a the last one, at o the other. -/
structure Pair (x : St) (a o lim gen : Nat) (t : ByteArray) : Prop where
  apart : a + lim ≤ o ∨ o + lim ≤ a
  size : t.size ≤ 1024
  fits : szN t.size ≤ lim
  one : 1 ≤ gen
  loose : x.loose = []
  full : x.Full
  cur : Whole x.now a t gen
  old : Old x.now o gen lim
theorem Pair.safe {x : St} {a o lim gen : Nat} {t : ByteArray} (h : Pair x a o lim gen t) : x.safe = x.now := by
  have := h.full
  unfold St.Full at this
  rw [h.loose] at this
  exact this
section
variable {x : St} {a o lim gen : Nat} {t : ByteArray} (h : Pair x a o lim gen t)
include h
/-- The other copy, filled with nothing and synced. -/
theorem Pair.cleared : Whole (x.filled o (fun _ => 0) lim).now a t gen ∧ ∀ i, i < lim → ∀ j, j < 32 → sect (x.filled o (fun _ => 0) lim).now (o + i) j = 0 := by
  refine ⟨h.cur.congr fun i hi j hj => filled_out x o _ lim (a + i) ?_ j hj, fun i hi j hj => filled_in x o _ lim i hi j hj⟩
  have := h.apart
  have := h.fits
  omega
/-- The power goes in the fill. -/
theorem Pair.fill_fall (k : Nat) (hk : k ≤ lim) (kl : List Bool) : Pair ((x.filled o (fun _ => 0) k).fall kl).come a o lim gen t := by
  have hf := filled_fall x o (fun _ => 0) h.full h.loose k kl
  have hs := h.safe
  have hap := h.apart
  have hfi := h.fits
  refine ⟨h.apart, h.size, h.fits, h.one, rfl, fall_full (filled_full2 x o _ h.full k) kl, h.cur.congr fun i hi j hj => ?_, h.old.zeroed fun i hi => ?_⟩
  · rcases hf (a + i) with h1 | ⟨h1, h2, _⟩
    · rw [← hs]
      exact h1 j hj
    · omega
  · rcases hf (o + i) with h1 | ⟨_, _, h3⟩
    · exact .inr fun j hj => by
        rw [← hs]
        exact h1 j hj
    · exact .inl ((numG_congr (g := fun _ => 0) h3).trans num_zero)
/-- The power goes in the writes behind it: the text that was, or the new one. -/
theorem Pair.put_fall (s : ByteArray) (hs : s.size ≤ 1024) (hfs : szN s.size ≤ lim) (hg : gen + 1 ≤ 2147483647) (k : Nat) (hk : k ≤ szN s.size) (kl : List Bool) (y : St) (hy : y = ((x.filled o (fun _ => 0) lim).burnt.synced.laid o (secF (gen + 1) (sealL s)) k).fall kl) :
    Pair y.come a o lim gen t ∨ Pair y.come o a lim (gen + 1) s := by
  subst hy
  obtain ⟨c1, c2⟩ := h.cleared
  have hap := h.apart
  have hfi := h.fits
  have hfu : (x.filled o (fun _ => 0) lim).burnt.Full := filled_full2 x o _ h.full lim
  have hsy := full_synced hfu
  have hF : (((x.filled o (fun _ => 0) lim).burnt.synced.laid o (secF (gen + 1) (sealL s)) k).fall kl).come.Full := fall_full (laid_full _ _ _ hsy.1 k) kl
  have hn : ∀ q j, j < 32 → sect (((x.filled o (fun _ => 0) lim).burnt.synced.laid o (secF (gen + 1) (sealL s)) k).fall kl).now q j = if o ≤ q ∧ q < o + k then (if kp kl (q - o) = true then secF (gen + 1) (sealL s) (q - o) j else sect (x.filled o (fun _ => 0) lim).now q j) else sect (x.filled o (fun _ => 0) lim).now q j := fun q j hj => by
    have := laid_fall (x.filled o (fun _ => 0) lim).burnt.synced o (secF (gen + 1) (sealL s)) rfl k kl q j hj
    rw [hsy.2] at this
    exact this
  have hcur : Whole (((x.filled o (fun _ => 0) lim).burnt.synced.laid o (secF (gen + 1) (sealL s)) k).fall kl).now a t gen := c1.congr fun i hi j hj => by
    rw [hn (a + i) j hj, if_neg (by omega)]
  have hoth : ∀ i, i < szN s.size → numG (sect (((x.filled o (fun _ => 0) lim).burnt.synced.laid o (secF (gen + 1) (sealL s)) k).fall kl).now (o + i)) = 0 ∨ ∀ j, j < 32 → sect (((x.filled o (fun _ => 0) lim).burnt.synced.laid o (secF (gen + 1) (sealL s)) k).fall kl).now (o + i) j = secF (gen + 1) (sealL s) i j := fun i hi => by
    by_cases hik : i < k ∧ kp kl i = true
    · refine .inr fun j hj => ?_
      rw [hn (o + i) j hj, if_pos ⟨by omega, by omega⟩, Nat.add_sub_cancel_left, if_pos hik.2]
    · refine .inl ((numG_congr (g := fun _ => 0) fun j hj => ?_).trans num_zero)
      rw [hn (o + i) j hj, Nat.add_sub_cancel_left]
      by_cases h1 : o ≤ o + i ∧ o + i < o + k
      · rw [if_pos h1, if_neg (fun h2 => hik ⟨by omega, h2⟩)]
        exact c2 i (by omega) j hj
      · rw [if_neg h1]
        exact c2 i (by omega) j hj
  by_cases hw : ∃ i, i < szN s.size ∧ numG (sect (((x.filled o (fun _ => 0) lim).burnt.synced.laid o (secF (gen + 1) (sealL s)) k).fall kl).now (o + i)) = 0
  · exact .inl ⟨h.apart, h.size, h.fits, h.one, rfl, hF, hcur, s, gen + 1, ⟨hs, by omega, hg, hoth⟩, hfs, .inr hw⟩
  · refine .inr ⟨hap.symm, hs, hfs, by omega, rfl, hF, fun i hi => ?_, t, gen, ⟨h.size, h.one, by omega, fun i hi => .inr (hcur i hi)⟩, h.fits, .inl (by omega)⟩
    rcases hoth i hi with h0 | h1
    · exact absurd ⟨i, hi, h0⟩ hw
    · exact h1
/-- The save went well. -/
theorem Pair.saved (s : ByteArray) (hs : s.size ≤ 1024) (hfs : szN s.size ≤ lim) (hg : gen ≤ 2147483646) (y : St) (hy : y = ((x.filled o (fun _ => 0) lim).burnt.synced.laid o (secF (gen + 1) (sealL s)) (szN s.size)).burnt.synced) :
    Pair y o a lim (gen + 1) s := by
  subst hy
  obtain ⟨c1, _⟩ := h.cleared
  have hap := h.apart
  have hfi := h.fits
  have hfu : (x.filled o (fun _ => 0) lim).burnt.Full := filled_full2 x o _ h.full lim
  have hsy := full_synced hfu
  have hF : ((x.filled o (fun _ => 0) lim).burnt.synced.laid o (secF (gen + 1) (sealL s)) (szN s.size)).burnt.Full := laid_full _ _ _ hsy.1 _
  refine ⟨hap.symm, hs, hfs, by omega, rfl, (full_synced hF).1, fun i hi j hj => laid_in _ o _ _ i hi j hj, t, gen, ⟨h.size, h.one, by omega, fun i hi => .inr fun j hj => ?_⟩, h.fits, .inl (by omega)⟩
  have e : sect ((x.filled o (fun _ => 0) lim).burnt.synced.laid o (secF (gen + 1) (sealL s)) (szN s.size)).now (a + i) j = sect (x.filled o (fun _ => 0) lim).now (a + i) j := laid_out _ o _ _ (a + i) (by omega) j hj
  show sect ((x.filled o (fun _ => 0) lim).burnt.synced.laid o (secF (gen + 1) (sealL s)) (szN s.size)).now (a + i) j = _
  rw [e]
  exact c1 i hi j hj
end
end Tw
end Go.Proofs.YtfpkgcofkgpgnaaDoor
