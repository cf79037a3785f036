/-
  Of sectors of several texts, each of a number of its own, mixed, some without a number: nothing is got but one of them, that whose number the first sector has. No program here. No conditions.
  SlotApart in plain words: five places of three sectors, texts put by turns, synced once; what is got of each place when the power has gone. No program here. No conditions.
-/
import Derived.Test.YtfpkgcofkgpgnaaDoorMg17
set_option maxRecDepth 100000
namespace Go.Proofs.YtfpkgcofkgpgnaaDoor
open Go Go.RowKit Pn Dk Sl
namespace Sl
theorem many_got (rd : Nat → Nat → UInt8) (n p lim : Nat) (T : Nat → ByteArray) (P : Nat → Prop) (hT : ∀ m, P m → (T m).size ≤ 1024 ∧ 1 ≤ m ∧ m ≤ 2147483647 ∧ szN (T m).size ≤ lim) (h2 : 2 ≤ lim) (hp : p + lim ≤ n)
    (hrd : ∀ q, q < lim → numG (rd (p + q)) = 0 ∨ ∃ m, P m ∧ q < szN (T m).size ∧ ∀ j, j < 32 → rd (p + q) j = secF m (sealL (T m)) q j) :
    (∃ m, P m ∧ numG (rd p) = m ∧ getR rd n p = (T m, m, 0)) ∨ getR rd n p = (⟨#[]⟩, 0, 5) := by
  cases ho : okG rd n p with
  | false => exact .inr (ok_not ho)
  | true =>
    obtain ⟨o1, o2, _, o4⟩ := (okG_iff rd n p).1 ho
    have key : ∀ q, q < lim → numG (rd (p + q)) = numG (rd p) → ∃ m, P m ∧ numG (rd p) = m ∧ q < szN (T m).size ∧ ∀ j, j < 32 → rd (p + q) j = secF m (sealL (T m)) q j := fun q hq he => by
      rcases hrd q hq with h0 | ⟨m, hm, h1, h3⟩
      · omega
      · have hn := (numG_congr h3).trans (numG_sec m _ _ (hT m hm).2.2.1)
        exact ⟨m, hm, by omega, h1, h3⟩
    obtain ⟨m, hm, hnm, _, _⟩ := key 0 (by omega) rfl
    obtain ⟨t1, t2, t3, t4⟩ := hT m hm
    have same : ∀ q, q < lim → numG (rd (p + q)) = numG (rd p) → q < szN (T m).size ∧ ∀ j, j < 32 → rd (p + q) j = secF m (sealL (T m)) q j := fun q hq he => by
      obtain ⟨m', _, hn', h1, h3⟩ := key q hq he
      obtain rfl : m' = m := by omega
      exact ⟨h1, h3⟩
    obtain ⟨_, r1⟩ := same 1 (by omega) ((jnOk_iff _ _ _ _ _).1 o2 1 (by omega)).2
    have hlen : lenV rd p = (T m).size := by
      refine (show lenV rd p = lenV (fun r => secF m (sealL (T m)) (r - p)) p from ?_).trans (len_sealed (rd := fun r => secF m (sealL (T m)) (r - p)) (num := m) t1 fun q hq j hj => by rw [Nat.add_sub_cancel_left])
      unfold lenV
      have h1 : ∀ j, j < 32 → rd (p + 1) j = secF m (sealL (T m)) (p + 1 - p) j := fun j hj => by rw [r1 j hj, Nat.add_sub_cancel_left]
      rw [h1 4 (by omega), h1 5 (by omega), h1 6 (by omega), h1 7 (by omega)]
    rw [hlen] at o4
    exact .inl ⟨m, hm, hnm, got t2 t3 t1 (by omega) fun q hq j hj => (same q (by omega) ((jnOk_iff _ _ _ _ _).1 o4 q hq).2).2 j hj⟩
end Sl
end Go.Proofs.YtfpkgcofkgpgnaaDoor
namespace Go.Proofs.YtfpkgcofkgpgnaaDoor
open Go Go.RowKit Pn Dk Sl
namespace Sx
/-- Where the text i is put. -/
def pl (i : Nat) : Nat := i * 7 % 5
theorem pl_lt (i : Nat) : pl i < 5 := Nat.mod_lt _ (by decide)
/-- The sector q of the place c is that of the text i. -/
def Sec (F : Nat → UInt8) (L : Nat → ByteArray) (c q i : Nat) : Prop := q < szN (L i).size ∧ ∀ j, j < 32 → sect F (0 + c * 3 + q) j = secF (i + 1) (sealL (L i)) q j
theorem Sec.congr {F H : Nat → UInt8} {L : Nat → ByteArray} {c q i : Nat} (h : Sec F L c q i) (e : ∀ j, j < 32 → sect H (0 + c * 3 + q) j = sect F (0 + c * 3 + q) j) : Sec H L c q i := ⟨h.1, fun j hj => (e j hj).trans (h.2 j hj)⟩
structure Good (F : Nat → UInt8) (L : Nat → ByteArray) (m : Nat) : Prop where
  each : ∀ c q, c < 5 → q < 3 → numG (sect F (0 + c * 3 + q)) = 0 ∨ ∃ i, i < m ∧ pl i = c ∧ Sec F L c q i
  last : ∀ c, c < 5 → ((∀ i, i < m → pl i ≠ c) ∧ numG (sect F (0 + c * 3)) = 0) ∨ ∃ i, i < m ∧ pl i = c ∧ (∀ i', i' < m → pl i' = c → i' ≤ i) ∧ ∀ q, q < 3 → q < szN (L i).size → Sec F L c q i
theorem Good.fresh (L : Nat → ByteArray) : Good (fun _ => 0) L 0 :=
  ⟨fun _ _ _ _ => .inl ((numG_congr (g := fun _ => 0) fun _ _ => rfl).trans Tw.num_zero), fun _ _ => .inl ⟨fun i hi => absurd hi (Nat.not_lt_zero i), (numG_congr (g := fun _ => 0) fun _ _ => rfl).trans Tw.num_zero⟩⟩
theorem sz_three {L : Nat → ByteArray} {i : Nat} (h : (L i).size ≤ 40) : szN (L i).size ≤ 3 := by unfold szN; omega
/-- Behind a put. -/
def putX (x : Dk.St) (L : Nat → ByteArray) (m : Nat) : Dk.St := x.laid (0 + pl m * szN 40) (secF (m + 1) (sealL (L m))) (szN (L m).size)
theorem sz40 : szN 40 = 3 := by decide
section
variable {x : Dk.St} {L : Nat → ByteArray} {m : Nat} (hs : (L m).size ≤ 40)
include hs
omit hs in
theorem put_in (q : Nat) (hq : q < szN (L m).size) : Sec (putX x L m).now L (pl m) q m := by
  refine ⟨hq, fun j hj => ?_⟩
  unfold putX
  rw [sz40]
  exact laid_in x _ _ _ q hq j hj
omit hs in
theorem put_out (p : Nat) (h : p < 0 + pl m * 3 ∨ 0 + pl m * 3 + szN (L m).size ≤ p) : ∀ j, j < 32 → sect (putX x L m).now p j = sect x.now p j := fun j hj => by
  unfold putX
  rw [sz40]
  exact laid_out x _ _ _ p h j hj
theorem Good.put (h : Good x.now L m) : Good (putX x L m).now L (m + 1) := by
  have h3 := sz_three hs
  refine ⟨fun c q hc hq => ?_, fun c hc => ?_⟩
  · by_cases he : pl m = c ∧ q < szN (L m).size
    · obtain ⟨rfl, hq2⟩ := he
      exact .inr ⟨m, Nat.lt_succ_self m, rfl, put_in q hq2⟩
    · have e := put_out (x := x) (L := L) (m := m) (0 + c * 3 + q) (by omega)
      rcases h.each c q hc hq with h0 | ⟨i, hi, hp, hx⟩
      · exact .inl ((numG_congr e).trans h0)
      · exact .inr ⟨i, by omega, hp, hx.congr e⟩
  · by_cases he : pl m = c
    · subst he
      exact .inr ⟨m, Nat.lt_succ_self m, rfl, fun i' hi' _ => by omega, fun q _ hq => put_in q hq⟩
    · rcases h.last c hc with ⟨h0, h1⟩ | ⟨i, hi, hp, hl, hx⟩
      · refine .inl ⟨fun i hi => ?_, (numG_congr (put_out (0 + c * 3) (by omega))).trans h1⟩
        by_cases hm : i = m
        · subst hm; exact he
        · exact h0 i (by omega)
      · refine .inr ⟨i, by omega, hp, fun i' hi' hp' => ?_, fun q hq hq2 => (hx q hq hq2).congr (put_out (0 + c * 3 + q) (by omega))⟩
        by_cases hm : i' = m
        · subst hm; exact absurd hp' he
        · exact hl i' (by omega) hp'
end
/-- The texts as they stood when they were synced; whether another was put since. -/
def safeA (L : Nat → ByteArray) : Nat → Nat → ByteArray
  | 0, _ => ⟨#[]⟩
  | i + 1, c => if pl i = c then L i else safeA L i c
def laterA (n : Nat) : Nat → Nat → Bool
  | 0, _ => false
  | i + 1, c => if n ≤ i ∧ pl i = c then true else laterA n i c
theorem safeA_last (L : Nat → ByteArray) (c i : Nat) (hp : pl i = c) : ∀ m, i < m → (∀ i', i' < m → pl i' = c → i' ≤ i) → safeA L m c = L i
  | m + 1, h, hl => by
    unfold safeA
    by_cases he : i = m
    · subst he
      rw [if_pos hp]
    · rw [if_neg (fun e => by have := hl m (Nat.lt_succ_self m) e; omega)]
      exact safeA_last L c i hp m (by omega) fun i' hi' => hl i' (by omega)
theorem safeA_none (L : Nat → ByteArray) (c : Nat) : ∀ m, (∀ i, i < m → pl i ≠ c) → safeA L m c = ⟨#[]⟩
  | 0, _ => rfl
  | m + 1, h => by
    unfold safeA
    rw [if_neg (h m (Nat.lt_succ_self m))]
    exact safeA_none L c m fun i hi => h i (by omega)
theorem laterA_iff (n c : Nat) : ∀ m, laterA n m c = true ↔ ∃ i, n ≤ i ∧ i < m ∧ pl i = c
  | 0 => by simp [laterA]
  | m + 1 => by
    unfold laterA
    by_cases h : n ≤ m ∧ pl m = c
    · rw [if_pos h]
      exact ⟨fun _ => ⟨m, h.1, Nat.lt_succ_self m, h.2⟩, fun _ => rfl⟩
    · rw [if_neg h, laterA_iff n c m]
      constructor
      · rintro ⟨i, h1, h2, h3⟩
        exact ⟨i, h1, by omega, h3⟩
      · rintro ⟨i, h1, h2, h3⟩
        by_cases he : i = m
        · subst he; exact absurd ⟨h1, h3⟩ h
        · exact ⟨i, h1, by omega, h3⟩
/-- Behind the sync at n: what is safe, and which writes are loose. -/
structure Late (x : Dk.St) (L : Nat → ByteArray) (n m : Nat) : Prop where
  full : x.Full
  safe : Good x.safe L n
  loose : ∀ y ∈ x.loose, ∃ i q, n ≤ i ∧ i < m ∧ q < szN (L i).size ∧ y = (0 + pl i * 3 + q, bs (secS (secF (i + 1) (sealL (L i)) q)))
theorem Late.synced {x : Dk.St} {L : Nat → ByteArray} {n : Nat} (hf : x.Full) (h : Good x.now L n) : Late x.burnt.synced L n n := by
  have hsy := full_synced (x := x.burnt) hf
  refine ⟨hsy.1, ?_, fun y hy => (by cases hy)⟩
  rw [hsy.2]
  exact h
theorem Late.put {x : Dk.St} {L : Nat → ByteArray} {n m : Nat} (h : Late x L n m) (hn : n ≤ m) : Late (putX x L m) L n (m + 1) := by
  refine ⟨laid_full _ _ _ h.full _, ?_, fun y hy => ?_⟩
  · show Good (x.laid _ _ _).safe L n
    rw [laid_safe]
    exact h.safe
  · have hy' : y ∈ (x.laid (0 + pl m * szN 40) (secF (m + 1) (sealL (L m))) (szN (L m).size)).loose := hy
    rw [laid_loose, sz40] at hy'
    rcases List.mem_append.1 hy' with h1 | h1
    · obtain ⟨i, q, h2, h3, h4⟩ := h.loose y h1
      exact ⟨i, q, h2, by omega, h4⟩
    · obtain ⟨q, hq, rfl⟩ := List.mem_map.1 h1
      exact ⟨m, q, hn, Nat.lt_succ_self m, List.mem_range.1 hq, rfl⟩
section
variable {x : Dk.St} {L : Nat → ByteArray} {n m : Nat} (h : Late x L n m) (hL : ∀ i, i < m → 1 ≤ (L i).size ∧ (L i).size ≤ 40) (hnm : n ≤ m) (hm : m ≤ 12) (kl : List Bool)
include h hL
/-- A sector behind the loss of power: as it was safe, or of a text that was put since. -/
theorem Late.sector (c q : Nat) (hq : q < 3) : (∀ j, j < 32 → sect (x.fall kl).now (0 + c * 3 + q) j = sect x.safe (0 + c * 3 + q) j) ∨ ∃ i, n ≤ i ∧ i < m ∧ pl i = c ∧ Sec (x.fall kl).now L c q i := by
  rcases fall_sect h.full kl (0 + c * 3 + q) with h1 | ⟨k, hk, h2, h3⟩
  · exact .inl h1
  · have hmem : x.loose.getD k noWr ∈ x.loose := by
      rw [List.getD_eq_getElem?_getD, List.getElem?_eq_getElem hk]
      exact List.getElem_mem hk
    obtain ⟨i, q', h4, h5, h6, h7⟩ := h.loose _ hmem
    rw [h7] at h2 h3
    have h3s := sz_three (L := L) (i := i) (hL i h5).2
    have h2' : 0 + pl i * 3 + q' = 0 + c * 3 + q := h2
    have hc : pl i = c := by omega
    have hqq : q' = q := by omega
    subst hc hqq
    exact .inr ⟨i, h4, h5, rfl, h6, fun j hj => (h3 j hj).trans (bs_secS _ _ hj)⟩
include hnm hm
theorem Late.keeps (c : Nat) (hc : c < 5) (hl : laterA n m c = false) : getK (x.fall kl).come 0 16 40 c = if safeA L n c = ⟨#[]⟩ then (⟨#[]⟩, 0, 5) else (safeA L n c, (getK (x.fall kl).come 0 16 40 c).2.1, 0) := by
  have hno : ∀ i, n ≤ i → i < m → pl i ≠ c := fun i h1 h2 h3 => by
    rw [(laterA_iff n c m).2 ⟨i, h1, h2, h3⟩] at hl
    cases hl
  have hsec : ∀ q, q < 3 → ∀ j, j < 32 → sect (x.fall kl).come.now (0 + c * 3 + q) j = sect x.safe (0 + c * 3 + q) j := fun q hq => by
    rcases h.sector hL kl c q hq with h1 | ⟨i, h1, h2, h3, _⟩
    · exact h1
    · exact absurd h3 (hno i h1 h2)
  rcases h.safe.last c hc with ⟨h0, h1⟩ | ⟨i, hi, hp, hla, hx⟩
  · rw [safeA_none L c n h0, if_pos rfl]
    exact getK_none _ 0 16 40 c (by rw [sz40]; exact (numG_congr (hsec 0 (by decide))).trans h1)
  · have hz := hL i (by omega)
    have h3s := sz_three (L := L) (i := i) hz.2
    have hg : getK (x.fall kl).come 0 16 40 c = (L i, i + 1, 0) := getK_put _ 0 16 40 c (i + 1) (L i) (by omega) (by omega) hz.2 (by decide) (by rw [sz40]; omega) (fun q hq j hj => by
      rw [sz40, hsec q (by omega) j hj]
      exact (hx q (by omega) hq).2 j hj)
    rw [safeA_last L c i hp n hi hla, hg, if_neg (fun e => by rw [e] at hz; exact absurd hz.1 (by decide))]
theorem Late.mixes (c : Nat) (hc : c < 5) : getK (x.fall kl).come 0 16 40 c = (⟨#[]⟩, 0, 5) ∨ ∃ i, i < m ∧ getK (x.fall kl).come 0 16 40 c = (L i, i + 1, 0) ∧ (n ≤ i ∧ pl i = c ∨ L i = safeA L n c) := by
  have hT : ∀ k, (∃ i, i < m ∧ pl i = c ∧ k = i + 1) → (L (k - 1)).size ≤ 1024 ∧ 1 ≤ k ∧ k ≤ 2147483647 ∧ szN (L (k - 1)).size ≤ 3 := fun k ⟨i, hi, _, hk⟩ => by
    subst hk
    rw [Nat.add_sub_cancel]
    have hz := hL i hi
    have h3s := sz_three (L := L) (i := i) hz.2
    omega
  have hsec : ∀ q, q < 3 → numG (sect (x.fall kl).come.now (0 + c * 3 + q)) = 0 ∨ ∃ i, i < m ∧ pl i = c ∧ Sec (x.fall kl).come.now L c q i := fun q hq => by
    rcases h.sector hL kl c q hq with h1 | ⟨i, h1, h2, h3, h4⟩
    · rcases h.safe.each c q hc hq with h0 | ⟨i, hi, hp, hx⟩
      · exact .inl ((numG_congr h1).trans h0)
      · exact .inr ⟨i, by omega, hp, hx.congr h1⟩
    · exact .inr ⟨i, h2, h3, h4⟩
  have hrd : ∀ q, q < 3 → numG (rdZ (x.fall kl).come 0 (c * 3 + q)) = 0 ∨ ∃ k, (∃ i, i < m ∧ pl i = c ∧ k = i + 1) ∧ q < szN (L (k - 1)).size ∧ ∀ j, j < 32 → rdZ (x.fall kl).come 0 (c * 3 + q) j = secF k (sealL (L (k - 1))) q j := fun q hq => by
    rcases hsec q hq with h0 | ⟨i, hi, hp, hx⟩
    · refine .inl ?_
      show numG (sect _ (0 + (c * 3 + q))) = 0
      rw [← Nat.add_assoc]
      exact h0
    · refine .inr ⟨i + 1, ⟨i, hi, hp, rfl⟩, hx.1, fun j hj => ?_⟩
      show sect _ (0 + (c * 3 + q)) j = _
      rw [← Nat.add_assoc]
      exact hx.2 j hj
  rcases many_got (rdZ (x.fall kl).come 0) 16 (c * 3) 3 (fun k => L (k - 1)) (fun k => ∃ i, i < m ∧ pl i = c ∧ k = i + 1) hT (by decide) (by omega) hrd with ⟨k, ⟨i, hi, hp, rfl⟩, hnum, hg⟩ | hg
  · have hz := hL i hi
    refine .inr ⟨i, hi, ?_, ?_⟩
    · unfold getK
      rw [sz40, hg]
      exact limR_ok hz.2
    · by_cases hn : n ≤ i
      · exact .inl ⟨hn, hp⟩
      · refine .inr ?_
        have hnum' : numG (sect (x.fall kl).now (0 + c * 3 + 0)) = i + 1 := by
          have e : numG (sect (x.fall kl).now (0 + c * 3)) = i + 1 := hnum
          exact e
        rcases h.sector hL kl c 0 (by decide) with h1 | ⟨i', h1, h2, _, h4⟩
        · rcases h.safe.last c hc with ⟨_, h0⟩ | ⟨i', hi', hp', hla, hx⟩
          · have := (numG_congr h1).trans h0
            omega
          · have h2 := szN_two (L i').size
            have h5 := (numG_congr h1).trans ((numG_congr (hx 0 (by decide) (by omega)).2).trans (numG_sec (i' + 1) _ _ (by omega)))
            obtain rfl : i' = i := by omega
            exact (safeA_last L c i' hp' n hi' hla).symm
        · have h5 := (numG_congr h4.2).trans (numG_sec (i' + 1) _ _ (by omega))
          omega
  · refine .inl ?_
    unfold getK
    rw [sz40, hg]
    exact limR_err (by decide)
end
end Sx
end Go.Proofs.YtfpkgcofkgpgnaaDoor
