/-
  Proved: DiskFuse: a fuse is just so many writes and syncs. No condition.
-/
import Derived.Test.YthmpmpofhpkmjabDkAwake
import Derived.Test.YthmpmpofhpkmjabOpenBytes
namespace Go.Proofs.Ythmpmpofhpkmjab.diskFuse
open Go.ChangeShapes Go.WideShapes Go.ChangeAt Go.RowKit Dk

/-- How many go well. -/
theorem small (r : Int) : ∃ k : Nat, wrap64 ((IntKind.u64.wrap r).tmod 31) = (k : Int) ∧ k ≤ 30 := by
  have h1 : 0 ≤ IntKind.u64.wrap r := by rw [IntKind.wrap_u64]; omega
  rw [Int.tmod_eq_emod_of_nonneg h1, IntWalk.wrap64_in _ ⟨by omega, by omega⟩]
  exact ⟨(IntKind.u64.wrap r % 31).toNat, by omega, by omega⟩
def kl10 : List Bool := List.replicate 10 true
/-- The disk behind i deeds, where n go well. -/
def Deed (n i : Nat) (x : St) : Prop := x.n = 4 ∧ x.loose.length ≤ i ∧ ((i ≤ n ∧ x.away = false ∧ x.fuse = some (n - i, kl10) ∧ x.done = i) ∨ (n < i ∧ x.away = true ∧ x.done = n))
theorem deed_away {n k : Nat} {y : St} (h : Deed n (k + 1) y) : (!y.away) = decide (k < n) := by
  obtain ⟨_, _, ⟨h1, h2, _⟩ | ⟨h1, h2, _⟩⟩ := h
  · rw [h2, decide_eq_true (by omega)]; rfl
  · rw [h2, decide_eq_false (by omega)]; rfl
/-- Which sector. -/
theorem place_of (b : UInt8) : IntKind.i64.wrap ((b.toNat : Int).tmod 4) = ((b.toNat % 4 : Nat) : Int) := by
  rw [Int.tmod_eq_emod_of_nonneg (by omega)]
  exact (IntWalk.i64_in _ (by omega)).trans (by omega)
/-- What a deed says. -/
def said (n k : Nat) : Int := if k < n then 0 else 4
theorem deed_sync {w0 w : World} {D n k : Nat} {x : St} (h : At w0 w D x) (hd : Deed n k x) (hk : k < 30) :
    Calls Try.prog 8 #[.pointer (some ⟨D, 0, none⟩)] w fun e w' => e = .returned (.int .i64 (said n k)) ∧ ∃ y, At w0 w' D y ∧ Deed n (k + 1) y := by
  obtain ⟨h4, hl, ⟨h1, h2, h3, h5⟩ | ⟨h1, h2, h3⟩⟩ := hd
  · by_cases hlt : k < n
    · unfold said
      rw [if_pos hlt]
      obtain ⟨l, hl2⟩ : ∃ l, n - k = l + 1 := ⟨n - k - 1, by omega⟩
      rw [hl2] at h3
      refine (disk_sync_ok _ w D x h.disk h2 (by omega) (disk_burn_some _ w D x h.disk l kl10 h3 (by omega))).mono ?_
      rintro e w' hs
      obtain ⟨rfl, ha⟩ := h.says hs
      refine ⟨rfl, _, ha, h4, Nat.zero_le _, .inl ⟨by omega, h2, ?_, ?_⟩⟩
      · show x.fuse.map _ = _
        rw [h3, show n - (k + 1) = l by omega]
        rfl
      · show x.done + 1 = k + 1
        rw [h5]
    · unfold said
      rw [if_neg hlt]
      rw [show n - k = 0 by omega] at h3
      refine (disk_sync_end _ w D x h.disk h2 kl10 h3 (by omega) (by decide)).mono ?_
      rintro e w' hs
      obtain ⟨rfl, ha⟩ := h.says hs
      exact ⟨rfl, _, ha, h4, Nat.zero_le _, .inr ⟨by omega, rfl, by show x.done = n; omega⟩⟩
  · unfold said
    rw [if_neg (by omega)]
    refine (disk_sync_away _ w D x h.disk h2).mono ?_
    rintro e w' ⟨rfl, rfl⟩
    exact ⟨rfl, x, h, h4, by omega, .inr ⟨by omega, h2, h3⟩⟩
theorem deed_write {w0 w : World} {D n k : Nat} {x : St} (h : At w0 w D x) (hd : Deed n k x) (hk : k < 30) (p : Nat) (hp : p < 4) (q : ByteArray) (hq : q.size = 32) :
    Calls Try.prog 9 #[.pointer (some ⟨D, 0, none⟩), .int .i64 (p : Int), .string q] w fun e w' => e = .returned (.int .i64 (said n k)) ∧ ∃ y, At w0 w' D y ∧ Deed n (k + 1) y := by
  obtain ⟨h4, hl, ⟨h1, h2, h3, h5⟩ | ⟨h1, h2, h3⟩⟩ := hd
  · by_cases hlt : k < n
    · unfold said
      rw [if_pos hlt]
      obtain ⟨l, hl2⟩ : ∃ l, n - k = l + 1 := ⟨n - k - 1, by omega⟩
      rw [hl2] at h3
      refine (disk_write_ok _ w D x h.disk h2 (by omega) p (by omega) q hq h.new (disk_burn_some _ w D x h.disk l kl10 h3 (by omega))).mono ?_
      rintro e w' hs
      obtain ⟨rfl, ha⟩ := h.says hs
      refine ⟨rfl, _, ha, h4, ?_, .inl ⟨by omega, h2, ?_, ?_⟩⟩
      · show (x.loose ++ [(p, bs q)]).length ≤ k + 1
        rw [List.length_append]
        simpa using hl
      · show x.fuse.map _ = _
        rw [h3, show n - (k + 1) = l by omega]
        rfl
      · show x.done + 1 = k + 1
        rw [h5]
    · unfold said
      rw [if_neg hlt]
      rw [show n - k = 0 by omega] at h3
      refine (disk_write_end _ w D x h.disk h2 p (by omega) q hq kl10 h3 (by omega) (by decide)).mono ?_
      rintro e w' hs
      obtain ⟨rfl, ha⟩ := h.says hs
      exact ⟨rfl, _, ha, h4, Nat.zero_le _, .inr ⟨by omega, rfl, by show x.done = n; omega⟩⟩
  · unfold said
    rw [if_neg (by omega)]
    refine (disk_write_away _ w D x h.disk h2 p (by omega) q hq).mono ?_
    rintro e w' ⟨rfl, rfl⟩
    exact ⟨rfl, x, h, h4, by omega, .inr ⟨by omega, h2, h3⟩⟩
set_option maxRecDepth 100000 in
set_option maxHeartbeats 3200000 in
theorem walk (w : World) (A : Option Addr) (len cap : Nat) (X : Nat → UInt8) (r : Int) (hX : BytesIn w A len cap X) :
    Calls Try.prog 3 #[.slice A len cap, .int .i64 r] w fun e w' => e = .returned (.bool true) ∧ Below w.heap.size w w' := by
  have HX := Lib.hid hX
  clear hX
  obtain ⟨n, en, hn⟩ := small r
  go_enter Try.func3, Try.ntmps3
  go_wp2_with (fail)
  refine (awake_any w).mono ?_
  rintro e w1 ⟨rfl, b1⟩
  have B1 := Lib.hid b1
  clear b1
  go_wp2_with (fail)
  refine (at_new w w1 B1.out 4 4 (by omega)).mono ?_
  rintro e w2 ⟨D, rfl, h2⟩
  have H2 := Lib.hid h2
  clear h2 B1
  go_wp2_with (fail)
  refine (H2.out.fuseNew rfl n (by omega) kl10 (by decide)).mono ?_
  rintro e w3 ⟨rfl, h3⟩
  have H3 := Lib.hid (show ∃ x, At w w3 D x ∧ Deed n 0 x from ⟨_, h3, rfl, Nat.le_refl _, .inl ⟨Nat.zero_le _, rfl, rfl, rfl⟩⟩)
  clear h3 H2
  rw [en]
  clear en
  go_wp2_with (fail)
  go_loopw [7] (fun i wr => ∃ k : Nat, i = .int .i64 (k : Int) ∧ k ≤ len ∧ k ≤ 30 ∧ ∃ x, At w wr D x ∧ Deed n k x) (fun i _ => match i with | .int _ k => 30 - k.toNat | _ => 0)
  case atStart => exact ⟨0, rfl, Nat.zero_le _, Nat.zero_le _, H3.out⟩
  case round =>
    clear H3
    obtain ⟨k, rfl, hkl, hk30, x, hat, hd⟩ := hrel
    have HAT := Lib.hid hat
    have HD := Lib.hid hd
    clear hat hd
    have x2 : 0 ≤ (k : Int) := by omega
    by_cases hgo : k < len ∧ k < 30
    · obtain ⟨h1, h2⟩ := hgo
      have x0 : (k : Int) < (len : Int) := by omega
      have x1 : decide ((k : Int) < (len : Int)) = true := decide_eq_true x0
      have x3 : (k : Int) < 30 := by omega
      have x4 : decide ((k : Int) < 30) = true := decide_eq_true x3
      obtain ⟨hlc, hcm, hc⟩ := HX.out
      obtain ⟨pb, po, rfl, hcell⟩ := hc (by omega)
      have hpb : pb < w.heap.size := block_lt_of_cell (hcell k h1)
      have HC := Lib.hid (show ∀ W : World, Below w.heap.size w W → W.cell? ⟨pb, po + k, none⟩ = some (.int .u8 ((X k).toNat : Int)) from fun W hW => (World.cell?_of_block (w := w) (a := ⟨pb, po + k, none⟩) (hW.block pb hpb)).trans (hcell k h1))
      have c1 := HC.out wr HAT.out.below
      have hbl : (X k).toNat < 256 := (X k).toNat_lt
      clear hc hcell
      generalize X k = b at HC c1 hbl
      have HS := Lib.hid (show Calls Try.prog 8 #[.pointer (some ⟨D, 0, none⟩)] wr fun e w' => e = .returned (.int .i64 (said n k)) ∧ ∃ y, At w w' D y ∧ Deed n (k + 1) y from deed_sync HAT.out HD.out h2)
      have HON := Lib.hid (show ∀ W y, At w W D y → Deed n (k + 1) y → Calls Try.prog 11 #[.pointer (some ⟨D, 0, none⟩)] W fun e w' => e = .returned (.bool (decide (k < n))) ∧ W = w' from fun W y hy hd => by
        rw [← deed_away hd]
        exact disk_isOn _ W D y hy.disk)
      have HOF := Lib.hid (law_of b)
      have HWR := Lib.hid (show ∀ W, Below wr.drew.heap.size wr.drew W → Calls Try.prog 9 #[.pointer (some ⟨D, 0, none⟩), .int .i64 (IntKind.i64.wrap ((b.toNat : Int).tmod 4)), .string (secS fun _ => b)] W fun e w' => e = .returned (.int .i64 (said n k)) ∧ ∃ y, At w w' D y ∧ Deed n (k + 1) y from fun W hW => by
        have := deed_write (HAT.out.step (w' := W) (below_undrew hW)) HD.out h2 (b.toNat % 4) (by omega) (secS fun _ => b) (secS_size _)
        rwa [← place_of] at this)
      have HC2 := Lib.hid (show ∀ (W : World) (y : St), At w W D y → W.cell? ⟨pb, po + k, none⟩ = some (.int .u8 (b.toNat : Int)) from fun W y hy => HC.out W hy.below)
      have HC3 := Lib.hid (show ∀ (W : World), Below wr.drew.heap.size wr.drew W → W.cell? ⟨pb, po + k, none⟩ = some (.int .u8 (b.toNat : Int)) from fun W hW => HC.out W (HAT.out.step (w' := W) (below_undrew hW)).below)
      have c2 : wr.drew.cell? ⟨pb, po + k, none⟩ = some (.int .u8 (b.toNat : Int)) := c1
      generalize secS (fun _ => b) = sb at HOF HWR
      have fin : ∀ (wz : World) (y : St), At w wz D y → Deed n (k + 1) y → (∃ k_1 : Nat, Value.int .i64 ((k : Int) + 1) = .int .i64 (k_1 : Int) ∧ k_1 ≤ len ∧ k_1 ≤ 30 ∧ ∃ x, At w wz D x ∧ Deed n k_1 x) ∧ 30 - ((k : Int) + 1).toNat < 30 - (k : Int).toNat := fun wz y h1 h2 => ⟨⟨k + 1, rfl, by omega, by omega, y, h1, h2⟩, by omega⟩
      have FIN := Lib.hid fin
      clear fin
      by_cases h5 : (b.toNat : Int) % 5 = 0
      · have e5 : ((b.toNat : Int) % 5 == 0) = true := beq_iff_eq.2 h5
        by_cases hkn : k < n
        · have y0 : (k : Int) < (n : Int) := by omega
          have y1 : decide ((k : Int) < (n : Int)) = true := decide_eq_true y0
          have y2 : decide (k < n) = true := decide_eq_true hkn
          have sd : said n k = 0 := if_pos hkn
          rw [sd] at HS
          go_wp2_with (fail)
          refine HS.out.mono ?_
          rintro e w5 ⟨rfl, y, h5, d5⟩
          clear HS
          have H5 := Lib.hid h5
          have D5 := Lib.hid d5
          clear h5 d5
          go_wp2_with (fail)
          refine (HON.out _ y H5.out D5.out).mono ?_
          rintro e w6 ⟨rfl, rfl⟩
          rw [y2]
          go_wp2_with (fail)
          exact FIN.out _ y H5.out D5.out
        · have y0 : ¬ (k : Int) < (n : Int) := by omega
          have y1 : decide ((k : Int) < (n : Int)) = false := decide_eq_false y0
          have y2 : decide (k < n) = false := decide_eq_false hkn
          have sd : said n k = 4 := if_neg hkn
          rw [sd] at HS
          go_wp2_with (fail)
          refine HS.out.mono ?_
          rintro e w5 ⟨rfl, y, h5, d5⟩
          clear HS
          have H5 := Lib.hid h5
          have D5 := Lib.hid d5
          clear h5 d5
          go_wp2_with (fail)
          refine (HON.out _ y H5.out D5.out).mono ?_
          rintro e w6 ⟨rfl, rfl⟩
          rw [y2]
          go_wp2_with (fail)
          exact FIN.out _ y H5.out D5.out
      · have e5 : ((b.toNat : Int) % 5 == 0) = false := beq_eq_false_iff_ne.2 h5
        by_cases hkn : k < n
        · have y0 : (k : Int) < (n : Int) := by omega
          have y1 : decide ((k : Int) < (n : Int)) = true := decide_eq_true y0
          have y2 : decide (k < n) = true := decide_eq_true hkn
          have sd : said n k = 0 := if_pos hkn
          rw [sd] at HWR
          go_wp2_with (fail)
          go_region_held3 (fun W : World => W.cell? ⟨pb, po + k, none⟩ = some (.int .u8 (b.toNat : Int))) (first | exact c2 | assumption) (first
            | (go_at_call 10; (with_reducible refine (HOF.out _).mono ?_); rintro e w' ⟨rfl, hb'⟩; have hc' := HC3.out w' hb')
            | (go_at_call 9; (with_reducible refine (HWR.out _ (by assumption)).mono ?_); rintro e w'' ⟨rfl, y, h5, d5⟩; have hc'' := HC2.out w'' y h5))
          have H5 := Lib.hid h5
          have D5 := Lib.hid d5
          clear h5 d5
          go_wp2_with (fail)
          refine (HON.out _ y H5.out D5.out).mono ?_
          rintro e w6 ⟨rfl, rfl⟩
          rw [y2]
          go_wp2_with (fail)
          exact FIN.out _ y H5.out D5.out
        · have y0 : ¬ (k : Int) < (n : Int) := by omega
          have y1 : decide ((k : Int) < (n : Int)) = false := decide_eq_false y0
          have y2 : decide (k < n) = false := decide_eq_false hkn
          have sd : said n k = 4 := if_neg hkn
          rw [sd] at HWR
          go_wp2_with (fail)
          go_region_held3 (fun W : World => W.cell? ⟨pb, po + k, none⟩ = some (.int .u8 (b.toNat : Int))) (first | exact c2 | assumption) (first
            | (go_at_call 10; (with_reducible refine (HOF.out _).mono ?_); rintro e w' ⟨rfl, hb'⟩; have hc' := HC3.out w' hb')
            | (go_at_call 9; (with_reducible refine (HWR.out _ (by assumption)).mono ?_); rintro e w'' ⟨rfl, y, h5, d5⟩; have hc'' := HC2.out w'' y h5))
          have H5 := Lib.hid h5
          have D5 := Lib.hid d5
          clear h5 d5
          go_wp2_with (fail)
          refine (HON.out _ y H5.out D5.out).mono ?_
          rintro e w6 ⟨rfl, rfl⟩
          rw [y2]
          go_wp2_with (fail)
          exact FIN.out _ y H5.out D5.out
    · have hke : k = min len 30 := by omega
      have x0 : decide ((k : Int) < (len : Int)) = true ∧ decide ((k : Int) < 30) = false ∨ decide ((k : Int) < (len : Int)) = false := by
        by_cases h1 : k < len
        · exact .inl ⟨decide_eq_true (by omega), decide_eq_false (by omega)⟩
        · exact .inr (decide_eq_false (by omega))
      have hdn : ∃ d : Nat, x.done = d ∧ (d : Int) = min (n : Int) (min (len : Int) 30) := by
        obtain ⟨_, _, ⟨h1, _, _, h3⟩ | ⟨h1, _, h3⟩⟩ := HD.out
        · exact ⟨_, h3, by omega⟩
        · exact ⟨_, h3, by omega⟩
      obtain ⟨d, hd1, hd2⟩ := hdn
      have hdo := disk_done _ wr D x HAT.out.disk
      rw [hd1, hd2] at hdo
      have HDO := Lib.hid hdo
      have HBL := Lib.hid HAT.out.below
      clear hdo hd1 hd2 HAT HD hke hgo
      rcases x0 with ⟨x0, x1⟩ | x0
      · have z0 : (k : Int) < (len : Int) := of_decide_eq_true x0
        have z1 : ¬ (k : Int) < 30 := of_decide_eq_false x1
        go_wp2_with (fail)
        refine HDO.out.mono ?_
        rintro e w5 ⟨rfl, rfl⟩
        go_wp2_with (fail)
        exact bodyPost_ret (results_tmp rfl _ _ _) rfl ⟨rfl, HBL.out⟩
      · have z0 : ¬ (k : Int) < (len : Int) := of_decide_eq_false x0
        go_wp2_with (fail)
        refine HDO.out.mono ?_
        rintro e w5 ⟨rfl, rfl⟩
        go_wp2_with (fail)
        exact bodyPost_ret (results_tmp rfl _ _ _) rfl ⟨rfl, HBL.out⟩
end Go.Proofs.Ythmpmpofhpkmjab.diskFuse
