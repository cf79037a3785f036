/-
  Package pen's pen: of nil nothing is written. Conditions: what is to be written stands where it looks.
-/
import Derived.Test.YtdadcpkkpopbcabPenText
namespace Go.Proofs.Ytdadcpkkpopbcab
open Go.ChangeShapes Go.WideShapes Go.ChangeAt Go.RowKit Pn

theorem own_below {w w' : World} {base : Nat} {e : TypeId} {size n : Nat} {v : Value} {xs : List Value} (h : w.ownsRow base e size v n xs) (hb : Below w.heap.size w w') : w'.ownsRow base e size v n xs := by
  refine ⟨h.1, ?_⟩
  rcases h.2 with hn | ⟨g, cap, cur, hv, hg0, hg, r⟩
  · exact .inl hn
  · exact .inr ⟨g, cap, cur, hv, hg0, (hb.block g (Array.getElem?_eq_some_iff.1 hg).1).trans hg, r⟩
theorem pen_byte_nil (w : World) (v : Value) : Calls Try.prog 21 #[.pointer none, v] w fun e w' => e = .returned (.tuple #[]) ∧ w = w' := by
  go_enter Try.func21, Try.ntmps21
  go_wp2_with (fail)
  refine (pen_write_nil w v).mono ?_
  rintro e w2 ⟨rfl, rfl⟩
  go_wp2
  go_end0
  exact ⟨rfl, rfl⟩

set_option maxHeartbeats 1600000 in
theorem pen_num_nil (w : World) (A : Option Addr) (n cap : Nat) (xs : Nat → Int) (hn : n ≤ 1000000)
    (hA : 0 < n → ∃ pb po, A = some ⟨pb, po, none⟩ ∧ ∀ k, k < n → w.cell? ⟨pb, po + k, none⟩ = some (.int .i64 (xs k))) :
    Calls Try.prog 17 #[.pointer none, .slice A n cap] w fun e w' => e = .returned (.tuple #[]) ∧ Below w.heap.size w w' := by
  have HA := Lib.hid hA
  obtain ⟨i0, hi, hz0, hz1, hz2⟩ := info_parts infoB
  have HI := Lib.hid hi
  have HZ0 := Lib.hid hz0
  have HZ1 := Lib.hid hz1
  have HZ2 := Lib.hid hz2
  clear hA hi hz0 hz1 hz2
  have e4 : IntKind.i64.wrap (4 * (n : Int)) = 4 * (n : Int) := IntWalk.i64_in _ (by omega)
  go_enter Try.func17, Try.ntmps17
  go_wp2_with (at_make; refine wpList_make_own _ rfl _ _ 57 rfl w.heap.size 5 i0 _ 1 Try.underlying57 HI.out HZ0.out HZ1.out .i64 .i64 _ (4 * n) rfl rfl (by omega) (by rw [HZ2.out]; omega) (by unfold maxLen; omega) (Nat.le_refl _) ?_; intro w1 hown hg1)
  have hb1 : Below w.heap.size w w1 := (Below.refl _ _).grown hg1 (Nat.le_refl _) (fun k hk => by cases hk)
  have HB1 := Lib.hid hb1
  have HW1 := Lib.hid hown
  clear hg1 hb1 hown e4
  go_loopw [4, 13] (fun v i wr => ∃ (k g c : Nat), k ≤ n ∧ i = .int .i64 k ∧ v = .slice (some ⟨g, 0, none⟩) (4 * k) c ∧ wr.ownsRow w.heap.size 5 1 v (4 * k) (bcells (numsL xs k)) ∧ Below w.heap.size w wr) (fun _ i _ => n - (intOf i).toNat)
  case atStart =>
    exact ⟨0, w.heap.size, 4 * n, Nat.zero_le _, rfl, rfl, HW1.out, HB1.out⟩
  case round =>
    clear HW1 HB1
    obtain ⟨k, g, c, hk, rfl, rfl, hown, hb⟩ := hrel
    have HOW := Lib.hid hown
    have HB := Lib.hid hb
    clear hown hb
    by_cases hlt : k < n
    · obtain ⟨pb, po, rfl, hc⟩ := HA.out (by omega)
      have hck := (HB.out.cell (p := ⟨pb, po + k, none⟩) (block_lt_of_cell (hc k hlt))).trans (hc k hlt)
      have l0 : 0 ≤ (k : Int) := by omega
      have m0 : (k : Int) < (n : Int) := by omega
      clear hc
      go_wp2_with (fail)
      refine (pen_number_nil wr (xs k)).mono ?_
      rintro e w2 ⟨⟨g2, rfl, hg2, hb2⟩, hbb⟩
      have HN2 := Lib.hid (own_below HOW.out hbb)
      have HB2 := Lib.hid hb2
      have HBB := Lib.hid (HB.out.trans (hbb.mono HB.out.size))
      have hsz : w.heap.size ≤ w2.heap.size := HBB.out.size
      have HC4 := Lib.hid (show ∀ j u, (bcells (numL (xs k)))[j]? = some u → w2.cell? ((⟨g2, 0, none⟩ : Addr).add j) = some u from fun j u hj => by
        rw [Addr.add_lit, Nat.zero_add, cell_of_row _ _ _ _ _ _ HB2.out, ← hj, four_cells]
        exact List.getElem?_toArray)
      have HL4 := Lib.hid (show (bcells (numL (xs k))).length = 4 * 1 by rw [bcells_length, numL_length])
      have HL1 := Lib.hid (bcells_one (numL (xs k)))
      clear hbb hb2 hck
      go_wp2_with (at_builtin; refine wpList_append_own _ rfl (.tmp 17) (.tmp 20) 57 rfl w.heap.size 5 i0 _ 1 1 Try.underlying57 HI.out HZ0.out HZ1.out HZ2.out rfl (by omega) _ (4 * k) _ rfl HN2.out ⟨g2, 0, none⟩ 4 4 (bcells (numL (xs k))) rfl HL4.out HC4.out HL1.out (by unfold maxLen; omega) (by omega) hsz ?_; intro v' w3 hown3 hg3 hnil3)
      have hnn : v' ≠ .slice none 0 0 := fun e => by
        have := (hnil3.1 e).2
        omega
      rw [← bcells_append, ← numsL_next] at hown3
      obtain ⟨g3, c3, rfl, hb3⟩ := own_form hown3 hnn
      go_roundw
      case rel =>
        exact ⟨k + 1, g3, c3, by omega, by go_num, by rw [Nat.mul_succ], by rw [Nat.mul_succ]; exact hown3, HBB.out.grown hg3 hsz (fun b hb => by injection hb with hb; have := (HN2.out.lt _ rfl).1; omega)⟩
      case measure => simp [intOf]; omega
    · go_wp2_with (fail)
      refine (pen_write_nil wr _).mono ?_
      rintro e w2 ⟨rfl, rfl⟩
      go_wp2
      go_end0
      exact ⟨rfl, HB.out⟩

set_option maxHeartbeats 1600000 in
theorem pen_text_nil (w : World) (A : Option Addr) (n cap : Nat) (ss : Nat → ByteArray) (hn : n ≤ 1000) (hss : ∀ k, k < n → (ss k).size ≤ 1000000)
    (hA : 0 < n → ∃ pb po, A = some ⟨pb, po, none⟩ ∧ ∀ k, k < n → w.cell? ⟨pb, po + k, none⟩ = some (.string (ss k))) :
    Calls Try.prog 20 #[.pointer none, .slice A n cap] w fun e w' => e = .returned (.tuple #[]) ∧ Below w.heap.size w w' := by
  have HA := Lib.hid hA
  have HSS := Lib.hid hss
  have HLE := Lib.hid (fun k (hk : k ≤ n) => textsL_le ss k fun j hj => hss j (by omega))
  obtain ⟨i0, hi, hz0, hz1, hz2⟩ := info_parts infoB
  have HI := Lib.hid hi
  have HZ0 := Lib.hid hz0
  have HZ1 := Lib.hid hz1
  have HZ2 := Lib.hid hz2
  clear hA hss hi hz0 hz1 hz2
  go_enter Try.func20, Try.ntmps20
  go_wp2_with (fail)
  go_loopw [4, 10] (fun v i wr => ∃ (k g c : Nat), k ≤ n ∧ i = .int .i64 k ∧ v = .slice (some ⟨g, 0, none⟩) (textsL ss k).length c ∧ wr.ownsRow w.heap.size 5 1 v (textsL ss k).length (bcells (textsL ss k)) ∧ Below w.heap.size w wr) (fun _ i _ => n - (intOf i).toNat)
  case atStart =>
    exact ⟨0, w.heap.size, 0, Nat.zero_le _, rfl, rfl, World.ownsRow_made w #[] 0 (Nat.le_refl _) (Nat.zero_le _) rfl, (Below.refl _ _).alloc (Nat.le_refl _) _⟩
  case round =>
    obtain ⟨k, g, c, hk, rfl, rfl, hown, hb⟩ := hrel
    have HOW := Lib.hid hown
    have HB := Lib.hid hb
    clear hown hb
    by_cases hlt : k < n
    · obtain ⟨pb, po, rfl, hc⟩ := HA.out (by omega)
      have hck := (HB.out.cell (p := ⟨pb, po + k, none⟩) (block_lt_of_cell (hc k hlt))).trans (hc k hlt)
      have hsk := HSS.out k hlt
      have hlk := HLE.out k hk
      have HNX := Lib.hid (textsL_next ss k)
      have l0 : 0 ≤ (k : Int) := by omega
      have m0 : (k : Int) < (n : Int) := by omega
      clear hc
      generalize ss k = s at hck hsk HNX
      generalize hL : textsL ss k = L at HOW hlk HNX ⊢
      clear hL
      go_wp2_with (fail)
      refine (pen_number_nil wr (s.size : Int)).mono ?_
      rintro e w2 ⟨⟨g2, rfl, hg2, hb2⟩, hbb⟩
      have HN2 := Lib.hid (own_below HOW.out hbb)
      have HB2 := Lib.hid hb2
      have HBB := Lib.hid (HB.out.trans (hbb.mono HB.out.size))
      have hsz : w.heap.size ≤ w2.heap.size := HBB.out.size
      have HC4 := Lib.hid (show ∀ j u, (bcells (numL (s.size : Int)))[j]? = some u → w2.cell? ((⟨g2, 0, none⟩ : Addr).add j) = some u from fun j u hj => by
        rw [Addr.add_lit, Nat.zero_add, cell_of_row _ _ _ _ _ _ HB2.out, ← hj, four_cells]
        exact List.getElem?_toArray)
      have HL4 := Lib.hid (show (bcells (numL (s.size : Int))).length = 4 * 1 by rw [bcells_length, numL_length])
      have HL1 := Lib.hid (bcells_one (numL (s.size : Int)))
      clear hbb hb2 hck
      go_upto_region 5 with (at_builtin; refine wpList_append_own _ rfl (.tmp 14) (.tmp 18) 57 rfl w.heap.size 5 i0 _ 1 1 Try.underlying57 HI.out HZ0.out HZ1.out HZ2.out rfl (by omega) _ L.length _ rfl HN2.out ⟨g2, 0, none⟩ 4 4 (bcells (numL (s.size : Int))) rfl HL4.out HC4.out HL1.out (by unfold maxLen; omega) (by omega) hsz ?_; intro v' w3 hown3 hg3 hnil3)
      have hnn : v' ≠ .slice none 0 0 := fun e => by
        have := (hnil3.1 e).2
        omega
      rw [← bcells_append] at hown3
      obtain ⟨g3, c3, rfl, hb3⟩ := own_form hown3 hnn
      have HN3 := Lib.hid hown3
      have HB3 := Lib.hid (HBB.out.grown hg3 hsz (fun b hb => by injection hb with hb; have := (HN2.out.lt _ rfl).1; omega))
      have hsz3 : w.heap.size ≤ w3.heap.size := HB3.out.size
      clear hnn hnil3 hg3 hown3
      go_wp2_with (at_builtin; refine Lib.wpList_append_own_string _ rfl (.tmp 20) (.tmp 21) 57 9 rfl w.heap.size 5 i0 Try.underlying57 Try.underlying9 HI.out HZ0.out HZ1.out HZ2.out _ (L.length + 4) _ rfl HN3.out s rfl (by unfold maxLen; omega) (by omega) hsz3 ?_; intro v' w4 hown4 hg4 hnil4)
      have hnn : v' ≠ .slice none 0 0 := fun e => by
        have := (hnil4.1 e).1
        cases this
      rw [bcells_text, ← bcells_append, List.append_assoc, show numL (s.size : Int) ++ s.data.toList = textL s from rfl, ← HNX.out] at hown4
      have hlen : L.length + 4 + s.size = (textsL ss (k + 1)).length := by rw [HNX.out, List.length_append, textL_length]; omega
      rw [hlen] at hown4
      obtain ⟨g4, c4, rfl, hb4⟩ := own_form hown4 hnn
      have HF := Lib.hid (show (∃ (j g c : Nat), j ≤ n ∧ Value.int .i64 ((k : Int) + 1) = .int .i64 j ∧ Value.slice (some ⟨g4, 0, none⟩) (textsL ss (k + 1)).length c4 = .slice (some ⟨g, 0, none⟩) (textsL ss j).length c ∧ w4.ownsRow w.heap.size 5 1 (Value.slice (some ⟨g4, 0, none⟩) (textsL ss (k + 1)).length c4) (textsL ss j).length (bcells (textsL ss j)) ∧ Below w.heap.size w w4) from
        ⟨k + 1, g4, c4, by omega, by go_num, rfl, hown4, HB3.out.grown hg4 hsz3 (fun b hb => by injection hb with hb; have := (HN3.out.lt _ rfl).1; omega)⟩)
      clear hlen hown4 hg4 hnil4 hnn
      go_roundw
      case rel => exact HF.out
      case measure => simp [intOf]; omega
    · go_wp2_with (fail)
      refine (pen_write_nil wr _).mono ?_
      rintro e w2 ⟨rfl, rfl⟩
      go_wp2
      go_end0
      exact ⟨rfl, HB.out⟩
end Go.Proofs.Ytdadcpkkpopbcab
