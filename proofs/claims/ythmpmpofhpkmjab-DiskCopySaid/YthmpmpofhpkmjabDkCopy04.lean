/-
  Proved: DiskCopy: a disk of another one's image has what was safe there, and goes on by itself. No condition.
-/
import Derived.Test.YthmpmpofhpkmjabDkAwake
import Derived.Test.YthmpmpofhpkmjabOpenBytes
namespace Go.Proofs.Ythmpmpofhpkmjab.diskCopy
open Go.ChangeShapes Go.WideShapes Go.ChangeAt Go.RowKit Dk

/-- Which sector. -/
theorem place_of (b : UInt8) : IntKind.i64.wrap ((b.toNat : Int).tmod 6) = ((b.toNat % 6 : Nat) : Int) := by
  rw [Int.tmod_eq_emod_of_nonneg (by omega)]
  exact (IntWalk.i64_in _ (by omega)).trans (by omega)
/-- The disk behind k rounds. -/
def Goes (k : Nat) (x : St) : Prop := x.n = 6 ∧ x.away = false ∧ x.fuse = none ∧ x.loose.length ≤ k ∧ x.done ≤ 2 * k
theorem goes_write {w0 w : World} {D k : Nat} {x : St} (h : At w0 w D x) (hd : Goes k x) (hk : k < 20) (p : Nat) (hp : p < 6) (q : ByteArray) (hq : q.size = 32) :
    Calls Try.prog 9 #[.pointer (some ⟨D, 0, none⟩), .int .i64 (p : Int), .string q] w fun e w' => e = .returned (.int .i64 0) ∧ ∃ y, At w0 w' D y ∧ Goes (k + 1) y ∧ y.done ≤ 2 * k + 1 := by
  obtain ⟨h6, ha, hf, hl, hdn⟩ := hd
  refine (h.write ha hf (by omega) (by omega) p (by omega) q hq).mono ?_
  rintro e w' ⟨rfl, h2⟩
  refine ⟨rfl, _, h2, ⟨h6, ha, ?_, ?_, ?_⟩, ?_⟩
  · show x.fuse.map _ = none
    rw [hf]
    rfl
  · show (x.loose ++ [(p, bs q)]).length ≤ k + 1
    rw [List.length_append]
    simpa using hl
  · show x.done + 1 ≤ 2 * (k + 1)
    omega
  · show x.done + 1 ≤ 2 * k + 1
    omega
theorem goes_sync {w0 w : World} {D k : Nat} {x : St} (h : At w0 w D x) (hd : Goes (k + 1) x) (hk : k < 20) (hdn : x.done ≤ 2 * k + 1) :
    Calls Try.prog 8 #[.pointer (some ⟨D, 0, none⟩)] w fun e w' => e = .returned (.int .i64 0) ∧ ∃ y, At w0 w' D y ∧ Goes (k + 1) y := by
  obtain ⟨h6, ha, hf, hl, _⟩ := hd
  refine (h.sync ha hf (by omega) (by omega)).mono ?_
  rintro e w' ⟨rfl, h2⟩
  refine ⟨rfl, _, h2, h6, ha, ?_, Nat.zero_le _, ?_⟩
  · show x.fuse.map _ = none
    rw [hf]
    rfl
  · show x.done + 1 ≤ 2 * (k + 1)
    omega
theorem bs_img (n : Nat) (f : Nat → UInt8) (k : Nat) (h : k < n * 32) : bs (imgS n f) k = f k := by
  unfold bs imgS
  rw [List.getD_eq_getElem?_getD]
  simp [h]
set_option maxRecDepth 100000 in
set_option maxHeartbeats 3200000 in
theorem walk (w : World) (A : Option Addr) (len cap : Nat) (X : Nat → UInt8) (r : Int) (hX : BytesIn w A len cap X) :
    Calls Try.prog 4 #[.slice A len cap, .int .i64 r] w fun e w' => e = .returned (.bool true) ∧ Below w.heap.size w w' := by
  have HX := Lib.hid hX
  clear hX
  go_enter Try.func4, Try.ntmps4
  go_wp2_with (fail)
  refine (awake_any w).mono ?_
  rintro e w1 ⟨rfl, b1⟩
  have B1 := Lib.hid b1
  clear b1
  go_wp2_with (fail)
  refine (at_new w w1 B1.out 6 6 (by omega)).mono ?_
  rintro e w2 ⟨D, rfl, h2⟩
  have H2 := Lib.hid (show ∃ x, At w w2 D x ∧ Goes 0 x from ⟨_, h2, rfl, rfl, rfl, Nat.le_refl _, Nat.le_refl _⟩)
  clear h2 B1
  go_wp2_with (fail)
  go_loopw [6] (fun i wr => ∃ k : Nat, i = .int .i64 (k : Int) ∧ k ≤ len ∧ k ≤ 20 ∧ ∃ x, At w wr D x ∧ Goes k x) (fun i _ => match i with | .int _ k => 20 - k.toNat | _ => 0)
  case atStart => exact ⟨0, rfl, Nat.zero_le _, Nat.zero_le _, H2.out⟩
  case round =>
    clear H2
    obtain ⟨k, rfl, hkl, hk20, x, hat, hd⟩ := hrel
    have HAT := Lib.hid hat
    have HD := Lib.hid hd
    clear hat hd
    have x2 : 0 ≤ (k : Int) := by omega
    by_cases hgo : k < len ∧ k < 20
    · obtain ⟨h1, h2⟩ := hgo
      have x0 : (k : Int) < (len : Int) := by omega
      have x1 : decide ((k : Int) < (len : Int)) = true := decide_eq_true x0
      have x3 : (k : Int) < 20 := by omega
      have x4 : decide ((k : Int) < 20) = true := decide_eq_true x3
      obtain ⟨hlc, hcm, hc⟩ := HX.out
      obtain ⟨pb, po, rfl, hcell⟩ := hc (by omega)
      have hpb : pb < w.heap.size := block_lt_of_cell (hcell k h1)
      have HC := Lib.hid (show ∀ W : World, Below w.heap.size w W → W.cell? ⟨pb, po + k, none⟩ = some (.int .u8 ((X k).toNat : Int)) from fun W hW => (World.cell?_of_block (w := w) (a := ⟨pb, po + k, none⟩) (hW.block pb hpb)).trans (hcell k h1))
      have c1 := HC.out wr HAT.out.below
      have hbl : (X k).toNat < 256 := (X k).toNat_lt
      clear hc hcell
      generalize X k = b at HC c1 hbl
      have HOF := Lib.hid (law_of b)
      have HWR := Lib.hid (show ∀ W, Below wr.drew.heap.size wr.drew W → Calls Try.prog 9 #[.pointer (some ⟨D, 0, none⟩), .int .i64 (IntKind.i64.wrap ((b.toNat : Int).tmod 6)), .string (secS fun _ => b)] W fun e w' => e = .returned (.int .i64 0) ∧ ∃ y, At w w' D y ∧ Goes (k + 1) y ∧ y.done ≤ 2 * k + 1 from fun W hW => by
        have := goes_write (HAT.out.step (w' := W) (below_undrew hW)) HD.out h2 (b.toNat % 6) (by omega) (secS fun _ => b) (secS_size _)
        rwa [← place_of] at this)
      have HC2 := Lib.hid (show ∀ (W : World) (y : St), At w W D y → W.cell? ⟨pb, po + k, none⟩ = some (.int .u8 (b.toNat : Int)) from fun W y hy => HC.out W hy.below)
      have HC3 := Lib.hid (show ∀ (W : World), Below wr.drew.heap.size wr.drew W → W.cell? ⟨pb, po + k, none⟩ = some (.int .u8 (b.toNat : Int)) from fun W hW => HC.out W (HAT.out.step (w' := W) (below_undrew hW)).below)
      have c2 : wr.drew.cell? ⟨pb, po + k, none⟩ = some (.int .u8 (b.toNat : Int)) := c1
      generalize secS (fun _ => b) = sb at HOF HWR
      have fin : ∀ (wz : World) (y : St), At w wz D y → Goes (k + 1) y → (∃ k_1 : Nat, Value.int .i64 ((k : Int) + 1) = .int .i64 (k_1 : Int) ∧ k_1 ≤ len ∧ k_1 ≤ 20 ∧ ∃ x, At w wz D x ∧ Goes k_1 x) ∧ 20 - ((k : Int) + 1).toNat < 20 - (k : Int).toNat := fun wz y h1 h2 => ⟨⟨k + 1, rfl, by omega, by omega, y, h1, h2⟩, by omega⟩
      have FIN := Lib.hid fin
      clear fin
      go_wp2_with (fail)
      go_region_held3 (fun W : World => W.cell? ⟨pb, po + k, none⟩ = some (.int .u8 (b.toNat : Int))) (first | exact c2 | assumption) (first
        | (go_at_call 10; (with_reducible refine (HOF.out _).mono ?_); rintro e w' ⟨rfl, hb'⟩; have hc' := HC3.out w' hb')
        | (go_at_call 9; (with_reducible refine (HWR.out _ (by assumption)).mono ?_); rintro e w'' ⟨rfl, y, h5, d5, e5⟩; have hc'' := HC2.out w'' y h5))
      have H5 := Lib.hid h5
      have D5 := Lib.hid d5
      have HSY := Lib.hid (goes_sync h5 d5 h2 e5)
      clear h5 d5 e5
      go_wp2_with (fail)
      all_goals first
        | exact FIN.out _ y H5.out D5.out
        | (refine HSY.out.mono ?_
           rintro e w5 ⟨rfl, z, h6, d6⟩
           have H6 := Lib.hid h6
           have D6 := Lib.hid d6
           clear h6 d6 HSY
           go_wp2_with (fail)
           exact FIN.out _ z H6.out D6.out)
    · have x0 : decide ((k : Int) < (len : Int)) = true ∧ decide ((k : Int) < 20) = false ∨ decide ((k : Int) < (len : Int)) = false := by
        by_cases h1 : k < len
        · exact .inl ⟨decide_eq_true (by omega), decide_eq_false (by omega)⟩
        · exact .inr (decide_eq_false (by omega))
      obtain ⟨h6, ha, hf, hl, hdn⟩ := HD.out
      have HIM := Lib.hid (show ∀ W, At w W D x → Calls Try.prog 14 #[.pointer (some ⟨D, 0, none⟩)] W fun e w' => e = .returned (.string (imgS 6 x.safe)) ∧ Below W.heap.size W w' from fun W hW => by
        have := disk_image _ W D x hW.disk
        rwa [h6] at this)
      have HOD := Lib.hid (show ∀ W, At w W D x → Calls Try.prog 13 #[.string (imgS 6 x.safe)] W fun e w' => ∃ E, e = .returned (.pointer (some ⟨E, 0, none⟩)) ∧ At W w' E (freshSt 6 (bs (imgS 6 x.safe))) from fun W hW => by
        refine (disk_Of (fun i => W.heap.size ≤ i) W (imgS 6 x.safe) 6 (by rw [imgS_size]; decide) (by rw [imgS_size]; omega) (fun _ h => h)).mono ?_
        rintro e w' ⟨E, rfl, h1, h2, h3⟩
        exact ⟨E, rfl, h2, h3⟩)
      have himg : imgS 6 (bs (imgS 6 x.safe)) = imgS 6 x.safe := imgS_congr fun k hk => bs_img 6 _ k hk
      have HIX := Lib.hid (show ∀ W W' E, At W W' E (freshSt 6 (bs (imgS 6 x.safe))) → Calls Try.prog 14 #[.pointer (some ⟨E, 0, none⟩)] W' fun e w' => e = .returned (.string (imgS 6 x.safe)) ∧ Below W'.heap.size W' w' from fun W W' E hE => by
        have := disk_image _ W' E _ hE.disk
        rwa [show imgS (freshSt 6 (bs (imgS 6 x.safe))).n (freshSt 6 (bs (imgS 6 x.safe))).safe = imgS 6 x.safe from himg] at this)
      clear himg h6 ha hf hl hdn hgo HD HX
      have H77 := Lib.hid (show ∀ W, Calls Try.prog 10 #[.int .u8 77] W fun e w' => e = .returned (.string (secS fun _ => 77)) ∧ Below W.heap.size W w' from law_of 77)
      obtain ⟨Z, hZ⟩ : ∃ Z, Z = freshSt 6 (bs (imgS 6 x.safe)) := ⟨_, rfl⟩
      rw [← hZ] at HOD HIX
      have HZ := Lib.hid hZ
      clear hZ
      generalize imgS 6 x.safe = im at HIM HOD HIX HZ
      have HRD := Lib.hid (show ∀ W W' E, At W W' E (Z.burnt.put 2 (bs (secS fun _ => 77))).burnt.synced → Calls Try.prog 17 #[.pointer (some ⟨E, 0, none⟩), .int .i64 2] W' fun e w' => e = .returned (.tuple #[.string (secS fun _ => 77), .int .i64 0]) ∧ W' = w' from fun W W' E hE => by
        have := disk_read _ W' E _ hE.disk (by rw [HZ.out]; rfl) 2 (by rw [HZ.out]; exact (by decide : 2 < 6))
        have e1 : secS (sect (Z.burnt.put 2 (bs (secS fun _ => 77))).burnt.synced.now 2) = secS fun _ => 77 := secS_congr fun j hj => by
          show sect (putS Z.now 2 (bs (secS fun _ => 77))) 2 j = 77
          rw [sect_put_same _ _ _ _ hj, bs_secS _ _ hj]
        rwa [e1] at this)
      have HQ := Lib.hid (show (secS fun _ => (77 : UInt8)).size = 32 from secS_size _)
      generalize secS (fun _ => (77 : UInt8)) = s77 at H77 HRD HQ
      have HLEN := Lib.hid (show ∀ W W' E, At W W' E Z → Calls Try.prog 15 #[.pointer (some ⟨E, 0, none⟩)] W' fun e w' => e = .returned (.int .i64 6) ∧ W' = w' from fun W W' E hE => by
        have := disk_len _ W' E _ hE.disk
        rwa [show (Z.n : Int) = 6 by rw [HZ.out]; rfl] at this)
      have HLOO := Lib.hid (show ∀ W W' E, At W W' E Z → Calls Try.prog 16 #[.pointer (some ⟨E, 0, none⟩)] W' fun e w' => e = .returned (.int .i64 0) ∧ W' = w' from fun W W' E hE => by
        have := disk_loose _ W' E _ hE.disk
        rwa [show (Z.loose.length : Int) = 0 by rw [HZ.out]; rfl] at this)
      have HWR := Lib.hid (show ∀ W W' E, At W W' E Z → Calls Try.prog 9 #[.pointer (some ⟨E, 0, none⟩), .int .i64 2, .string s77] W' fun e w' => e = .returned (.int .i64 0) ∧ At W w' E (Z.burnt.put 2 (bs s77)) from fun W W' E hE =>
        hE.write (by rw [HZ.out]; rfl) (by rw [HZ.out]; rfl) (by rw [HZ.out]; exact Nat.zero_le _) (by rw [HZ.out]; exact (by decide : 0 < 4611686018427387904)) 2 (by rw [HZ.out]; exact (by decide : 2 < 6)) s77 HQ.out)
      have HSY := Lib.hid (show ∀ W W' E, At W W' E (Z.burnt.put 2 (bs s77)) → Calls Try.prog 8 #[.pointer (some ⟨E, 0, none⟩)] W' fun e w' => e = .returned (.int .i64 0) ∧ At W w' E (Z.burnt.put 2 (bs s77)).burnt.synced from fun W W' E hE =>
        hE.sync (by rw [HZ.out]; rfl) (by rw [HZ.out]; rfl) (by rw [HZ.out]; exact (by decide : 1 ≤ 1073741824)) (by rw [HZ.out]; exact (by decide : 1 < 4611686018427387904)))
      generalize (Z.burnt.put 2 (bs s77)).burnt.synced = Z2 at HSY HRD
      generalize Z.burnt.put 2 (bs s77) = Z1 at HSY HWR
      rcases x0 with ⟨x0, x1⟩ | x0
      · have z0 : (k : Int) < (len : Int) := of_decide_eq_true x0
        have z1 : ¬ (k : Int) < 20 := of_decide_eq_false x1
        go_wp2_with (fail)
        refine (HIM.out wr HAT.out).mono ?_
        rintro e w5 ⟨rfl, b5⟩
        have H5 := Lib.hid (HAT.out.step b5)
        clear b5 HAT
        go_wp2_with (fail)
        refine (HOD.out w5 H5.out).mono ?_
        rintro e w6 ⟨E, rfl, h6⟩
        have H6 := Lib.hid (H5.out.step h6.below)
        have E6 := Lib.hid h6
        clear h6
        go_wp2_with (fail)
        refine (HIM.out w6 H6.out).mono ?_
        rintro e w7 ⟨rfl, b7⟩
        have H7 := Lib.hid (H6.out.step b7)
        have E7 := Lib.hid (E6.out.step b7)
        clear b7 H6 E6
        go_wp2_with (fail)
        refine (HIX.out _ _ _ E7.out).mono ?_
        rintro e w8 ⟨rfl, b8⟩
        have H8 := Lib.hid (H7.out.step b8)
        have E8 := Lib.hid (E7.out.step b8)
        clear b8 H7 E7
        go_wp2_with (fail)
        refine (HLEN.out _ _ _ E8.out).mono ?_
        rintro e w9 ⟨rfl, rfl⟩
        go_wp2_with (fail)
        refine (HLOO.out _ _ _ E8.out).mono ?_
        rintro e w9 ⟨rfl, rfl⟩
        go_wp2_with (fail)
        refine (H77.out w8).mono ?_
        rintro e w9 ⟨rfl, b9⟩
        have H9 := Lib.hid (H8.out.step b9)
        have E9 := Lib.hid (E8.out.step b9)
        clear b9 H8 E8
        go_wp2_with (fail)
        refine (HWR.out _ _ _ E9.out).mono ?_
        rintro e w10 ⟨rfl, e10⟩
        have E10 := Lib.hid e10
        have H10 := Lib.hid (H5.out.step e10.below)
        clear e10 H9 E9
        go_wp2_with (fail)
        refine (HSY.out _ _ _ E10.out).mono ?_
        rintro e w11 ⟨rfl, e11⟩
        have E11 := Lib.hid e11
        have H11 := Lib.hid (H5.out.step e11.below)
        clear e11 H10 E10
        go_wp2_with (fail)
        refine (HIM.out w11 H11.out).mono ?_
        rintro e w12 ⟨rfl, b12⟩
        have H12 := Lib.hid (H11.out.step b12)
        have E12 := Lib.hid (E11.out.step b12)
        clear b12 H11 E11
        go_wp2_with (fail)
        refine (HRD.out _ _ _ E12.out).mono ?_
        rintro e w13 ⟨rfl, rfl⟩
        go_wp2_with (fail)
        refine (H77.out w12).mono ?_
        rintro e w13 ⟨rfl, b13⟩
        have H13 := Lib.hid (H12.out.step b13)
        clear b13 H12 E12
        go_wp2_with (fail)
        refine (at_new w w13 H13.out.below (-5) 0 (by omega)).mono ?_
        rintro e w14 ⟨F, rfl, h14⟩
        have F14 := Lib.hid h14
        clear h14 H13
        go_wp2_with (fail)
        refine (disk_len _ w14 F _ F14.out.disk).mono ?_
        rintro e w15 ⟨rfl, rfl⟩
        rw [show ((freshSt 0 fun _ => 0).n : Int) = 0 from rfl]
        go_wp2_with (fail)
        refine (at_new w w14 F14.out.below 1099511627776 4096 (by omega)).mono ?_
        rintro e w15 ⟨G, rfl, h15⟩
        have G15 := Lib.hid h15
        clear h15 F14
        go_wp2_with (fail)
        refine (disk_len _ w15 G _ G15.out.disk).mono ?_
        rintro e w16 ⟨rfl, rfl⟩
        rw [show ((freshSt 4096 fun _ => 0).n : Int) = 4096 from rfl]
        go_wp2_with (fail)
        exact bodyPost_ret (results_tmp rfl _ _ _) rfl ⟨rfl, G15.out.below⟩
      · have z0 : ¬ (k : Int) < (len : Int) := of_decide_eq_false x0
        go_wp2_with (fail)
        refine (HIM.out wr HAT.out).mono ?_
        rintro e w5 ⟨rfl, b5⟩
        have H5 := Lib.hid (HAT.out.step b5)
        clear b5 HAT
        go_wp2_with (fail)
        refine (HOD.out w5 H5.out).mono ?_
        rintro e w6 ⟨E, rfl, h6⟩
        have H6 := Lib.hid (H5.out.step h6.below)
        have E6 := Lib.hid h6
        clear h6
        go_wp2_with (fail)
        refine (HIM.out w6 H6.out).mono ?_
        rintro e w7 ⟨rfl, b7⟩
        have H7 := Lib.hid (H6.out.step b7)
        have E7 := Lib.hid (E6.out.step b7)
        clear b7 H6 E6
        go_wp2_with (fail)
        refine (HIX.out _ _ _ E7.out).mono ?_
        rintro e w8 ⟨rfl, b8⟩
        have H8 := Lib.hid (H7.out.step b8)
        have E8 := Lib.hid (E7.out.step b8)
        clear b8 H7 E7
        go_wp2_with (fail)
        refine (HLEN.out _ _ _ E8.out).mono ?_
        rintro e w9 ⟨rfl, rfl⟩
        go_wp2_with (fail)
        refine (HLOO.out _ _ _ E8.out).mono ?_
        rintro e w9 ⟨rfl, rfl⟩
        go_wp2_with (fail)
        refine (H77.out w8).mono ?_
        rintro e w9 ⟨rfl, b9⟩
        have H9 := Lib.hid (H8.out.step b9)
        have E9 := Lib.hid (E8.out.step b9)
        clear b9 H8 E8
        go_wp2_with (fail)
        refine (HWR.out _ _ _ E9.out).mono ?_
        rintro e w10 ⟨rfl, e10⟩
        have E10 := Lib.hid e10
        have H10 := Lib.hid (H5.out.step e10.below)
        clear e10 H9 E9
        go_wp2_with (fail)
        refine (HSY.out _ _ _ E10.out).mono ?_
        rintro e w11 ⟨rfl, e11⟩
        have E11 := Lib.hid e11
        have H11 := Lib.hid (H5.out.step e11.below)
        clear e11 H10 E10
        go_wp2_with (fail)
        refine (HIM.out w11 H11.out).mono ?_
        rintro e w12 ⟨rfl, b12⟩
        have H12 := Lib.hid (H11.out.step b12)
        have E12 := Lib.hid (E11.out.step b12)
        clear b12 H11 E11
        go_wp2_with (fail)
        refine (HRD.out _ _ _ E12.out).mono ?_
        rintro e w13 ⟨rfl, rfl⟩
        go_wp2_with (fail)
        refine (H77.out w12).mono ?_
        rintro e w13 ⟨rfl, b13⟩
        have H13 := Lib.hid (H12.out.step b13)
        clear b13 H12 E12
        go_wp2_with (fail)
        refine (at_new w w13 H13.out.below (-5) 0 (by omega)).mono ?_
        rintro e w14 ⟨F, rfl, h14⟩
        have F14 := Lib.hid h14
        clear h14 H13
        go_wp2_with (fail)
        refine (disk_len _ w14 F _ F14.out.disk).mono ?_
        rintro e w15 ⟨rfl, rfl⟩
        rw [show ((freshSt 0 fun _ => 0).n : Int) = 0 from rfl]
        go_wp2_with (fail)
        refine (at_new w w14 F14.out.below 1099511627776 4096 (by omega)).mono ?_
        rintro e w15 ⟨G, rfl, h15⟩
        have G15 := Lib.hid h15
        clear h15 F14
        go_wp2_with (fail)
        refine (disk_len _ w15 G _ G15.out.disk).mono ?_
        rintro e w16 ⟨rfl, rfl⟩
        rw [show ((freshSt 4096 fun _ => 0).n : Int) = 4096 from rfl]
        go_wp2_with (fail)
        exact bodyPost_ret (results_tmp rfl _ _ _) rfl ⟨rfl, G15.out.below⟩
end Go.Proofs.Ythmpmpofhpkmjab.diskCopy
