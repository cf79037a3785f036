/-
  ZoneFill's walk. No condition.
-/
import Derived.Test.YtmnponjngdnolaaZnAwake05
import Derived.Test.YtmnponjngdnolaaDkOf
namespace Go.Proofs.Ytmnponjngdnolaa.zoneFill
open Go.ChangeShapes Go.WideShapes Go.ChangeAt Go.RowKit Dk

theorem img_at (n : Nat) (f : Nat → UInt8) (k : Nat) (h : k < n * 32) : (imgS n f)[k]? = some (f k) := by
  rw [getElem?_pos (imgS n f) k (by rw [imgS_size]; exact h)]
  have : (((List.range (n * 32)).map f).toArray)[k]? = some (f k) := by simp [h]
  obtain ⟨h1, h2⟩ := Array.getElem?_eq_some_iff.1 this
  exact congrArg some h2
theorem index_img (n : Nat) (f : Nat → UInt8) (k : Nat) (h : k < n * 32) (w : World) : (Instr.index 9 (.string (imgS n f)) (.int .i64 (k : Int))).run Try.prog w = .ok (.int .u8 ((f k).toNat : Int)) w := by
  have hu := Try.underlying9
  have hb := img_at n f k h
  simp [Instr.index, run_underlying hu, go_sem]
  rw [hb]
  rfl
set_option maxRecDepth 100000 in
set_option maxHeartbeats 3200000 in
theorem walk (w : World) (q : ByteArray) (hq : q.size ≤ maxLen) (b : UInt8) :
    Calls Try.prog 4 #[.string q, .int .u8 (b.toNat : Int)] w fun e w' => e = .returned (.bool true) ∧ Below w.heap.size w w' := by
  have HAW := Lib.hid (awake05 w)
  have hq0 : (q.size : Int) ≤ 9223372036854775807 := by unfold maxLen at hq; omega
  by_cases h1 : 320 < q.size
  · have x0 : (320 : Int) < (q.size : Int) := by omega
    have x1 : decide ((320 : Int) < (q.size : Int)) = true := decide_eq_true x0
    go_enter Try.func4, Try.ntmps4
    go_wp2_with (fail)
    refine HAW.out.mono ?_
    rintro e w1 ⟨rfl, b1⟩
    have B1 := Lib.hid b1
    clear b1 HAW
    go_wp2_with (fail)
    exact bodyPost_ret (results_tmp rfl _ _ _) rfl ⟨rfl, B1.out⟩
  have y0 : decide ((320 : Int) < (q.size : Int)) = false := decide_eq_false (by omega)
  by_cases h2 : q.size < 32
  · have x0 : (q.size : Int) < 32 := by omega
    have x1 : decide ((q.size : Int) < 32) = true := decide_eq_true x0
    go_enter Try.func4, Try.ntmps4
    go_wp2_with (fail)
    refine HAW.out.mono ?_
    rintro e w1 ⟨rfl, b1⟩
    have B1 := Lib.hid b1
    clear b1 HAW
    go_wp2_with (fail)
    exact bodyPost_ret (results_tmp rfl _ _ _) rfl ⟨rfl, B1.out⟩
  have y1 : decide ((q.size : Int) < 32) = false := decide_eq_false (by omega)
  obtain ⟨n, hn⟩ : ∃ n, n = min (q.size / 32) 4096 := ⟨_, rfl⟩
  have hn1 : 1 ≤ n := by omega
  have hn2 : n ≤ 10 := by omega
  have hs3 : q.size ≤ 1099511627776 := by omega
  have HOF := Lib.hid (fun (W : World) => disk_Of (fun i => W.heap.size ≤ i) W q n hn hs3 (fun _ h => h))
  obtain ⟨x, hx⟩ : ∃ x, x = (freshSt n (bs q)).filled 0 (fun _ => b) n := ⟨_, rfl⟩
  have hxn : x.n = n := by rw [hx, filled_n]; rfl
  have hxa : x.away = false := by rw [hx, filled_away]; rfl
  have hxf : x.fuse = none := by rw [hx]; exact filled_fuse _ _ _ rfl _
  have hxl : x.loose.length ≤ n := by have := filled_loose (freshSt n (bs q)) 0 (fun _ => b) n; rw [← hx] at this; simpa [freshSt] using this
  have hxd : x.done ≤ n := by have := (filled_done (freshSt n (bs q)) 0 (fun _ => b) n).2; rw [← hx] at this; simpa [freshSt] using this
  have hxi : ∀ p, p < n → ∀ j, j < 32 → sect x.now (0 + p) j = b := fun p hp j hj => by rw [hx]; exact filled_in _ _ _ _ p hp j hj
  have hxx : x.filled 0 (fun _ => b) n = x := filled_full x 0 (fun _ => b) n hxi n (Nat.le_refl _)
  have himg : (imgS n fun j => x.now (0 * 32 + j)) = imgS n fun _ => b := imgS_congr fun k hk => by
    have := hxi (k / 32) (by omega) (k % 32) (by omega)
    unfold sect at this
    rwa [show (0 + k / 32) * 32 + k % 32 = 0 * 32 + k by omega] at this
  have HX := Lib.hid hx
  have HXX := Lib.hid hxx
  have HIM := Lib.hid himg
  have HSZ := Lib.hid (imgS_size n fun _ => b)
  have HIX := Lib.hid (index_img n fun _ => b)
  clear hx hxx himg hxi hn hs3 hq h1 h2
  generalize (imgS n fun _ => b) = im at HIM HSZ HIX
  have z0 : (im.size : Int) = (n : Int) * 32 := by rw [HSZ.out]; omega
  have e1 : IntKind.i64.wrap ((n : Int) * 32) = (n : Int) * 32 := IntWalk.i64_in _ (by omega)
  go_enter Try.func4, Try.ntmps4
  go_wp2_with (fail)
  refine HAW.out.mono ?_
  rintro e w1 ⟨rfl, b1⟩
  have B1 := Lib.hid b1
  clear b1 HAW
  go_wp2_with (fail)
  refine (HOF.out w1).mono ?_
  rintro e w2 ⟨D, rfl, g1, g2, g3⟩
  have H2 := Lib.hid (show Zn w1 w2 D (freshSt n (bs q)) [] from Zn.of_at ⟨g2, g3⟩)
  clear g1 g2 g3 HOF
  go_wp2_with (fail)
  refine (disk_len _ w2 D _ H2.out.disk).mono ?_
  rintro e w3 ⟨rfl, rfl⟩
  rw [show ((freshSt n (bs q)).n : Int) = (n : Int) from rfl]
  go_wp2_with (fail)
  refine (H2.out.news 0 n hn1 (by show 0 + n ≤ n; omega)).mono ?_
  rintro e w3 ⟨Z, rfl, h3⟩
  have H3 := Lib.hid h3
  clear h3 H2
  go_wp2_with (fail)
  refine (H3.out.fill (Z := Z) (f := 0) (n := n) (List.mem_cons_self ..) rfl rfl (by show 0 + n ≤ _; omega) (by show 0 + n < _; omega) (by show 0 + n ≤ n; omega) b).mono ?_
  rintro e w4 ⟨rfl, h4⟩
  rw [← HX.out] at h4
  have H4 := Lib.hid h4
  have c4 := zone_c0 (h4.fix (Z, zobj D 0 n) (List.mem_cons_self ..))
  clear h4 H3 HX
  go_wp2_with (fail)
  refine (disk_done _ w4 D x H4.out.disk).mono ?_
  rintro e w5 ⟨rfl, rfl⟩
  go_wp2_with (fail)
  refine (H4.out.all (Z := Z) (f := 0) (n := n) (List.mem_cons_self ..) hxa (by omega)).mono ?_
  rintro e w5 ⟨rfl, h5⟩
  rw [HIM.out]
  have H5 := Lib.hid h5
  clear h5 H4 c4 HIM
  go_wp2_with (fail)
  go_loopw [11] (fun i wr => ∃ k : Nat, i = .int .i64 (k : Int) ∧ k ≤ n * 32 ∧ Zn w1 wr D x [(Z, zobj D 0 n)]) (fun i _ => match i with | .int _ k => n * 32 - k.toNat | _ => 0)
  case atStart => exact ⟨0, rfl, Nat.zero_le _, H5.out⟩
  case round =>
    clear H5
    obtain ⟨k, rfl, hkn, hz⟩ := hrel
    have HZ := Lib.hid hz
    clear hz
    by_cases hlt : k < n * 32
    · have x0 : (k : Int) < (n : Int) * 32 := by omega
      have x1 : decide ((k : Int) < (n : Int) * 32) = true := decide_eq_true x0
      have x2 : 0 ≤ (k : Int) := by omega
      have x3 := HIX.out k hlt
      rw [← z0] at x0 x1
      clear z0
      go_wp2_with (fail)
      exact ⟨⟨k + 1, rfl, by omega, HZ.out⟩, by show n * 32 - ((k : Int) + 1).toNat < n * 32 - (k : Int).toNat; omega⟩
    · have hke : k = n * 32 := by omega
      have x0 : ¬ (k : Int) < (im.size : Int) := by omega
      have x1 : decide ((k : Int) < (im.size : Int)) = false := decide_eq_false x0
      have z1 : ((im.size : Int) == (n : Int) * 32) = true := by rw [z0]; exact beq_self_eq_true _
      have z2 : (x.done : Int) ≤ (n : Int) := by omega
      have z3 : decide ((x.done : Int) ≤ (n : Int)) = true := decide_eq_true z2
      have HZL := Lib.hid (zone_len wr Z D 0 n (HZ.out.fix (Z, zobj D 0 n) (List.mem_cons_self ..)))
      have HFI := Lib.hid (HZ.out.fill (Z := Z) (f := 0) (n := n) (List.mem_cons_self ..) hxa hxf (by omega) (by omega) (by omega) b)
      have HDN := Lib.hid (fun (W : World) (h : Zn w1 W D x [(Z, zobj D 0 n)]) => disk_done _ W D x h.disk)
      rw [HXX.out] at HFI
      clear hlt hke HXX hxn hxa hxf hxl hxd z0
      generalize (x.done : Int) = dn at z2 z3 HDN
      go_wp2_with (fail)
      refine HZL.out.mono ?_
      rintro e w6 ⟨rfl, rfl⟩
      go_wp2_with (fail)
      refine HZL.out.mono ?_
      rintro e w6 ⟨rfl, rfl⟩
      go_wp2_with (fail)
      refine HFI.out.mono ?_
      rintro e w6 ⟨rfl, h6⟩
      have H6 := Lib.hid h6
      have c6 := zone_c0 (h6.fix (Z, zobj D 0 n) (List.mem_cons_self ..))
      clear h6
      go_wp2_with (fail)
      refine (HDN.out w6 H6.out).mono ?_
      rintro e w7 ⟨rfl, rfl⟩
      go_wp2_with (fail)
      refine bodyPost_ret (results_tmp rfl _ _ _) rfl ?_
      exact ⟨rfl, B1.out.trans (H6.out.below.mono B1.out.size)⟩
end Go.Proofs.Ytmnponjngdnolaa.zoneFill
