/-
  Law 05's own helper: the document's example. No condition.
-/
import Derived.Test.YtmnponjngdnolaaZone3
import Derived.Test.YtmnponjngdnolaaDkLaw05
namespace Go.Proofs.Ytmnponjngdnolaa
open Go.ChangeShapes Go.WideShapes Go.ChangeAt Go.RowKit Dk

namespace Dk
def zwA : ByteArray := secS fun _ => 97
def zw0 : St := freshSt 4 fun _ => 0
def zw1 : St := zw0.burnt.put 3 (bs zwA)
def zw2 : St := zw1.burnt.synced
theorem zw_read : secS (sect zw1.now 3) = zwA := by decide +kernel
theorem zwA_size : zwA.size = 32 := secS_size _
end Dk
set_option maxRecDepth 100000 in
set_option maxHeartbeats 3200000 in
theorem awake05 (w : World) :
    Calls Try.prog 5 #[] w fun e w' => e = .returned (.bool true) ∧ Below w.heap.size w w' := by
  have o97 := law_of 97
  change ∀ W, Calls Try.prog 9 #[.int .u8 97] W fun e w' => e = .returned (.string zwA) ∧ Below W.heap.size W w' at o97
  have O97 := Lib.hid o97
  clear o97
  go_enter Try.func5, Try.ntmps5
  go_wp2_with (fail)
  refine (at_new w w (Below.refl _ _) 4 4 (by omega)).mono ?_
  rintro e w1 ⟨D, rfl, h1⟩
  have H1 := Lib.hid (show Zn w w1 D zw0 [] from Zn.of_at h1)
  clear h1
  go_wp2_with (fail)
  refine (H1.out.news 2 2 (by decide) (by decide)).mono ?_
  rintro e w2 ⟨Z, rfl, h2⟩
  have H2 := Lib.hid h2
  clear h2 H1
  go_wp2_with (fail)
  refine (O97.out w2).mono ?_
  rintro e w3 ⟨rfl, b3⟩
  have H3 := Lib.hid (H2.out.step b3)
  clear H2 b3
  go_wp2_with (fail)
  refine (H3.out.write (Z := Z) (f := 2) (n := 2) (List.mem_cons_self ..) rfl rfl (by decide) (by decide) (by decide) 1 (by decide) zwA zwA_size).mono ?_
  rintro e w4 ⟨rfl, h4⟩
  have H4 := Lib.hid (show Zn w w4 D zw1 [(Z, zobj D 2 2)] from h4)
  clear H3 h4
  go_wp2_with (fail)
  refine (disk_read _ w4 D zw1 H4.out.disk rfl 3 (by decide)).mono ?_
  rintro e w5 ⟨rfl, rfl⟩
  rw [zw_read]
  go_wp2_with (fail)
  refine (zone_read_out w4 Z D 2 2 (H4.out.fix _ (List.mem_cons_self ..)) 2 (.inr (by decide))).mono ?_
  rintro e w5 ⟨rfl, rfl⟩
  go_wp2_with (fail)
  refine (O97.out w4).mono ?_
  rintro e w5 ⟨rfl, b5⟩
  have H5 := Lib.hid (H4.out.step b5)
  have hz5 := zone_c0 (H5.out.fix (Z, zobj D 2 2) (List.mem_cons_self ..))
  clear H4 b5
  generalize zwA = sA
  go_wp2_with (fail)
  refine (zone_len w5 Z D 2 2 (H5.out.fix _ (List.mem_cons_self ..))).mono ?_
  rintro e w6 ⟨rfl, rfl⟩
  go_wp2_with (fail)
  refine (disk_isOn _ w5 D zw1 H5.out.disk).mono ?_
  rintro e w6 ⟨rfl, rfl⟩
  rw [show (!zw1.away) = true from rfl]
  go_wp2_with (fail)
  refine (H5.out.sync rfl rfl (by decide) (by decide)).mono ?_
  rintro e w6 ⟨rfl, h6⟩
  have H6 := Lib.hid (show Zn w w6 D zw2 [(Z, zobj D 2 2)] from h6)
  have hz6 := zone_c0 (H6.out.fix (Z, zobj D 2 2) (List.mem_cons_self ..))
  clear H5 h6 hz5
  go_wp2_with (fail)
  refine (disk_image _ w6 D zw2 H6.out.disk).mono ?_
  rintro e w7 ⟨rfl, b7⟩
  have H7 := Lib.hid (H6.out.step b7)
  clear H6 b7 hz6
  generalize hI : imgS zw2.n zw2.safe = im
  go_wp2_with (fail)
  refine (disk_image _ w7 D zw2 H7.out.disk).mono ?_
  rintro e w8 ⟨rfl, b8⟩
  have H8 := Lib.hid (H7.out.step b8)
  clear H7 b8
  rw [hI]
  go_wp2_with (fail)
  refine bodyPost_ret (results_tmp rfl _ _ _) rfl ?_
  exact ⟨rfl, H8.out.below⟩
end Go.Proofs.Ytmnponjngdnolaa
