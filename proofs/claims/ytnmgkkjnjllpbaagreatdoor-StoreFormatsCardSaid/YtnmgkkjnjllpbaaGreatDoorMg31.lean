/-
  All bytes of a disk that is laid out. No program here. No conditions.
-/
import Derived.Test.YtnmgkkjnjllpbaaGreatDoorMg16
import Derived.Test.YtnmgkkjnjllpbaaGreatDoorMg30
set_option maxRecDepth 100000
namespace Go.Proofs.YtnmgkkjnjllpbaaGreatDoor
open Go Go.RowKit Pn Dk Sl Ly Tw

namespace Ly
theorem sect_at (F : Nat → UInt8) (k : Nat) : F k = sect F (k / 32) (k % 32) := by
  unfold sect
  rw [show k / 32 * 32 + k % 32 = k by omega]
theorem fmt_img (x : Dk.St) (hx : x.Full) (nd r n : Nat) (s sup : ByteArray) (hsup : szN sup.size = 2) (hr4 : 4 ≤ r) (hp : szN s.size ≤ r / 2) (hnd : 2 + r ≤ nd) (hn : nd ≤ n) :
    catB 1 (sealL sup) 2 ++ catB 1 (sealL s) (szN s.size) ++ imgS (nd - 2 - szN s.size) (fun _ => 0) ++ (imgS n x.now).extract (nd * 32) (imgS n x.now).size = imgS n (x.fmt nd r s sup).safe := by
  have hz2 := szN_two s.size
  have hs : (x.fmt nd r s sup).safe = (x.fmt nd r s sup).now :=
    (full_synced (x := ((x.fmt1 nd r s).laid 0 (secF 1 (sealL sup)) (szN sup.size)).burnt) (laid_full _ _ _ (full_synced (x := ((x.fmt0 nd r).laid 2 (secF 1 (sealL s)) (szN s.size)).burnt) (laid_full _ _ _ (filled_full2 _ 2 _ (filled_full2 x 0 _ hx nd) r) _)).1 _)).2
  have key1 : ∀ q, q < 2 → ∀ j, j < 32 → sect (x.fmt nd r s sup).now q j = secF 1 (sealL sup) q j := fun q hq j hj => by
    have := laid_in (x.fmt1 nd r s) 0 (secF 1 (sealL sup)) (szN sup.size) q (by omega) j hj
    rw [Nat.zero_add] at this
    exact this
  have key2 : ∀ q, 2 ≤ q → q < 2 + szN s.size → ∀ j, j < 32 → sect (x.fmt nd r s sup).now q j = secF 1 (sealL s) (q - 2) j := fun q h1 h2 j hj => by
    show sect ((x.fmt1 nd r s).laid 0 (secF 1 (sealL sup)) (szN sup.size)).now q j = _
    rw [laid_out _ _ _ _ _ (by omega) j hj]
    have := laid_in (x.fmt0 nd r) 2 (secF 1 (sealL s)) (szN s.size) (q - 2) (by omega) j hj
    rw [show 2 + (q - 2) = q by omega] at this
    exact this
  have key3 : ∀ q, 2 + szN s.size ≤ q → q < nd → ∀ j, j < 32 → sect (x.fmt nd r s sup).now q j = 0 := fun q h1 h2 j hj => fmt_rest x nd r s sup hsup q h1 h2 j hj
  have key4 : ∀ q, nd ≤ q → ∀ j, j < 32 → sect (x.fmt nd r s sup).now q j = sect x.now q j := fun q h1 j hj => by
    show sect ((x.fmt1 nd r s).laid 0 (secF 1 (sealL sup)) (szN sup.size)).now q j = _
    rw [laid_out _ _ _ _ _ (by omega) j hj]
    show sect ((x.fmt0 nd r).laid 2 (secF 1 (sealL s)) (szN s.size)).now q j = _
    rw [laid_out _ _ _ _ _ (by omega) j hj]
    show sect ((x.filled 0 (fun _ => 0) nd).filled 2 (fun _ => 0) r).now q j = _
    rw [filled_out _ _ _ _ _ (by omega) j hj, filled_out _ _ _ _ _ (by omega) j hj]
  rw [hs]
  generalize (x.fmt nd r s sup).now = G at key1 key2 key3 key4 ⊢
  generalize szN s.size = sz at hz2 hp key2 key3 ⊢
  have e : n = 2 + sz + (nd - 2 - sz) + (n - nd) := by omega
  have e2 : imgS n G = imgS (2 + sz + (nd - 2 - sz) + (n - nd)) G := by rw [← e]
  rw [e2, img_app, img_app, img_app, cat_eq, cat_eq, img_end n nd x.now hn]
  have p1 : (imgS 2 fun j => secF 1 (sealL sup) (j / 32) (j % 32)) = imgS 2 G := imgS_congr fun k hk => by
    rw [sect_at G k]
    exact (key1 (k / 32) (by omega) (k % 32) (by omega)).symm
  have p2 : (imgS sz fun j => secF 1 (sealL s) (j / 32) (j % 32)) = imgS sz fun j => G (2 * 32 + j) := imgS_congr fun k hk => by
    show secF 1 (sealL s) (k / 32) (k % 32) = G (2 * 32 + k)
    rw [sect_at G, key2 ((2 * 32 + k) / 32) (by omega) (by omega) _ (by omega)]
    rw [show (2 * 32 + k) / 32 - 2 = k / 32 by omega, show (2 * 32 + k) % 32 = k % 32 by omega]
  have p3 : (imgS (nd - 2 - sz) fun _ => (0 : UInt8)) = imgS (nd - 2 - sz) fun j => G ((2 + sz) * 32 + j) := imgS_congr fun k hk => by
    show 0 = G ((2 + sz) * 32 + k)
    rw [sect_at G]
    exact (key3 _ (by omega) (by omega) _ (by omega)).symm
  have p4 : (imgS (n - nd) fun j => x.now (nd * 32 + j)) = imgS (n - nd) fun j => G ((2 + sz + (nd - 2 - sz)) * 32 + j) := imgS_congr fun k hk => by
    show x.now (nd * 32 + k) = G ((2 + sz + (nd - 2 - sz)) * 32 + k)
    rw [show 2 + sz + (nd - 2 - sz) = nd by omega, sect_at G, sect_at x.now]
    exact (key4 _ (by omega) _ (by omega)).symm
  rw [p1, p2, p3, p4]
end Ly
end Go.Proofs.YtnmgkkjnjllpbaaGreatDoor
