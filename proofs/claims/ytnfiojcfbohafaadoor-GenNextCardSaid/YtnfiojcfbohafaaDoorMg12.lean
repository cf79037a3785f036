/-
  The document's answers for layer 1, call by call: what each comes to. Conditions: numbers are such as an int holds.
  In a region that draws its order: an operation taken first, its slot told: what stands in the slots is reckoned at once. No program here. No conditions.
-/
import Derived.Test.YtnfiojcfbohafaaDoorMg5
import Derived.Test.YtnfiojcfbohafaaDoorMg1
import Derived.OrdersHeld
set_option maxRecDepth 100000
namespace Go.Proofs.YtnfiojcfbohafaaDoor
open Go.ChangeShapes Go.WideShapes Go.ChangeAt Go.RowKit Nm

theorem rclamp_any (x lo hi : Int) (w : World) :
    Calls Tryd.prog 59 #[.int .i64 x, .int .i64 lo, .int .i64 hi] w fun e w' => e = .returned (.int .i64 (clamp x lo hi)) ∧ w = w' := by
  by_cases h1 : x < lo
  · go_enter Tryd.func59, Tryd.ntmps59
    go_wp2
    go_ret
    exact ⟨ret_i (by unfold clamp; rw [if_pos (by omega)]), rfl⟩
  by_cases h2 : hi < x
  · go_enter Tryd.func59, Tryd.ntmps59
    go_wp2
    go_ret
    exact ⟨ret_i (by unfold clamp; rw [if_neg (by omega), if_pos (by omega)]), rfl⟩
  · go_enter Tryd.func59, Tryd.ntmps59
    go_wp2
    go_ret
    exact ⟨ret_i (by unfold clamp; rw [if_neg (by omega), if_neg (by omega)]), rfl⟩

end Go.Proofs.YtnfiojcfbohafaaDoor
namespace Go.Proofs.YtnfiojcfbohafaaDoor
open Go Go.RowKit

theorem wpAnyH_takeAt {P : Program} {md : Region.Mode} {ops : Array Oper} {Q : Exit → Act → World → Prop} {S : World → Prop} {i : Nat} {oi : Oper} {v : Value} {fuel : Nat} {listed : Array Bool} {a : Act} {w : World} (d : Tmp) (hi : ops[i]? = some oi) (hd : oi.dst = some d)
    (hs : Region.noSelect ops = true) (hf : Region.free md ops listed i = true) (hr : (Region.ready md ops listed).contains i = true)
    (hQ : ∀ c a w, Q (.panic c) (a.put (some d) v) w → Q (.panic c) a w) (hy : YieldsIf P ops S oi v a) (hS : S w)
    (h : wpAnyH P md ops Q S fuel (listed.setIfInBounds i true) (a.put (some d) v) w) : wpAnyH P md ops Q S (fuel + 1) listed a w := by
  refine wpAnyH_take hi hs hf hr ?_ hy hS ?_
  · rw [hd]; exact hQ
  · rw [hd]; exact h
end Go.Proofs.YtnfiojcfbohafaaDoor
