/- The two readings of a path agree on whether there is a way, for every layout. -/
import Derived.Test.YtagkgejdammflaaGreatR7
namespace Go.Proofs.YtagkgejdammflaaGreat

theorem way_isSome (L : Lay) : ∀ (ns : List Int) (e : Int × Int), (wayL L e ns).isSome = (wayR L e ns).isSome
  | [], _ => rfl
  | n :: r, e => by
    cases hi : inL (aroundL L e) n with
    | none => rw [wayL_none hi, wayR_none hi]
    | some i => rw [wayL_some hi, wayR_some hi, Option.isSome_map, Option.isSome_map, way_isSome L r]

theorem ways_isSome (L : Lay) (a : Int) (r : List Int) : (ways L a r).isSome = (waysR L a r).isSome := by
  have h0 := way_isSome L r (a, 0)
  have h1 := way_isSome L r (a, 1)
  unfold ways waysR
  cases hl : wayL L (a, 0) r with
  | none => cases hr : wayR L (a, 0) r with
    | none => exact h1
    | some y => rw [hl, hr] at h0; simp at h0
  | some x => cases hr : wayR L (a, 0) r with
    | none => rw [hl, hr] at h0; simp at h0
    | some y => rfl

theorem path_isSome (L : Lay) (p : List Int) : (pathL L p).isSome = (pathR L p).isSome := by
  unfold pathL pathR
  split
  · rfl
  · exact ways_isSome L _ _

end Go.Proofs.YtagkgejdammflaaGreat
