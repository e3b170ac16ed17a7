/- Contracts: Next. -/
import Derived.Test.YtifcgkpannlnnaaG13
namespace Go.Proofs.Ytifcgkpannlnnaa
open Go.RowKit Fl
set_option maxRecDepth 100000

/-- The side of a point that is open. -/
def openL (p : Int × Int × Int × Int) (b : Bool) : Int := if b then p.2.2.2 else p.2.2.1
/-- The ends to which the track leads, as the points stand. -/
def nextEs (L : Lay) (e : Int × Int) (right : List Bool) : List (Int × Int) :=
  if 0 ≤ pointAtL L e then throughL L.secs (L.points.getD (pointAtL L e).toNat (0, 0, 0, 0)) e.1 [openL (L.points.getD (pointAtL L e).toNat (0, 0, 0, 0)) (right.getD (pointAtL L e).toNat false)]
  else aroundL L e
def nextL (L : Lay) (e : Int × Int) (right : List Bool) : Option (Int × Int) := (nextEs L e right).head?

theorem pointAtL_lt {L : Lay} {e : Int × Int} (h : 0 ≤ pointAtL L e) : ∃ i : Nat, pointAtL L e = (i : Int) ∧ i < L.points.length := by
  unfold pointAtL at h ⊢
  cases hn : nodeL L.secs e with
  | none => rw [hn] at h; simp at h
  | some n => rw [hn] at h; exact pointL_lt h

def RetNext (r : Option (Int × Int)) (w : World) (e : Ending) (w' : World) : Prop :=
  e = .returned (.tuple #[.agg #[.int .i64 (r.getD (0, 0)).1, .int .i64 (r.getD (0, 0)).2], .bool r.isSome]) ∧ Below w.heap.size w w'

theorem Rd.lone (w : World) (a : Int) : Rd (w.alloc (.cells #[.int .i64 a] 3)) (w.alloc (.cells #[.int .i64 a] 3)).heap.size (.slice (some ⟨w.heap.size, 0, none⟩) 1 1) (ivals [a]) := by
  have h := World.ownsRow_lit (base := 0) (e := 3) (size := 1) w #[.int .i64 a] 1 (Nat.zero_le _) (by unfold maxLen; omega) rfl
  exact Rd.of_own h

end Go.Proofs.Ytifcgkpannlnnaa
