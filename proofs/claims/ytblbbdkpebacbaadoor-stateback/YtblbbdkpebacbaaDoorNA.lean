/- Contracts: Part, mustRight, IndexFunc of ends. Contracts: Next. Contracts: way. Contracts: Path. -/
import Derived.Test.YtblbbdkpebacbaaDoorGB
import Derived.Test.YtblbbdkpebacbaaDoorWMath
import Derived.Deep.RegionHeld3
namespace Go.Proofs.YtblbbdkpebacbaaDoor
open Go.RowKit Fl
set_option maxRecDepth 100000

theorem contains52 (w : World) (D : Nat) (v : Value) (xs : List Int) (n : Int) (h : Rd w D v (ivals xs)) (hl : xs.length ≤ 1000) :
    Calls Tryd.prog 40 #[v, .int .i64 n] w fun e w' => e = .returned (.bool (xs.contains n)) ∧ w = w' := by
  obtain ⟨A, c, rfl, h0, hx⟩ := h
  have hvl : (ivals xs).length = xs.length := by simp [ivals]
  rw [hvl] at hx ⊢
  rcases Nat.eq_zero_or_pos xs.length with e | e
  · obtain rfl : xs = [] := List.length_eq_zero_iff.1 e
    refine (Tryd.slices_Contains_int_empty A c n w).mono ?_
    rintro e w' ⟨rfl, rfl⟩; exact ⟨rfl, rfl⟩
  · obtain ⟨b, o, rfl, hb, hc⟩ := hx e
    refine (Tryd.slices_Contains_int b o xs.length c xs n w (Nat.le_refl _) (by omega) (ints_at' hc)).mono ?_
    rintro e w' ⟨rfl, rfl⟩
    refine ⟨?_, rfl⟩
    simp

/-- The first part in which a section is. -/
def partL (ps : List (List Int)) (s : Int) : Int :=
  match ps.findIdx? (fun p => p.contains s) with
  | some i => (i : Int)
  | none => -1
theorem partL_at {ps : List (List Int)} {n : Int} {i : Nat} (hi : i < ps.length) (h : ps[i].contains n = true) (hb : ∀ j (hj : j < ps.length), j < i → ps[j].contains n = false) : partL ps n = (i : Int) := by
  unfold partL
  have e : ps.findIdx? (fun p => p.contains n) = some i := by
    rw [List.findIdx?_eq_some_iff_getElem]
    exact ⟨hi, h, fun j hj => by rw [hb j (by omega) hj]; decide⟩
  rw [e]
theorem partL_none {ps : List (List Int)} {n : Int} (hb : ∀ j (hj : j < ps.length), ps[j].contains n = false) : partL ps n = -1 := by
  unfold partL
  have e : ps.findIdx? (fun p => p.contains n) = none := by
    rw [List.findIdx?_eq_none_iff]
    intro x hx
    obtain ⟨j, hj, rfl⟩ := List.getElem_of_mem hx
    exact hb j hj
  rw [e]

/-- Must a point stand to the right? -/
def mustL (p : Int × Int × Int × Int) (f t : Int) : Bool := if f = p.2.1 then !(t == p.2.2.1) else !(f == p.2.2.1)

/-- The first end of a list that is of a section, or -1. -/
def inL (xs : List (Int × Int)) (s : Int) : Option Nat := xs.findIdx? (fun e => decide (e.1 = s))
theorem inL_at {xs : List (Int × Int)} {n : Int} {i : Nat} (hi : i < xs.length) (h : xs[i].1 = n) (hb : ∀ j (hj : j < xs.length), j < i → xs[j].1 ≠ n) : inL xs n = some i := by
  unfold inL
  rw [List.findIdx?_eq_some_iff_getElem]
  exact ⟨hi, by simpa using h, fun j hj => by simpa using hb j (by omega) hj⟩
theorem inL_none {xs : List (Int × Int)} {n : Int} (hb : ∀ j (hj : j < xs.length), xs[j].1 ≠ n) : inL xs n = none := by
  unfold inL
  rw [List.findIdx?_eq_none_iff]
  intro x hx
  obtain ⟨j, hj, rfl⟩ := List.getElem_of_mem hx
  simpa using hb j hj
theorem inL_lt {xs : List (Int × Int)} {n : Int} {i : Nat} (h : inL xs n = some i) : i < xs.length := by
  unfold inL at h
  rw [List.findIdx?_eq_some_iff_getElem] at h
  exact h.1
def idxI (o : Option Nat) : Int := match o with | some i => (i : Int) | none => -1

end Go.Proofs.YtblbbdkpebacbaaDoor

namespace Go.Proofs.YtblbbdkpebacbaaDoor
open Go.RowKit Fl
set_option maxRecDepth 100000

/-- The side of a point that is open. -/
def openL (p : Int × Int × Int × Int) (b : Bool) : Int := if b then p.2.2.2 else p.2.2.1
/-- The ends to which the track leads, as the points stand. -/
def nextEs (L : Lay) (e : Int × Int) (right : List Bool) : List (Int × Int) :=
  if 0 ≤ pointAtL L e then throughL L.secs (L.points.getD (pointAtL L e).toNat (0, 0, 0, 0)) e.1 [openL (L.points.getD (pointAtL L e).toNat (0, 0, 0, 0)) (right.getD (pointAtL L e).toNat false)]
  else aroundL L e
def nextL (L : Lay) (e : Int × Int) (right : List Bool) : Option (Int × Int) := (nextEs L e right).head?

theorem pointAtL_lt {L : Lay} {e : Int × Int} (h : 0 ≤ pointAtL L e) : ∃ i : Nat, pointAtL L e = (i : Int) ∧ i < L.points.length := by
  unfold pointAtL at h ⊢
  cases hn : nodeL L.secs e with
  | none => rw [hn] at h; simp at h
  | some n => rw [hn] at h; exact pointL_lt h

def RetNext (r : Option (Int × Int)) (w : World) (e : Ending) (w' : World) : Prop :=
  e = .returned (.tuple #[.agg #[.int .i64 (r.getD (0, 0)).1, .int .i64 (r.getD (0, 0)).2], .bool r.isSome]) ∧ Below w.heap.size w w'

theorem Rd.lone (w : World) (a : Int) : Rd (w.alloc (.cells #[.int .i64 a] 3)) (w.alloc (.cells #[.int .i64 a] 3)).heap.size (.slice (some ⟨w.heap.size, 0, none⟩) 1 1) (ivals [a]) := by
  have h := World.ownsRow_lit (base := 0) (e := 3) (size := 1) w #[.int .i64 a] 1 (Nat.zero_le _) (by unfold maxLen; omega) rfl
  exact Rd.of_own h

end Go.Proofs.YtblbbdkpebacbaaDoor

namespace Go.Proofs.YtblbbdkpebacbaaDoor
open Go.RowKit Fl
set_option maxRecDepth 100000

def ncells (xs : List (Int × Bool)) : List Value := xs.flatMap fun s => [.int .i64 s.1, .bool s.2]
theorem ncells_snoc (xs : List (Int × Bool)) (a : Int) (b : Bool) : ncells xs ++ [.int .i64 a, .bool b] = ncells (xs ++ [(a, b)]) := by simp [ncells]
/-- What a step over a point needs. -/
def needL (L : Lay) (e : Int × Int) (n : Int) : List (Int × Bool) :=
  if 0 ≤ pointAtL L e then [(pointAtL L e, mustL (L.points.getD (pointAtL L e).toNat (0, 0, 0, 0)) e.1 n)] else []
/-- The needs of a way. -/
def wayL (L : Lay) : Int × Int → List Int → Option (List (Int × Bool))
  | _, [] => some []
  | e, n :: r => match inL (aroundL L e) n with
    | none => none
    | some i => (wayL L (n, 1 - ((aroundL L e).getD i (0, 0)).2) r).map (needL L e n ++ ·)
theorem wayL_none {L : Lay} {e : Int × Int} {n : Int} {r : List Int} (h : inL (aroundL L e) n = none) : wayL L e (n :: r) = none := by rw [wayL, h]
theorem wayL_some {L : Lay} {e : Int × Int} {n : Int} {r : List Int} {i : Nat} (h : inL (aroundL L e) n = some i) : wayL L e (n :: r) = (wayL L (n, 1 - ((aroundL L e).getD i (0, 0)).2) r).map (needL L e n ++ ·) := by rw [wayL, h]

end Go.Proofs.YtblbbdkpebacbaaDoor

namespace Go.Proofs.YtblbbdkpebacbaaDoor
open Go.RowKit Fl
set_option maxRecDepth 100000

def ways (L : Lay) (a : Int) (r : List Int) : Option (List (Int × Bool)) := match wayL L (a, 0) r with
  | some x => some x
  | none => wayL L (a, 1) r
/-- The needs of a path. -/
def pathL (L : Lay) (p : List Int) : Option (List (Int × Bool)) := if p.length < 2 ∨ (riseL p).length < p.length then none else ways L (p.getD 0 0) (p.drop 1)

end Go.Proofs.YtblbbdkpebacbaaDoor
