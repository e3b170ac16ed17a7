/- The document's rules by their numbers: how many places, does it hold. -/
import Derived.Test.YtagkgejdammflaaGreatV13
import Derived.Test.YtagkgejdammflaaGreatV16
import Derived.Test.YtagkgejdammflaaGreatV17
import Derived.Test.YtagkgejdammflaaGreatV18
import Derived.Test.YtagkgejdammflaaGreatV21
import Derived.Test.YtagkgejdammflaaGreatV22
import Derived.Test.YtagkgejdammflaaGreatV23
import Derived.Test.YtagkgejdammflaaGreatV25
import Derived.Test.YtagkgejdammflaaGreatV26
import Derived.Test.YtagkgejdammflaaGreatV27
import Derived.Test.YtagkgejdammflaaGreatV29
namespace Go.Proofs.YtagkgejdammflaaGreat
open Go.RowKit Fl
set_option maxRecDepth 100000

/-- The program's rule that is the document's rule r, first part; second part. -/
def kOne (r : Nat) : Nat := if r ≤ 13 then r - 1 else if r ≤ 15 then r else 17
def kTwo (r : Nat) : Nat := if r = 13 then 13 else 16
def refN (L : Lay) (r : Nat) : Nat := ruleN L (kOne r)
def refM (L : Lay) (r : Nat) : Nat := if r = 13 then L.parts.length else if r = 15 then L.routes.length else 0

theorem places_any (w : World) (v : Value) (L : Lay) (h : LayV w w.heap.size v L) (r : Nat) (h1 : 1 ≤ r) (h2 : r ≤ 15) :
    Calls Tryz.prog 25 #[v, .int .i64 (r : Int)] w fun e w' => e = .returned (.tuple #[.int .i64 (refN L r : Nat), .int .i64 (refM L r : Nat)]) ∧ Below w.heap.size w w' := by
  rcases (by omega : r = 1 ∨ r = 2 ∨ r = 3 ∨ r = 4 ∨ r = 5 ∨ r = 6 ∨ r = 7 ∨ r = 8 ∨ r = 9 ∨ r = 10 ∨ r = 11 ∨ r = 12 ∨ r = 13 ∨ r = 14 ∨ r = 15) with rfl | rfl | rfl | rfl | rfl | rfl | rfl | rfl | rfl | rfl | rfl | rfl | rfl | rfl | rfl
  · exact places1 w v L h
  · exact places2 w v L h
  · exact places3 w v L h
  · exact places4 w v L h
  · exact places5 w v L h
  · exact places6 w v L h
  · exact places7 w v L h
  · exact places8 w v L h
  · exact places9 w v L h
  · exact places10 w v L h
  · exact places11 w v L h
  · exact places12 w v L h
  · exact places13 w v L h
  · exact places14 w v L h
  · exact places15 w v L h

theorem holds12 (w : World) (v : Value) (L : Lay) (p : Nat) (h : LayV w w.heap.size v L) (hL : Fits L) (hN : Noded L) (hP : Placed L) (hJ : ∀ q ∈ L.points, joinsB L q = true) (hp : p < L.nodes.length) (hI : itsPointB L p = true) (hE : inB ((endsL L.secs p).length : Int) 1 3 = true) :
    Calls Tryz.prog 26 #[v, .int .i64 12, .int .i64 (p : Nat)] w (RetL (goesB L p) w) := by
  unfold inB at hE
  simp only [decide_eq_true_eq] at hE
  rcases (by omega : (endsL L.secs p).length = 1 ∨ (endsL L.secs p).length = 2 ∨ (endsL L.secs p).length = 3) with e | e | e
  · exact holds12c w v L p h hL hI e
  · exact holds12b w v L p h hL hN hP hp hI e
  · exact holds12a w v L p h hL hN hP hJ hp hI e

theorem holds_any (w : World) (v : Value) (L : Lay) (h : LayV w w.heap.size v L) (hV : Vf L) (r : Nat) (h1 : 1 ≤ r) (h2 : r ≤ 15) (p : Nat) (hp : p < refN L r) (hprev : ∀ k, k < kOne r → Holds17 L k) :
    Calls Tryz.prog 26 #[v, .int .i64 (r : Int), .int .i64 (p : Int)] w (RetL (ruleB L (kOne r) p) w) := by
  rcases (by omega : r = 1 ∨ r = 2 ∨ r = 3 ∨ r = 4 ∨ r = 5 ∨ r = 6 ∨ r = 7 ∨ r = 8 ∨ r = 9 ∨ r = 10 ∨ r = 11 ∨ r = 12 ∨ r = 13 ∨ r = 14 ∨ r = 15) with rfl | rfl | rfl | rfl | rfl | rfl | rfl | rfl | rfl | rfl | rfl | rfl | rfl | rfl | rfl
  · exact holds1 w v L p h
  · have hpn : p < L.nodes.length := hp
    have e : ruleB L 1 p = ownPlaceB L p hpn := by show (if h : p < L.nodes.length then ownPlaceB L p h else false) = _; rw [dif_pos hpn]
    show Calls Tryz.prog 26 #[v, .int .i64 2, .int .i64 (p : Int)] w (RetL (ruleB L 1 p) w)
    rw [e]; exact holds2 w v L p h hpn hV.n
  · exact holds3 w v L p h
  · have hpn : p < L.secs.length := hp
    have e : ruleB L 3 p = fitsSB L L.secs[p] := by show fitsSB L (L.secs.getD p (0, 0, 0)) = _; simp [hpn]
    show Calls Tryz.prog 26 #[v, .int .i64 4, .int .i64 (p : Int)] w (RetL (ruleB L 3 p) w)
    rw [e]; exact holds4 w v L p h hpn (placed_of (hprev 1 (by decide)))
  · exact holds5 w v L p h
  · have hpn : p < L.secs.length := hp
    have e : ruleB L 5 p = decide (L.speed ≤ L.secs[p].1) := by show decide (L.speed ≤ (L.secs.getD p (0, 0, 0)).1) = _; simp [hpn]
    show Calls Tryz.prog 26 #[v, .int .i64 6, .int .i64 (p : Int)] w (RetL (ruleB L 5 p) w)
    rw [e]; exact holds6 w v L p h hpn
  · exact holds7 w v L p h
  · exact holds8 w v L p h hV.f
  · exact holds9 w v L p h
  · have hpn : p < L.points.length := hp
    have e : ruleB L 9 p = joinsB L L.points[p] := by show joinsB L (L.points.getD p (0, 0, 0, 0)) = _; simp [hpn]
    show Calls Tryz.prog 26 #[v, .int .i64 10, .int .i64 (p : Int)] w (RetL (ruleB L 9 p) w)
    rw [e]; exact holds10 w v L p h hV.f (parted_of (hprev 3 (by decide))) (noded_of (hprev 3 (by decide))) hpn
  · exact holds11 w v L p h hV.f
  · have hpn : p < L.nodes.length := hp
    exact holds12 w v L p h hV.f (noded_of (hprev 3 (by decide))) (placed_of (hprev 1 (by decide))) (joined_of (hprev 9 (by decide))) hpn (hprev 10 (by decide) p hpn) (hprev 7 (by decide) p hpn)
  · exact holds13 w v L p h
  · exact holds14 w v L p h (by have := hV.f.p; omega) (fun r hr => by have := hV.f.r r hr; omega)
  · exact holds15 w v L p h

theorem part_any' (w : World) (v : Value) (L : Lay) (h : LayV w w.heap.size v L) (hV : Vf L) (hR : ∀ r ∈ L.routes, r.length ≤ 1000) (r : Nat) (hr : r = 13 ∨ r = 15) (p : Nat) (hp : p < refM L r) :
    Calls Tryz.prog 27 #[v, .int .i64 (r : Int), .int .i64 (p : Int)] w (RetL (ruleB L (kTwo r) p) w) := by
  rcases hr with rfl | rfl
  · have hpn : p < L.parts.length := hp
    have e : ruleB L 13 p = ofSecsB L L.parts[p] := by show ofSecsB L (L.parts.getD p []) = _; simp [hpn]
    show Calls Tryz.prog 27 #[v, .int .i64 13, .int .i64 (p : Int)] w (RetL (ruleB L 13 p) w)
    rw [e]; exact part13 w v L p h hpn (fun r hr => by have := hV.f.r r hr; omega)
  · have hpn : p < L.routes.length := hp
    have e : ruleB L 16 p = (decide (L.routes[p].length ≤ 12) && (pathR L L.routes[p]).isSome) := by
      show pathB L (L.routes.getD p []) = _
      unfold pathB
      simp [hpn, path_isSome]
    show Calls Tryz.prog 27 #[v, .int .i64 15, .int .i64 (p : Int)] w (RetL (ruleB L 16 p) w)
    rw [e]; exact part15 w v L p h hpn hV.f hR
end Go.Proofs.YtagkgejdammflaaGreat
