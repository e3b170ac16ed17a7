/- The rules, in their order: numbers, places, contracts; the rules' own list. -/
import Derived.Test.YtagkgejdammflaaGreatV10
namespace Go.Proofs.YtagkgejdammflaaGreat
open Go.RowKit Fl
set_option maxRecDepth 100000

def ruleNo  : Nat → Nat
  | 0 => 1
  | 1 => 2
  | 2 => 3
  | 3 => 4
  | 4 => 5
  | 5 => 6
  | 6 => 7
  | 7 => 8
  | 8 => 9
  | 9 => 10
  | 10 => 11
  | 11 => 12
  | 12 => 13
  | 13 => 13
  | 14 => 14
  | 15 => 15
  | 16 => 15
  | _ => 0
def ruleN (L : Lay) : Nat → Nat
  | 0 => 1
  | 1 => L.nodes.length
  | 2 => 1
  | 3 => L.secs.length
  | 4 => 1
  | 5 => L.secs.length
  | 6 => 1
  | 7 => L.nodes.length
  | 8 => 1
  | 9 => L.points.length
  | 10 => L.nodes.length
  | 11 => L.nodes.length
  | 12 => 1
  | 13 => L.parts.length
  | 14 => L.secs.length
  | 15 => 1
  | 16 => L.routes.length
  | _ => 0
def ruleF  : Nat → Nat
  | 0 => 34
  | 1 => 35
  | 2 => 36
  | 3 => 37
  | 4 => 38
  | 5 => 39
  | 6 => 40
  | 7 => 41
  | 8 => 42
  | 9 => 43
  | 10 => 44
  | 11 => 45
  | 12 => 46
  | 13 => 47
  | 14 => 48
  | 15 => 49
  | 16 => 50
  | _ => 0
def ruleB (L : Lay) (k p : Nat) : Bool :=
  match k with
  | 0 => inB (L.nodes.length : Int) 2 40
  | 1 => if h : p < L.nodes.length then ownPlaceB L p h else false
  | 2 => inB (L.secs.length : Int) 1 32
  | 3 => fitsSB L (L.secs.getD p (0, 0, 0))
  | 4 => inB L.speed 1 10000
  | 5 => decide (L.speed ≤ (L.secs.getD p (0, 0, 0)).1)
  | 6 => timesB L
  | 7 => inB ((endsL L.secs (p : Int)).length : Int) 1 3
  | 8 => decide ((L.points.length : Int) ≤ 8)
  | 9 => joinsB L (L.points.getD p (0, 0, 0, 0))
  | 10 => itsPointB L (p : Int)
  | 11 => goesB L (p : Int)
  | 12 => inB (L.parts.length : Int) 1 16
  | 13 => ofSecsB L (L.parts.getD p [])
  | 14 => inOneB L (p : Int)
  | 15 => decide ((L.routes.length : Int) ≤ 16)
  | 16 => pathB L (L.routes.getD p [])
  | _ => true

/-- Not too much of anything. -/
structure Vf (L : Lay) : Prop where
  f : Fits L
  n : L.nodes.length ≤ 1000
  r : L.routes.length ≤ 1000

/-- A rule holds wherever it is asked. -/
def Holds17 (L : Lay) (k : Nat) : Prop := ∀ p, p < ruleN L k → ruleB L k p = true

theorem placed_of {L : Lay} (h : Holds17 L 1) : Placed L := by
  intro z hz
  obtain ⟨p, hp, rfl⟩ := List.getElem_of_mem hz
  have h1 := h p hp
  have e : ruleB L 1 p = ownPlaceB L p hp := by show (if h : p < L.nodes.length then ownPlaceB L p h else false) = _; rw [dif_pos hp]
  rw [e] at h1
  unfold ownPlaceB placeB at h1
  simp only [Bool.and_eq_true, decide_eq_true_eq] at h1
  omega
theorem noded_of {L : Lay} (h : Holds17 L 3) : Noded L := by
  intro z hz
  obtain ⟨p, hp, rfl⟩ := List.getElem_of_mem hz
  have h1 := h p hp
  have e : ruleB L 3 p = fitsSB L L.secs[p] := by show fitsSB L (L.secs.getD p (0, 0, 0)) = _; simp [hp]
  rw [e] at h1
  unfold fitsSB at h1
  simp only [Bool.and_eq_true] at h1
  obtain ⟨a, ha, hal⟩ := inB_nat h1.1
  obtain ⟨b, hb, hbl⟩ := inB_nat h1.2.1
  exact ⟨a, b, ha, hb, hal, hbl⟩
theorem joined_of {L : Lay} (h : Holds17 L 9) : ∀ p ∈ L.points, joinsB L p = true := by
  intro z hz
  obtain ⟨p, hp, rfl⟩ := List.getElem_of_mem hz
  have h1 := h p hp
  have e : ruleB L 9 p = joinsB L L.points[p] := by show joinsB L (L.points.getD p (0, 0, 0, 0)) = _; simp [hp]
  rw [e] at h1; exact h1

theorem rule_any (W : World) (D : Nat) (v : Value) (L : Lay) (hV : Vf L) (h : IsTrk W D v L) (hD : D ≤ W.heap.size) (k p : Nat) (hk : k < 17) (hp : p < ruleN L k) (hprev : ∀ k', k' < k → Holds17 L k') :
    Calls Tryz.prog (ruleF k) #[v, .int .i64 p] W (RetL (ruleB L k p) W) := by
  match k with
  | 0 =>
    exact (hasNodes_any W D v L p h).mono fun e w' ⟨he, hw⟩ => ⟨he, by rw [← hw]; exact Below.refl _ _⟩
  | 1 =>
    have hpn : p < L.nodes.length := hp
    have e : ruleB L 1 p = ownPlaceB L p hpn := by show (if h : p < L.nodes.length then ownPlaceB L p h else false) = _; rw [dif_pos hpn]
    rw [e]
    exact (isOwnPlace_any W D v L p h hpn (by have := hV.n; omega)).mono fun e w' ⟨he, hw⟩ => ⟨he, by rw [← hw]; exact Below.refl _ _⟩
  | 2 =>
    exact (hasSections_any W D v L p h).mono fun e w' ⟨he, hw⟩ => ⟨he, by rw [← hw]; exact Below.refl _ _⟩
  | 3 =>
    have hpn : p < L.secs.length := hp
    have e : ruleB L 3 p = fitsSB L L.secs[p] := by show fitsSB L (L.secs.getD p (0, 0, 0)) = _; simp [hpn]
    rw [e]
    exact fitsItsNodes_any W D v L p h hpn (by have := hV.n; omega) (placed_of (hprev 1 (by omega))) hD
  | 4 =>
    exact (hasSpeed_any W D v L p h).mono fun e w' ⟨he, hw⟩ => ⟨he, by rw [← hw]; exact Below.refl _ _⟩
  | 5 =>
    have hpn : p < L.secs.length := hp
    have e : ruleB L 5 p = decide (L.speed ≤ L.secs[p].1) := by show decide (L.speed ≤ (L.secs.getD p (0, 0, 0)).1) = _; simp [hpn]
    rw [e]
    exact (takesATick_any W D v L p h hpn).mono fun e w' ⟨he, n, hw⟩ => ⟨he, by rw [hw]; exact below_drewN (Below.refl _ _) n⟩
  | 6 =>
    exact (hasTimes_any W D v L p h).mono fun e w' ⟨he, hw⟩ => ⟨he, by rw [← hw]; exact Below.refl _ _⟩
  | 7 =>
    exact hasEnds_any W D v L p h hD hV.f
  | 8 =>
    exact (hasFewPoints_any W D v L p h).mono fun e w' ⟨he, hw⟩ => ⟨he, by rw [← hw]; exact Below.refl _ _⟩
  | 9 =>
    have hpn : p < L.points.length := hp
    have e : ruleB L 9 p = joinsB L L.points[p] := by show joinsB L (L.points.getD p (0, 0, 0, 0)) = _; simp [hpn]
    rw [e]
    exact joinsItsThree_any W D v L p h hD hV.f hpn
  | 10 =>
    exact hasItsPoint_any W D v L p h hD hV.f
  | 11 =>
    exact goesOn_any W D v L p h hD hV.f (noded_of (hprev 3 (by omega))) (placed_of (hprev 1 (by omega))) hp (joined_of (hprev 9 (by omega)))
  | 12 =>
    exact (hasParts_any W D v L p h).mono fun e w' ⟨he, hw⟩ => ⟨he, by rw [← hw]; exact Below.refl _ _⟩
  | 13 =>
    have hpn : p < L.parts.length := hp
    have e : ruleB L 13 p = ofSecsB L L.parts[p] := by show ofSecsB L (L.parts.getD p []) = _; simp [hpn]
    rw [e]
    exact (isOfSections_any W D v L p h hpn (by have := hV.f.s; omega) (fun r hr => by have := hV.f.r r hr; omega)).mono fun e w' ⟨he, hw⟩ => ⟨he, by rw [← hw]; exact Below.refl _ _⟩
  | 14 =>
    exact (isInOnePart_any W D v L p h (by have := hV.f.p; omega) (fun r hr => by have := hV.f.r r hr; omega)).mono fun e w' ⟨he, hw⟩ => ⟨he, by rw [← hw]; exact Below.refl _ _⟩
  | 15 =>
    exact (hasFewRoutes_any W D v L p h).mono fun e w' ⟨he, hw⟩ => ⟨he, by rw [← hw]; exact Below.refl _ _⟩
  | 16 =>
    have hpn : p < L.routes.length := hp
    have e : ruleB L 16 p = pathB L L.routes[p] := by show pathB L (L.routes.getD p []) = _; simp [hpn]
    rw [e]
    exact isShortPath_any W D v L p h hD hV.f hpn
  | k + 17 => omega

/-- The rules' own cells. -/
def ruleC (L : Lay) (v : Value) (k : Nat) : List Value := [.int .i64 (ruleNo k : Int), .int .i64 (ruleN L k : Int), .func (.func (ruleF k)) #[v] #[]]
def rulesC (L : Lay) (v : Value) : List Value := (List.range 17).flatMap (ruleC L v)

def RetRules (L : Lay) (v : Value) (w : World) (e : Ending) (w' : World) : Prop := ∃ g, e = .returned (.slice (some ⟨g, 0, none⟩) 17 17) ∧ Row w' g 73 (rulesC L v).toArray ∧ Below w.heap.size w w'

end Go.Proofs.YtagkgejdammflaaGreat
