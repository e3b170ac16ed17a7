/- Pure: a track as a graph; slices of ends in memory; what is known of a graph in memory. -/
import Derived.Test.YtagkgejdammflaaGreatBase
namespace Go.Proofs.YtagkgejdammflaaGreat
open Go.RowKit Fl
set_option maxRecDepth 100000

theorem ret_int {k : IntKind} {a b : Int} (h : a = b) : Ending.returned (.int k a) = .returned (.int k b) := by rw [h]

/-- The ends of section 'i' that are at a node. -/
def endsAt (ss : List (Int × Int × Int)) (n : Int) (i : Nat) : List (Int × Int) :=
  (if (ss.getD i (0, 0, 0)).2.1 = n then [((i : Int), (0 : Int))] else []) ++ (if (ss.getD i (0, 0, 0)).2.2 = n then [((i : Int), (1 : Int))] else [])
def endsTo (ss : List (Int × Int × Int)) (n : Int) : Nat → List (Int × Int)
  | 0 => []
  | k + 1 => endsTo ss n k ++ endsAt ss n k
/-- The ends that are at a node. -/
def endsL (ss : List (Int × Int × Int)) (n : Int) : List (Int × Int) := endsTo ss n ss.length
def hasB (ss : List (Int × Int × Int)) (s : Int) : Bool := decide (0 ≤ s) && decide (s < (ss.length : Int))
def endsOfL (ss : List (Int × Int × Int)) (s n : Int) : List (Int × Int) := if hasB ss s then endsAt ss n s.toNat else []

theorem endsAt_le (ss : List (Int × Int × Int)) (n : Int) (i : Nat) : (endsAt ss n i).length ≤ 2 := by
  unfold endsAt; split <;> split <;> simp
theorem endsTo_le (ss : List (Int × Int × Int)) (n : Int) : ∀ k, (endsTo ss n k).length ≤ 2 * k
  | 0 => by simp [endsTo]
  | k + 1 => by have := endsTo_le ss n k; have := endsAt_le ss n k; simp only [endsTo, List.length_append]; omega
theorem endsOfL_le (ss : List (Int × Int × Int)) (s n : Int) : (endsOfL ss s n).length ≤ 2 := by
  unfold endsOfL; split
  · exact endsAt_le _ _ _
  · simp
theorem endsOfL_nat (ss : List (Int × Int × Int)) (n : Int) (i : Nat) (h : i < ss.length) : endsOfL ss (i : Int) n = endsAt ss n i := by
  unfold endsOfL hasB
  rw [if_pos (by simp; omega)]; rfl

/-- A slice of ends. -/
def Prs (w : World) (D : Nat) (v : Value) (xs : List (Int × Int)) : Prop :=
  ∃ (A : Option Addr) (c : Nat), v = .slice A xs.length c ∧ ((A = none → c = 0) ∧ xs.length ≤ c) ∧ (0 < xs.length → ∃ b o cur fr, A = some ⟨b, o, none⟩ ∧ b < D ∧ w.heap[b]? = some (.cells cur 60 fr) ∧ ∀ j (h : j < xs.length), cur[o + j * 2]? = some (.int .i64 xs[j].1) ∧ cur[o + j * 2 + 1]? = some (.int .i64 xs[j].2))

theorem Prs.mono {w w' : World} {D D' : Nat} {v : Value} {xs : List (Int × Int)} (h : Prs w D v xs) (hD : D ≤ D') (hc : ∀ k, k < D → w'.heap[k]? = w.heap[k]?) : Prs w' D' v xs := by
  obtain ⟨A, c, hv, h0, hx⟩ := h
  refine ⟨A, c, hv, h0, fun hp => ?_⟩
  obtain ⟨b, o, cur, fr, hA, hb, hh, hcc⟩ := hx hp
  exact ⟨b, o, cur, fr, hA, Nat.lt_of_lt_of_le hb hD, (hc b hb).trans hh, hcc⟩
theorem Prs.up {w w' : World} {v : Value} {xs : List (Int × Int)} (h : Prs w w.heap.size v xs) (hb : Below w.heap.size w w') : Prs w' w'.heap.size v xs := h.mono hb.size fun k hk => hb.block k hk
theorem Prs.nil (w : World) (D : Nat) : Prs w D (.slice none 0 0) [] := ⟨none, 0, rfl, ⟨fun _ => rfl, Nat.le_refl _⟩, fun h => absurd h (by simp)⟩
/-- It outlives what grows of another type. -/
theorem Prs.grown {w w' : World} {D : Nat} {v : Value} {xs : List (Int × Int)} {B n s : Nat} {t : TypeId} {u : Value} {zs : List Value} (h : Prs w D v xs) (hu : w.ownsRow B t s u n zs) (ht : t ≠ 60) (hg : w.grownBy w' u.ownBlock) : Prs w' D v xs := by
  obtain ⟨A, c, hv, h0, hx⟩ := h
  refine ⟨A, c, hv, h0, fun hp => ?_⟩
  obtain ⟨b, o, cur, fr, hA, hb, hh, hcc⟩ := hx hp
  refine ⟨b, o, cur, fr, hA, hb, (hg.block b (heap_lt hh) ?_).trans hh, hcc⟩
  intro e
  rcases hu.2 with ⟨rfl, _⟩ | ⟨g, cap, cur', rfl, _, hh', _⟩
  · cases e
  · have e2 : b = g := by simpa [Value.ownBlock] using e
    subst e2
    rw [hh] at hh'
    injection hh' with hh'
    injection hh' with _ hh' _
    exact ht hh'.symm
theorem ecells_len (xs : List (Int × Int)) : (ecells xs).length = xs.length * 2 := by
  induction xs with
  | nil => rfl
  | cons a r ih => simp [ecells] at ih ⊢; omega
theorem ecells_app (xs ys : List (Int × Int)) : ecells xs ++ ecells ys = ecells (xs ++ ys) := by simp [ecells]
theorem ecells_one (xs : List (Int × Int)) : ∀ u ∈ ecells xs, u.oneCell' = true := by
  intro u hu; simp only [ecells, List.mem_flatMap] at hu; obtain ⟨x, _, h⟩ := hu; simp at h; rcases h with rfl | rfl <;> rfl

theorem Prs.of_own {w : World} {B n : Nat} {v : Value} {xs : List (Int × Int)} (h : w.ownsRow B 60 2 v n (ecells xs)) : Prs w w.heap.size v xs := by
  have hn : xs.length = n := by have := h.1; rw [ecells_len] at this; omega
  subst hn
  rcases h.2 with ⟨rfl, h0⟩ | ⟨g, cap, cur, hv, _, hh, hcap, _⟩
  · exact ⟨none, 0, by rw [h0], ⟨fun _ => rfl, by omega⟩, fun hp => by omega⟩
  · subst hv
    refine ⟨_, _, rfl, ⟨(fun e => by cases e), hcap⟩, fun _ => ⟨g, 0, cur, (0, 0), rfl, heap_lt hh, hh, fun j hj => ?_⟩⟩
    obtain ⟨a, b⟩ := ecells_get xs j hj
    rw [Nat.zero_add]
    exact ⟨own_cur h hh _ _ a, own_cur h hh _ _ b⟩

/-- One end of a slice. -/
theorem Prs.at {w : World} {D n c : Nat} {A : Option Addr} {xs : List (Int × Int)} (h : Prs w D (.slice A n c) xs) (j : Nat) (hj : j < xs.length) : ∃ b o, A = some ⟨b, o, none⟩ ∧ b < D ∧ w.cell? ⟨b, o + j * 2, none⟩ = some (.int .i64 xs[j].1) ∧ w.cell? ⟨b, o + j * 2 + 1, none⟩ = some (.int .i64 xs[j].2) := by
  obtain ⟨A', c', hv, h0, hx⟩ := h
  injection hv with e1 e2 e3
  subst e1 e3
  obtain ⟨b, o, cur, fr, hA, hb, hh, hc⟩ := hx (by omega)
  obtain ⟨c1, c2⟩ := hc j hj
  exact ⟨b, o, hA, hb, by simp [World.cell?, hh, c1], by simp [World.cell?, hh, c2]⟩

/-- The cells of a slice of pairs. -/
theorem Prs.cells {w : World} {D n c : Nat} {A : Option Addr} {xs : List (Int × Int)} (h : Prs w D (.slice A n c) xs) (hp : 0 < n) : ∃ b o, A = some ⟨b, o, none⟩ ∧ b < D ∧ ∀ j u, (ecells xs)[j]? = some u → w.cell? ((⟨b, o, none⟩ : Addr).add j) = some u := by
  obtain ⟨A', c', hv, h0, hx⟩ := h
  injection hv with e1 e2 e3
  subst e1 e3
  obtain ⟨b, o, cur, fr, hA, hb, hh, hc⟩ := hx (by omega)
  refine ⟨b, o, hA, hb, fun j u hu => ?_⟩
  have hj : j < xs.length * 2 := by have := (List.getElem?_eq_some_iff.1 hu).1; rw [ecells_len] at this; exact this
  have hadd : ((⟨b, o, none⟩ : Addr).add j) = ⟨b, o + j, none⟩ := by simp [Addr.add]
  rw [hadd]
  have hk : j / 2 < xs.length := by omega
  obtain ⟨a1, a2⟩ := ecells_get xs (j / 2) hk
  obtain ⟨c1, c2⟩ := hc (j / 2) hk
  rcases Nat.mod_two_eq_zero_or_one j with e | e
  · have ej : j = j / 2 * 2 := by omega
    rw [ej] at hu ⊢
    rw [a1] at hu
    rw [← hu]; simp [World.cell?, hh, c1]
  · have ej : j = j / 2 * 2 + 1 := by omega
    rw [ej] at hu ⊢
    rw [a2] at hu
    rw [← hu, ← Nat.add_assoc]; simp [World.cell?, hh, c2]

def RetEnds (xs : List (Int × Int)) (w : World) (e : Ending) (w' : World) : Prop := ∃ v, e = .returned v ∧ Prs w' w'.heap.size v xs ∧ Below w.heap.size w w'

/-- A graph in memory, in blocks below 'D'. -/
structure Gr (w : World) (D g : Nat) (vS vQ vP : Value) (L : Lay) : Prop where
  row : Row w g 86 #[vS, vQ, vP]
  lt : g < D
  s : Secs w D vS L.secs
  q : Pts w D vQ L.points
  p : RowsAt w D vP L.parts

theorem Gr.keep {w w' : World} {B D g : Nat} {vS vQ vP : Value} {L : Lay} (h : Gr w D g vS vQ vP L) (hb : Below B w w') (hD : D ≤ B) : Gr w' D g vS vQ vP L :=
  have hc : ∀ p : Addr, p.block < D → w'.cell? p = w.cell? p := fun p hp => hb.cell (p := p) (Nat.lt_of_lt_of_le hp hD)
  ⟨Below.row hb h.row (Nat.lt_of_lt_of_le h.lt hD), h.lt, h.s.mono (Nat.le_refl _) hc, h.q.mono (Nat.le_refl _) hc, h.p.mono (Nat.le_refl _) hc⟩

def IsGr (w : World) (D : Nat) (v : Value) (L : Lay) : Prop := ∃ g vS vQ vP, v = .pointer (some ⟨g, 0, none⟩) ∧ Gr w D g vS vQ vP L
theorem IsGr.keep {w w' : World} {B D : Nat} {v : Value} {L : Lay} (h : IsGr w D v L) (hb : Below B w w') (hD : D ≤ B) : IsGr w' D v L := by
  obtain ⟨g, a, b, c, hv, hg⟩ := h; exact ⟨g, a, b, c, hv, hg.keep hb hD⟩

/-- Not too much. -/
structure Fits (L : Lay) : Prop where
  s : L.secs.length ≤ 100
  q : L.points.length ≤ 100
  p : L.parts.length ≤ 100
  r : ∀ x ∈ L.parts, x.length ≤ 100

end Go.Proofs.YtagkgejdammflaaGreat
