/- Slices of every kind that a layout has, and what of them outlives a call. -/
import Derived.Test.YthpfhcelmddjlaaParse
import Derived.Test.YthpfhcelmddjlaaFloat
import Derived.Test.YthpfhcelmddjlaaAid
namespace Go.Proofs.Ythpfhcelmddjlaa
open Go.RowKit Fl
set_option maxRecDepth 100000

def ivals (xs : List Int) : List Value := xs.map (Value.int .i64)
def nvals (ps : List (Nat × Nat)) : List Value := ps.map fun p => .complex .f64 p.1 p.2

theorem ivals_length (xs : List Int) : (ivals xs).length = xs.length := by simp [ivals]
theorem nvals_length (xs : List (Nat × Nat)) : (nvals xs).length = xs.length := by simp [nvals]
theorem ivals_get (xs : List Int) (i : Nat) (h : i < xs.length) : (ivals xs)[i]? = some (.int .i64 xs[i]) := by simp [ivals, h]
theorem nvals_get (xs : List (Nat × Nat)) (i : Nat) (h : i < xs.length) : (nvals xs)[i]? = some (.complex .f64 xs[i].1 xs[i].2) := by simp [nvals, h]
theorem ivals_one (xs : List Int) : ∀ u ∈ ivals xs, u.oneCell' = true := by
  intro u hu; simp only [ivals, List.mem_map] at hu; obtain ⟨x, _, rfl⟩ := hu; rfl
theorem nvals_one (xs : List (Nat × Nat)) : ∀ u ∈ nvals xs, u.oneCell' = true := by
  intro u hu; simp only [nvals, List.mem_map] at hu; obtain ⟨x, _, rfl⟩ := hu; rfl
theorem ivals_append (xs ys : List Int) : ivals xs ++ ivals ys = ivals (xs ++ ys) := by simp [ivals]
theorem nvals_append (xs ys : List (Nat × Nat)) : nvals xs ++ nvals ys = nvals (xs ++ ys) := by simp [nvals]

/-- A slice in a block of that type. -/
def Rt (w : World) (t : TypeId) (v : Value) (xs : List Value) : Prop :=
  ∃ (A : Option Addr) (c : Nat), v = .slice A xs.length c ∧ (0 < xs.length → ∃ b o cur fr, A = some ⟨b, o, none⟩ ∧ w.heap[b]? = some (.cells cur t fr) ∧ ∀ j u, xs[j]? = some u → cur[o + j]? = some u)

theorem Rt.lit (w : World) (t : TypeId) (xs : List Value) (n : Nat) (hn : xs.length = n) : Rt (w.alloc (.cells xs.toArray t)) t (.slice (some ⟨w.heap.size, 0, none⟩) n n) xs := by
  subst hn
  exact ⟨_, _, rfl, fun _ => ⟨_, 0, xs.toArray, (0, 0), rfl, Row.new w t _, fun j u hu => by rw [Nat.zero_add]; simpa using hu⟩⟩

theorem Rt.still {w w' : World} {t t' : TypeId} {v : Value} {xs : List Value} {g : Nat} {cs : Array Value} (h : Rt w t v xs) (hs : Still g w w') (hg : Row w g t' cs) (h5 : t ≠ 5) (ht : t ≠ t') : Rt w' t v xs := by
  obtain ⟨A, c, hv, hx⟩ := h
  refine ⟨A, c, hv, fun hp => ?_⟩
  obtain ⟨b, o, cur, fr, hA, hh, hc⟩ := hx hp
  refine ⟨b, o, cur, fr, hA, hs b t cur fr h5 ?_ hh, hc⟩
  rintro rfl
  unfold Row at hg
  rw [hh] at hg
  injection hg with hg
  injection hg with _ hg
  exact ht hg

theorem Rt.cell {w : World} {t : TypeId} {A : Option Addr} {n c : Nat} {xs : List Value} (h : Rt w t (.slice A n c) xs) {j : Nat} {u : Value} (hu : xs[j]? = some u) : ∃ b o, A = some ⟨b, o, none⟩ ∧ w.cell? ⟨b, o + j, none⟩ = some u := by
  have hj := (List.getElem?_eq_some_iff.1 hu).1
  obtain ⟨A', c', hv, hx⟩ := h
  obtain ⟨b, o, cur, fr, hA, hh, hc⟩ := hx (by omega)
  injection hv with h1
  subst h1
  refine ⟨b, o, hA, ?_⟩
  simp [World.cell?, hh, hc j u hu]

theorem u_cast (n : Int) : ((u n : Nat) : Int) = n % 18446744073709551616 := by unfold u; omega

/-- What a call of the writer at 'g' leaves. -/
def Laid (B g : Nat) (l : List Bool) (w : World) (e : Ending) (w' : World) : Prop := e = .returned (.tuple #[]) ∧ Wr w' B g l ∧ Kept B g w w' ∧ Still g w w'

theorem Wr.row {w : World} {B g : Nat} {l : List Bool} (h : Wr w B g l) : ∃ cs, Row w g 59 cs := by obtain ⟨v, hr, _⟩ := h; exact ⟨_, hr⟩

end Go.Proofs.Ythpfhcelmddjlaa
