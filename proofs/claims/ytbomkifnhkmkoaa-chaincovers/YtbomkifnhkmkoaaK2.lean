/- Contracts: Reverse, comesOut. -/
import Derived.Test.YtbomkifnhkmkoaaK
import Derived.Lib.SlKeysI
namespace Go.Proofs.Ytbomkifnhkmkoaa
open Go.RowKit Fl Go.Sort
set_option maxRecDepth 100000

theorem ivals_encZ (xs : List Int) : ivals xs = xs.map encZ := rfl
theorem grow_none (w : World) : grow w #[] = w := by simp [grow]

theorem reverse_own (w : World) (B : Nat) (v : Value) (xs : List Int) (ho : w.ownsRow B 3 1 v xs.length (ivals xs)) (hB : B ≤ w.heap.size) (hl : xs.length ≤ 100000) :
    Calls Try.prog 31 #[v] w fun e w' => e = .returned (.tuple #[]) ∧ w'.ownsRow B 3 1 v xs.length (ivals xs.reverse) ∧ Below B w w' := by
  rcases ho.2 with ⟨rfl, h0⟩ | ⟨g, cap, cur, rfl, hb, hg, h1, h2, h3, h4⟩
  · have hx : xs = [] := List.length_eq_zero_iff.1 h0
    subst hx
    refine (Try.slices_Reverse_int_empty none 0 w).mono ?_
    rintro e w' ⟨rfl, rfl⟩
    exact ⟨rfl, ho, Below.refl _ _⟩
  · have hH := holds_of_block_i (ss := xs) hg (by rw [Nat.mul_one] at h4; exact h4)
    refine (Try.slices_Reverse_int g 0 cap xs w hH (by omega)).mono ?_
    rintro e w' ⟨rfl, n, rfl⟩
    have e1 : putRow (Value.int .i64) (Sort.ahead w n) g 0 xs.reverse.toArray = grow (putRow encZ (Sort.ahead w n) g 0 xs.reverse.toArray) #[] := (grow_none _).symm
    rw [e1]
    refine ⟨rfl, ownsRow_sorted_i (by simp) hb hg h1 h2 h3, ?_⟩
    exact (Below.refl B w).grown (grownBy_sorted_i _) hB (fun j hj => by injection hj with hj; omega)

end Go.Proofs.Ytbomkifnhkmkoaa
