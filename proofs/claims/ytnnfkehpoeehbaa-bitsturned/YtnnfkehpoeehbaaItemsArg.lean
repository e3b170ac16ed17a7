/- A slice of items that came in, read as numbers and widths. -/
import Derived.Test.YtnnfkehpoeehbaaItems
import Derived.Deep.SlicePairs
import Derived.ProofKit
namespace Go.Proofs.Ytnnfkehpoeehbaa
open Go.RowKit Go.Deep Go.WideShapes

def natOf (v : Value) : Nat := (intOf v).toNat

theorem its_of_trod {H : Type} {enc : TypeId × Value → H} {W : World} {base fuel : Nat} {spare : Nat → Bool} {held : Bool} {x : DataW H × List MemPlace} {a0 : Option Addr} {len cap : Nat}
    (hf : DataW.trod enc Try.prog W base spare held fuel 22 [.slice a0 len cap] = some x) : ∃ its : List (Nat × Nat), its.length = len ∧ Its W W.heap.size (.slice a0 len cap) its ∧ ∀ x ∈ its, x.1 < 2 ^ 64 ∧ x.2 < 256 := by
  rcases open_slice_pairs Try.underlying22 Try.underlying38 (by kernel_rfl) rfl rfl (by kernel_rfl) (by kernel_rfl) hf with ⟨hcs, _⟩ | ⟨a, l, c, m, n, V0, V1, D0, D1, P0, P1, hcs, _, hl, _, hmm, _, hx⟩
  · simp at hcs
    obtain ⟨rfl, rfl, rfl⟩ := hcs
    exact ⟨[], rfl, ⟨none, 0, rfl, fun h => by simp at h⟩, fun _ h => by simp at h⟩
  · simp at hcs
    obtain ⟨rfl, rfl, rfl⟩ := hcs
    have hlm : len ≤ m := by rw [hmm]; split <;> omega
    have each : ∀ i, i < len → V0 i = .int .u64 (natOf (V0 i) : Int) ∧ natOf (V0 i) < 2 ^ 64 ∧ V1 i = .int .u8 (natOf (V1 i) : Int) ∧ natOf (V1 i) < 256 := by
      intro i hi
      obtain ⟨_, _, t0, t1⟩ := hx i (by omega)
      obtain ⟨z0, e0, _, w0⟩ := DataW.trod_int Try.underlying36 t0
      obtain ⟨z1, e1, _, w1⟩ := DataW.trod_int Try.underlying5 t1
      simp only [List.cons.injEq, and_true] at e0 e1
      simp only [Lit.wf, Bool.and_eq_true, decide_eq_true_eq] at w0 w1
      rw [show IntKind.u64.min = 0 from by decide, show IntKind.u64.max = 18446744073709551615 from by decide] at w0
      rw [show IntKind.u8.min = 0 from by decide, show IntKind.u8.max = 255 from by decide] at w1
      rw [e0, e1]
      rw [show natOf (Value.int .u64 z0) = z0.toNat from rfl, show natOf (Value.int .u8 z1) = z1.toNat from rfl]
      refine ⟨?_, by omega, ?_, by omega⟩
      · rw [Int.toNat_of_nonneg w0.1]
      · rw [Int.toNat_of_nonneg w1.1]
    refine ⟨(List.range len).map fun i => (natOf (V0 i), natOf (V1 i)), by simp, ⟨some a, cap, by simp, fun hp => ?_⟩, ?_⟩
    · have hp' : 0 < len := by simpa using hp
      obtain ⟨b, off, spot⟩ := a
      have h0 := (hx 0 (by omega)).1
      have hspot : spot = none := by simpa [Addr.add] using World.cell?_spot h0
      subst hspot
      refine ⟨b, off, rfl, cell_lt (a := (⟨b, off, none⟩ : Addr).add (0 * 2)) h0, fun j hj => ?_⟩
      have hj' : j < len := by simpa using hj
      obtain ⟨c0, c1, _, _⟩ := hx j (by omega)
      obtain ⟨e0, _, e1, _⟩ := each j hj'
      rw [add_plain] at c0 c1
      simp only [List.getElem_map, List.getElem_range]
      exact ⟨by rw [c0]; exact congrArg some e0, by rw [Nat.add_assoc, c1]; exact congrArg some e1⟩
    · intro y hy
      rw [List.mem_map] at hy
      obtain ⟨i, hi, rfl⟩ := hy
      obtain ⟨_, h1, _, h2⟩ := each i (List.mem_range.1 hi)
      exact ⟨h1, h2⟩

end Go.Proofs.Ytnnfkehpoeehbaa
