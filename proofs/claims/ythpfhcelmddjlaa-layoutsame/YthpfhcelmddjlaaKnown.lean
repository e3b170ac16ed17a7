/- The example that every law of the layer asks first. -/
import Derived.Test.YthpfhcelmddjlaaOpen
import Derived.Lib.SlBytesConst
namespace Go.Proofs.Ythpfhcelmddjlaa
open Go.RowKit

theorem Rd.lit (w : World) (l : List Nat) (fr : Nat × Nat) : Rd (w.alloc (.cells (bvals l).toArray 5 fr)) (w.heap.size + 1) (.slice (some ⟨w.heap.size, 0, none⟩) l.length l.length) (bvals l) := by
  refine ⟨_, l.length, by rw [bvals_length], ⟨(fun h => by cases h), by rw [bvals_length]; exact Nat.le_refl _⟩, fun _ => ⟨w.heap.size, 0, rfl, by omega, fun j u hu => ?_⟩⟩
  rw [Nat.zero_add]
  rw [World.cell?_alloc_mark]
  simpa using hu

theorem tailNum_closed (q : List Nat) : tailNum (closed q) = sumOf q := by
  unfold tailNum
  rw [closed_length, show q.length + 2 - 2 = q.length from by omega, show q.length + 2 - 1 = q.length + 1 from by omega]
  unfold closed
  simp [List.getD]
  have := sumOf_lt q
  omega

theorem closed_take (q : List Nat) : (closed q).take ((closed q).length - 2) = q := by
  rw [closed_length, show q.length + 2 - 2 = q.length from by omega]
  unfold closed
  simp

/-- What was closed is opened. -/
theorem open_closed (w : World) (B : Nat) (v : Value) (q : List Nat) (h : Rd w B v (bvals (closed q))) (hB : B ≤ w.heap.size) (hq : ∀ x ∈ q, x < 256) (hl : q.length ≤ 1000000) : Calls Try.prog 33 #[v] w (RetOpen q w) := by
  have := open_ok w B v (closed q) h hB (closed_small hq) (by rw [closed_length]; omega) (by rw [closed_length]; omega) (by rw [closed_take, tailNum_closed])
  rw [closed_take] at this
  exact this

end Go.Proofs.Ythpfhcelmddjlaa
