/- From the row's condition: the table of kinds lies in the first block. -/
import Derived.Test.YtblbbdkpebacbaaDoorRows
import Derived.Test.YtblbbdkpebacbaaDoorA1
import Derived.WalkKit
import Derived.ProofKit
import Derived.OpenShut
import Derived.Deep.DeepHandedRow
import Derived.Lib.LaidTab
namespace Go.Proofs.YtblbbdkpebacbaaDoor
open Go.RowKit Fl
set_option maxRecDepth 100000

theorem gKinds : Tryd.prog.globalNamed "balise/state.kinds" = some 0 := by kernel_rfl
theorem gKindsType : (Tryd.prog.globals[0]?).map (·.type) = some 80 := by kernel_rfl
theorem cells79 : Tryd.prog.cellsOf 79 = 4 := by kernel_rfl
theorem cells5 : Tryd.prog.cellsOf 5 = 1 := by kernel_rfl

theorem kd_of_laid {W : World} (h : laidMetH Tryd.prog [("balise/state.kinds", Rows.laid_balise_state_kinds)] W) : KD W := by
  obtain ⟨ps, ⟨g', t', cs, fuel, p, q, hg', ht', hvar, hd, _, _⟩, _⟩ := (show laidMet Tryd.prog [("balise/state.kinds", Rows.laid_balise_state_kinds)] W from h)
  obtain rfl := Option.some.inj (gKinds.symm.trans hg')
  obtain rfl := Option.some.inj (gKindsType.symm.trans ht')
  obtain ⟨xs, m, rfl, hx, hcl, hn, hel⟩ := DataW.trod_array Tryd.underlying80 hd
  have hxs : xs.map (·.1) = [Lib.tabData .u8 [0, 2, 3, 1], Lib.tabData .u8 [6, 0, 8, 7], Lib.tabData .u8 [9, 11, 0, 10], Lib.tabData .u8 [4, 12, 5, 0]] := by
    have := congrArg Prod.fst hx
    simpa [Rows.laid_balise_state_kinds, Lib.tabData] using this.symm
  rw [cells79] at hel
  clear hx hd hn
  match xs, hxs, hel with
  | [(x0, p0), (x1, p1), (x2, p2), (x3, p3)], hxs, hel =>
    simp only [List.map_cons, List.map_nil, List.cons.injEq, and_true] at hxs
    obtain ⟨rfl, rfl, rfl, rfl⟩ := hxs
    have r0 := Lib.cells_of_tab Tryd.underlying79 Tryd.underlying5 cells5 cells79 (hel 0 (by decide))
    have r1 := Lib.cells_of_tab Tryd.underlying79 Tryd.underlying5 cells5 cells79 (hel 1 (by decide))
    have r2 := Lib.cells_of_tab Tryd.underlying79 Tryd.underlying5 cells5 cells79 (hel 2 (by decide))
    have r3 := Lib.cells_of_tab Tryd.underlying79 Tryd.underlying5 cells5 cells79 (hel 3 (by decide))
    have at_ : ∀ (i j : Nat) (zs : List Int), ((cs.toList.drop (i * 4)).take 4) = zs.map (fun z => Value.int .u8 z) → j < 4 → W.cell? ⟨0, i * 4 + j, none⟩ = (zs.map (fun z => Value.int .u8 z))[j]? := by
      intro i j zs e hj
      have hc := World.var?_cell gKinds hvar (i * 4 + j)
      rw [hc, ← e, List.getElem?_take, if_pos hj, List.getElem?_drop]
      simp [Array.getElem?_toList]
    have c0 : W.cell? ⟨0, 0, none⟩ = some (.int .u8 0) := at_ 0 0 _ r0 (by decide)
    refine ⟨?_, fun i hi => ?_⟩
    · rcases Nat.eq_zero_or_pos W.heap.size with e | e
      · exfalso
        have : W.heap[0]? = none := by simp [e]
        simp [World.cell?, this] at c0
      · exact e
    · have hij : i = i / 4 * 4 + i % 4 := by omega
      rw [hij]
      have h4 : i / 4 < 4 := by omega
      have hm : i % 4 < 4 := Nat.mod_lt _ (by decide)
      generalize i / 4 = a at *
      generalize i % 4 = b at *
      rcases (by omega : a = 0 ∨ a = 1 ∨ a = 2 ∨ a = 3) with rfl | rfl | rfl | rfl
      · rw [at_ 0 b _ r0 hm]; rcases (by omega : b = 0 ∨ b = 1 ∨ b = 2 ∨ b = 3) with rfl | rfl | rfl | rfl <;> rfl
      · rw [at_ 1 b _ r1 hm]; rcases (by omega : b = 0 ∨ b = 1 ∨ b = 2 ∨ b = 3) with rfl | rfl | rfl | rfl <;> rfl
      · rw [at_ 2 b _ r2 hm]; rcases (by omega : b = 0 ∨ b = 1 ∨ b = 2 ∨ b = 3) with rfl | rfl | rfl | rfl <;> rfl
      · rw [at_ 3 b _ r3 hm]; rcases (by omega : b = 0 ∨ b = 1 ∨ b = 2 ∨ b = 3) with rfl | rfl | rfl | rfl <;> rfl

/-- A world for the witness: the settled one, the table as its initialiser lays it. -/
noncomputable def laidWorld (os : Os) : World :=
  { World.holding Tryd.prog os ⟨#[], #[], []⟩ with heap := (World.holding Tryd.prog os ⟨#[], #[], []⟩).heap.modify 0 fun
      | .cells _ t frozen => .cells #[.int .u8 0, .int .u8 2, .int .u8 3, .int .u8 1, .int .u8 6, .int .u8 0, .int .u8 8, .int .u8 7, .int .u8 9, .int .u8 11, .int .u8 0, .int .u8 10, .int .u8 4, .int .u8 12, .int .u8 5, .int .u8 0] t frozen
      | o => o }
end Go.Proofs.YtblbbdkpebacbaaDoor
