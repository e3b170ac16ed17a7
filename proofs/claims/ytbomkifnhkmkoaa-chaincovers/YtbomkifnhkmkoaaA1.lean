/- Contracts: beyond, ahead. -/
import Derived.Test.YtbomkifnhkmkoaaCM
namespace Go.Proofs.Ytbomkifnhkmkoaa
open Go.RowKit Fl
set_option maxRecDepth 100000

theorem metres_le {sp d : Int} (hs : 0 ≤ sp ∧ sp ≤ 1000000) (hd : 0 ≤ d ∧ d ≤ 1000000000000) : 0 ≤ sp * d ∧ sp * d ≤ 1000000000000000000 := by
  refine ⟨Int.mul_nonneg hs.1 hd.1, ?_⟩
  calc sp * d ≤ 1000000 * d := Int.mul_le_mul_of_nonneg_right hs.2 hd.1
    _ ≤ 1000000 * 1000000000000 := Int.mul_le_mul_of_nonneg_left hd.2 (by decide)
    _ = 1000000000000000000 := by decide

set_option maxHeartbeats 4000000 in
theorem beyond_any (w : World) (a b c d e : Int) (vT : Value) (now sp : Int) (hs : 0 ≤ sp ∧ sp ≤ 1000000) (hd : 0 ≤ now - b ∧ now - b ≤ 1000000000000) (he : 0 ≤ e ∧ e ≤ 1000000000000) :
    Calls Try.prog 37 #[.agg (tcells a b c d e vT), .int .i64 now, .int .i64 sp] w fun x w' => x = .returned (.int .i64 (sp * (now - b) - e)) ∧ Below w.heap.size w w' := by
  have HB := Lib.hid ((Below.refl w.heap.size w).alloc (Nat.le_refl _) (.cells (tcells a b c d e vT) 40))
  have HR := Lib.hid (Row.new w 40 (tcells a b c d e vT))
  have hm := metres_le hs hd
  have hw1 : IntKind.i64.wrap (now - b) = now - b := IntWalk.i64_in _ (by omega)
  obtain ⟨D, hD⟩ : ∃ D, now - b = D := ⟨_, rfl⟩
  rw [hD] at hm hw1 ⊢
  have hw2 : IntKind.i64.wrap (sp * D) = sp * D := IntWalk.i64_in _ (by omega)
  have hw3 : IntKind.i64.wrap (sp * D - e) = sp * D - e := IntWalk.i64_in _ (by omega)
  go_enter Try.func37, Try.ntmps37
  go_upto_region 1 with (fail)
  obtain ⟨n0, hn0⟩ : ∃ n, w.heap.size = n := ⟨_, rfl⟩
  rw [hn0] at HR ⊢
  generalize w.alloc (.cells (tcells a b c d e vT) 40) = W0 at *
  have HDD := Lib.hid hD
  have HN := Lib.hid hn0
  clear hn0
  have e1 := HR.out.cell 1; have e4 := HR.out.cell 4
  simp only [List.getElem?_toArray, List.getElem?_cons_zero, List.getElem?_cons_succ] at e1 e4
  go_wp2_with fail
  go_ret
  exact ⟨rfl, HB.out⟩

end Go.Proofs.Ytbomkifnhkmkoaa
