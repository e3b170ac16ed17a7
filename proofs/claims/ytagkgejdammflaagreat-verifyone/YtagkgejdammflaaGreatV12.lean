/- Contract: the rules' own list. -/
import Derived.Test.YtagkgejdammflaaGreatV11
import Derived.StillTailTactics
namespace Go.Proofs.YtagkgejdammflaaGreat
open Go.RowKit Fl
set_option maxRecDepth 100000

set_option maxHeartbeats 8000000 in
theorem rules_any (w : World) (D : Nat) (v : Value) (L : Lay) (h : IsTrk w D v L) : Calls Tryz.prog 23 #[v] w (RetRules L v w) := by
  obtain ⟨t, A0, c0, A1, c1, A2, c2, A3, c3, A4, c4, vg, ps, rfl, hk⟩ := h.slices
  have f0 := hk.row.cell 0; have f1 := hk.row.cell 1; have f2 := hk.row.cell 2; have f3 := hk.row.cell 3; have f4 := hk.row.cell 4
  simp only [List.getElem?_toArray, List.getElem?_cons_zero, List.getElem?_cons_succ] at f0 f1 f2 f3 f4
  have HC : Hid (rulesC L (.pointer (some ⟨t, 0, none⟩)) = [.int .i64 1, .int .i64 1, .func (.func 34) #[.pointer (some ⟨t, 0, none⟩)] #[], .int .i64 2, .int .i64 (L.nodes.length : Int), .func (.func 35) #[.pointer (some ⟨t, 0, none⟩)] #[], .int .i64 3, .int .i64 1, .func (.func 36) #[.pointer (some ⟨t, 0, none⟩)] #[], .int .i64 4, .int .i64 (L.secs.length : Int), .func (.func 37) #[.pointer (some ⟨t, 0, none⟩)] #[], .int .i64 5, .int .i64 1, .func (.func 38) #[.pointer (some ⟨t, 0, none⟩)] #[], .int .i64 6, .int .i64 (L.secs.length : Int), .func (.func 39) #[.pointer (some ⟨t, 0, none⟩)] #[], .int .i64 7, .int .i64 1, .func (.func 40) #[.pointer (some ⟨t, 0, none⟩)] #[], .int .i64 8, .int .i64 (L.nodes.length : Int), .func (.func 41) #[.pointer (some ⟨t, 0, none⟩)] #[], .int .i64 9, .int .i64 1, .func (.func 42) #[.pointer (some ⟨t, 0, none⟩)] #[], .int .i64 10, .int .i64 (L.points.length : Int), .func (.func 43) #[.pointer (some ⟨t, 0, none⟩)] #[], .int .i64 11, .int .i64 (L.nodes.length : Int), .func (.func 44) #[.pointer (some ⟨t, 0, none⟩)] #[], .int .i64 12, .int .i64 (L.nodes.length : Int), .func (.func 45) #[.pointer (some ⟨t, 0, none⟩)] #[], .int .i64 13, .int .i64 1, .func (.func 46) #[.pointer (some ⟨t, 0, none⟩)] #[], .int .i64 13, .int .i64 (L.parts.length : Int), .func (.func 47) #[.pointer (some ⟨t, 0, none⟩)] #[], .int .i64 14, .int .i64 (L.secs.length : Int), .func (.func 48) #[.pointer (some ⟨t, 0, none⟩)] #[], .int .i64 15, .int .i64 1, .func (.func 49) #[.pointer (some ⟨t, 0, none⟩)] #[], .int .i64 15, .int .i64 (L.routes.length : Int), .func (.func 50) #[.pointer (some ⟨t, 0, none⟩)] #[]]) := rfl
  obtain ⟨RP, hRP⟩ : ∃ R, R = RetRules L (.pointer (some ⟨t, 0, none⟩)) w := ⟨_, rfl⟩
  rw [← hRP]
  have HRP := Lib.hid hRP
  clear hRP hk h
  generalize L.nodes.length = n0 at *
  generalize L.secs.length = n1 at *
  generalize L.parts.length = n2 at *
  generalize L.points.length = n3 at *
  generalize L.routes.length = n4 at *
  go_enter Tryz.func23, Tryz.ntmps23
  go_upto_region 1 with (fail)
  go_quiet (fail)
  go_upto_region 2 with (fail)
  have HBW : Hid (Below w.heap.size w (w.drewN nq)) := below_drewN (Below.refl _ _) nq
  have g2 : (w.drewN nq).cell? ⟨t, 2, none⟩ = some (.slice A2 n2 c2) := f2
  have g4 : (w.drewN nq).cell? ⟨t, 4, none⟩ = some (.slice A4 n4 c4) := f4
  generalize w.drewN nq = W at *
  clear f0 f1 f2 f3 f4
  simp only [List.append]
  go_still_tail 71, (by kernel_rfl)
  change wpList _ _ _ _ _ W.drew
  have HBX : Hid (Below w.heap.size w W.drew) := below_drewN HBW.out 1
  generalize W.drew = X at *
  clear g2 g4
  go_wp2_with fail
  rw [HRP.out]
  refine ⟨X.heap.size, rfl, ?_, HBX.out.alloc HBX.out.size _⟩
  rw [HC.out]
  exact Row.new _ _ _

end Go.Proofs.YtagkgejdammflaaGreat
