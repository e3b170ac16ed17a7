/-
  PROVED: for every six int32, the law PlaneQuarter of the plane answers true (the plane turned about by a quarter: products, turns and squares are as they were). No condition.
-/
import Derived.Test.YtakjjnkjmkipfaaRows
import Derived.Test.YtakjjnkjmkipfaaW2
import Derived.WalkKit
import Derived.ProofKit
import Derived.OpenShut
namespace Go.Proofs.Ytakjjnkjmkipfaa.planeQuarter
open Go.ChangeShapes Go.WideShapes Go.ChangeAt Go.RowKit
open Fl
set_option linter.unusedVariables false      -- a walk need not use every 'w<i>' (that an integer argument fits its kind)

theorem own : ownKnob Try.prog.godebug = none := by kernel_rfl

/-! ### STEP 1: THE WALK: the Go text returns true. 'Grown w w'': the world has at most new blocks (Derived/RowKit3.lean). Part the cases AHEAD of 'go_enter' where a test parts the walk; take each callee by a contract of your own. -/
set_option maxHeartbeats 4000000 in
theorem walk (a0 : Int) (a1 : Int) (a2 : Int) (a3 : Int) (a4 : Int) (a5 : Int) (w0 : (Lit.int .i32 a0).wf = true) (w1 : (Lit.int .i32 a1).wf = true) (w2 : (Lit.int .i32 a2).wf = true) (w3 : (Lit.int .i32 a3).wf = true) (w4 : (Lit.int .i32 a4).wf = true) (w5 : (Lit.int .i32 a5).wf = true) (w : World) :
    Calls Try.prog 7 #[.int .i32 a0, .int .i32 a1, .int .i32 a2, .int .i32 a3, .int .i32 a4, .int .i32 a5] w fun e w' => e = .returned (.bool true) ∧ Grown w w' := by
  have A0 := part_le a0; have A1 := part_le a1; have A2 := part_le a2; have A3 := part_le a3; have A4 := part_le a4; have A5 := part_le a5
  have n1 := fl_neg (pf_fl a1); have n3 := fl_neg (pf_fl a3); have n5 := fl_neg (pf_fl a5)
  obtain ⟨r, i, o1, f1, f2⟩ := csub_fl (pf_fl a2) (pf_fl a3) (pf_fl a0) (pf_fl a1) (by omega) (by omega)
  obtain ⟨r', i', o2, f3, f4⟩ := csub_fl (pf_fl a4) (pf_fl a5) (pf_fl a2) (pf_fl a3) (by omega) (by omega)
  obtain ⟨s, j, o3, f5, f6⟩ := csub_fl n3 (pf_fl a2) n1 (pf_fl a0) (by omega) (by omega)
  obtain ⟨s', j', o4, f7, f8⟩ := csub_fl n5 (pf_fl a4) n3 (pf_fl a2) (by omega) (by omega)
  obtain ⟨b1, hb1, g1⟩ := fl_sub (by omega) (pf_fl a0) (pf_fl a2) (by omega)
  obtain ⟨b2, hb2, g2⟩ := fl_sub (by omega) (pf_fl a1) (pf_fl a3) (by omega)
  have o5 : ∀ t w, (binOp .sub t (.float .f64 (pf a0)) (.float .f64 (pf a2))).run Try.prog w = .ok (.float .f64 b1) w := fun t w => run_float_arith w .sub t .f64 _ _ _ hb1
  have o6 : ∀ t w, (binOp .sub t (.float .f64 (pf a1)) (.float .f64 (pf a3))).run Try.prog w = .ok (.float .f64 b2) w := fun t w => run_float_arith w .sub t .f64 _ _ _ hb2
  clear hb1 hb2
  have q1 : (-part a3 - -part a1) * (-part a5 - -part a3) + (part a2 - part a0) * (part a4 - part a2) = (part a2 - part a0) * (part a4 - part a2) + (part a3 - part a1) * (part a5 - part a3) := by grind
  have q2 : (-part a3 - -part a1) * (part a4 - part a2) - (part a2 - part a0) * (-part a5 - -part a3) = (part a2 - part a0) * (part a5 - part a3) - (part a3 - part a1) * (part a4 - part a2) := by grind
  have q3 : (part a2 - part a0) * (part a0 - part a2) + (part a3 - part a1) * (part a1 - part a3) ≤ 0 := by
    have e : (part a2 - part a0) * (part a0 - part a2) + (part a3 - part a1) * (part a1 - part a3) = -((part a2 - part a0) * (part a2 - part a0)) - (part a3 - part a1) * (part a3 - part a1) := by grind
    have s1 : 0 ≤ (part a2 - part a0) * (part a2 - part a0) := by
      rcases Int.le_total 0 (part a2 - part a0) with q | q
      · exact Int.mul_nonneg q q
      · exact Int.mul_nonneg_of_nonpos_of_nonpos q q
    have s2 : 0 ≤ (part a3 - part a1) * (part a3 - part a1) := by
      rcases Int.le_total 0 (part a3 - part a1) with q | q
      · exact Int.mul_nonneg q q
      · exact Int.mul_nonneg_of_nonpos_of_nonpos q q
    omega
  have q4 : (-part a3 - -part a1) * (-part a3 - -part a1) + (part a2 - part a0) * (part a2 - part a0) = (part a2 - part a0) * (part a2 - part a0) + (part a3 - part a1) * (part a3 - part a1) := by grind
  have Q1 := Lib.hid q1; have Q2 := Lib.hid q2; have Q3 := Lib.hid q3; have Q4 := Lib.hid q4
  clear q1 q2 q3 q4
  have on : ∀ x w, (Op.unary .neg (.float .f64 x)).run Try.prog w = .ok (.float .f64 (Op.negFloat .f64 x)) w := fun _ _ => rfl
  go_enter Try.func7, Try.ntmps7
  go_wp2_with fail
  refine (place_any a0 a1 _).mono ?_; rintro e w' ⟨rfl, rfl⟩
  go_wp2_with fail
  refine (place_any a2 a3 _).mono ?_; rintro e w' ⟨rfl, rfl⟩
  go_wp2_with fail
  refine (place_any a4 a5 _).mono ?_; rintro e w' ⟨rfl, rfl⟩
  go_wp2_with fail
  refine (left_any _).mono ?_; rintro e w' ⟨rfl, rfl⟩
  go_wp2_with fail
  refine (dot_any r i r' i' _ _ _ _ _ f1 f2 f3 f4 (by omega) (by omega) (by omega) (by omega)).mono ?_; rintro e w' ⟨u1, rfl, fu1, z1, rfl⟩
  clear z1
  go_wp2_with fail
  refine (dot_any s j s' j' _ _ _ _ _ f5 f6 f7 f8 (by omega) (by omega) (by omega) (by omega)).mono ?_; rintro e w' ⟨u2, rfl, fu2, z2, rfl⟩
  clear z2
  have e1 := eq_fact fu1 (Q1.out ▸ fu2)
  rw [decide_eq_true rfl] at e1
  go_wp2_with fail
  refine (turn_any _ _ _ _ _ _ _ _ _ _ _ _ _ (pf_fl a0) (pf_fl a1) (pf_fl a2) (pf_fl a3) (pf_fl a4) (pf_fl a5) (by omega) (by omega) (by omega) (by omega)).mono ?_; rintro e w' ⟨rfl, rfl⟩
  go_wp2_with fail
  refine (turn_any _ _ _ _ _ _ _ _ _ _ _ _ _ n1 (pf_fl a0) n3 (pf_fl a2) n5 (pf_fl a4) (by omega) (by omega) (by omega) (by omega)).mono ?_; rintro e w' ⟨rfl, rfl⟩
  rw [Q2.out]
  go_wp2_with fail
  refine (ahead_any _ _ _ _ _ _ _ _ _ _ _ _ _ (pf_fl a0) (pf_fl a1) (pf_fl a2) (pf_fl a3) (pf_fl a4) (pf_fl a5) (by omega) (by omega) (by omega) (by omega)).mono ?_; rintro e w' ⟨rfl, rfl⟩
  go_wp2_with fail
  refine (ahead_any _ _ _ _ _ _ _ _ _ _ _ _ _ n1 (pf_fl a0) n3 (pf_fl a2) n5 (pf_fl a4) (by omega) (by omega) (by omega) (by omega)).mono ?_; rintro e w' ⟨rfl, rfl⟩
  rw [Q1.out]
  go_wp2_with fail
  refine (dot_any r i b1 b2 _ _ _ _ _ f1 f2 g1 g2 (by omega) (by omega) (by omega) (by omega)).mono ?_; rintro e w' ⟨u3, rfl, fu3, z3, rfl⟩
  clear z3
  have e2 := le_fact fu3 fl_zero
  rw [decide_eq_true Q3.out] at e2
  go_wp2_with fail
  refine (square_any r i _ _ _ f1 f2 (by omega) (by omega)).mono ?_; rintro e w' ⟨u4, rfl, fu4, z4, rfl⟩
  clear z4
  go_wp2_with fail
  refine (square_any s j _ _ _ f5 f6 (by omega) (by omega)).mono ?_; rintro e w' ⟨u5, rfl, fu5, z5, rfl⟩
  clear z5
  have e3 := eq_fact fu4 (Q4.out ▸ fu5)
  rw [decide_eq_true rfl] at e3
  go_wp2_with fail
  go_ret
  exact ⟨rfl, Grown.refl _⟩

/-! ### THE ROW's STEP: WRITTEN OUT: LEAVE IT -/
set_option maxRecDepth 100000 in
theorem lifted (os : Os) (started : os.Started) (H : Type) (enc : TypeId × Value → H) :
    ReturnsInHanded {} Try.checked os 7 .any (Rows.planeQuarterSpec.pre6 enc Try.prog Try.f7 Rows.planeQuarterRow.domain false) (Rows.planeQuarterSpec.post enc Try.prog Try.f7 false true false false) := by
  refine returnsInHanded_of_change (C := Try.checked) own started (by kernel_rfl) Try.func7
    (ChangeSpec.witness6 (enc := enc) (C := Try.checked) false ⟨#[], #[.int .i32 0, .int .i32 0, .int .i32 0, .int .i32 0, .int .i32 0, .int .i32 0], []⟩ 8 (by kernel_rfl) (by kernel_rfl) (by kernel_rfl) (by kernel_rfl)) ?_
  intro W base args ds gs before hval0 hW hcnd _
  have hval : ∀ (j : Nat) t v, Try.f7.params[j]? = some t → args[j]? = some v → Value.okWide Try.prog W .any base t v := hval0
  have hW' := hW
  obtain ⟨p, q, hA0, hV, rfl, hfz, hnd⟩ := hW
  have hA : DataW.TrodAll enc Try.prog W 0 (fun _ => true) true Try.f7.params.toList args.toList ds p := hA0
  rw [Try.params7] at hA hval
  obtain ⟨v0, vs0, d0, ds0, p0, q0, hargs, rfl, rfl, h0, r0⟩ := trodAll_cons hA
  obtain ⟨v1, vs1, d1, ds1, p1, q1, rfl, rfl, rfl, h1, r1⟩ := trodAll_cons r0
  obtain ⟨v2, vs2, d2, ds2, p2, q2, rfl, rfl, rfl, h2, r2⟩ := trodAll_cons r1
  obtain ⟨v3, vs3, d3, ds3, p3, q3, rfl, rfl, rfl, h3, r3⟩ := trodAll_cons r2
  obtain ⟨v4, vs4, d4, ds4, p4, q4, rfl, rfl, rfl, h4, r4⟩ := trodAll_cons r3
  obtain ⟨v5, vs5, d5, ds5, p5, q5, rfl, rfl, rfl, h5, r5⟩ := trodAll_cons r4
  obtain ⟨rfl, rfl, rfl⟩ := trodAll_nil r5
  obtain rfl : args = #[v0, v1, v2, v3, v4, v5] := by cases args; simp_all
  obtain ⟨rfl, rfl⟩ := trodVars_none hV
  obtain ⟨a0, rfl, rfl, rfl, w0⟩ := open_int Try.underlying21 (hval 0 21 v0 rfl rfl) h0
  obtain ⟨a1, rfl, rfl, rfl, w1⟩ := open_int Try.underlying21 (hval 1 21 v1 rfl rfl) h1
  obtain ⟨a2, rfl, rfl, rfl, w2⟩ := open_int Try.underlying21 (hval 2 21 v2 rfl rfl) h2
  obtain ⟨a3, rfl, rfl, rfl, w3⟩ := open_int Try.underlying21 (hval 3 21 v3 rfl rfl) h3
  obtain ⟨a4, rfl, rfl, rfl, w4⟩ := open_int Try.underlying21 (hval 4 21 v4 rfl rfl) h4
  obtain ⟨a5, rfl, rfl, rfl, w5⟩ := open_int Try.underlying21 (hval 5 21 v5 rfl rfl) h5
  clear hA0 hval0
  simp only [List.append_nil] at hW'
  refine (walk a0 a1 a2 a3 a4 a5 w0 w1 w2 w3 w4 w5 W).mono fun e W' ⟨he, hg⟩ => ?_
  subst he
  exact ⟨_, rfl, post_of_same (pa := []) (pv := []) hW' (fun _ _ _ => (trodAll_cons_mk (shut_bool Try.underlying4 _) trodAll_mk0)) (fun sp _ => (trodAll_cons_mk (shut_int Try.underlying21 w0) (trodAll_cons_mk (shut_int Try.underlying21 w1) (trodAll_cons_mk (shut_int Try.underlying21 w2) (trodAll_cons_mk (shut_int Try.underlying21 w3) (trodAll_cons_mk (shut_int Try.underlying21 w4) (trodAll_cons_mk (shut_int Try.underlying21 w5) trodAll_mk0))))))) (fun _ _ => rfl) rfl
    (hg.frame _) hg.2.1 (ok_one (by kernel_rfl) rfl (okWide_bool_mk Try.underlying4 _))⟩

theorem over : Rows.planeQuarterRow.holds Try.pinned (OpenSpec.ofChange Rows.planeQuarterSpec) :=
  OpenClaim.holds_of_wide 7 Try.f7 rfl rfl rfl rfl rfl rfl rfl ⟨rfl, rfl, rfl, rfl, rfl⟩ rfl rfl rfl rfl rfl (by kernel_rfl) Try.func7 (by kernel_rfl)
    (of_decide_eq_true (by kernel_rfl)) (by unfold Func.isWrapper; first | (rw [if_pos (by decide +kernel)]; kernel_rfl) | (rw [if_neg (by decide +kernel)]; exact ⟨rfl, rfl⟩))
    (fun os started H enc _ => lifted os started H enc)

/-- ████ THE STATEMENT ████ -/
theorem proved : Rows.PlaneQuarterSaid :=
  over
#print axioms proved
end Go.Proofs.Ytakjjnkjmkipfaa.planeQuarter
