/-
  PROVED: for every four int32, the law PlaneProducts of the plane answers true (the products are exact, in whole numbers, and a nought has no sign). No condition.
-/
import Derived.Test.YtakjjnkjmkipfaaRows
import Derived.Test.YtakjjnkjmkipfaaW2
import Derived.WalkKit
import Derived.ProofKit
import Derived.OpenShut
namespace Go.Proofs.Ytakjjnkjmkipfaa.planeProducts
open Go.ChangeShapes Go.WideShapes Go.ChangeAt Go.RowKit
open Fl
set_option linter.unusedVariables false      -- a walk need not use every 'w<i>' (that an integer argument fits its kind)

theorem own : ownKnob Try.prog.godebug = none := by kernel_rfl

/-! ### STEP 1: THE WALK: the Go text returns true. 'Grown w w'': the world has at most new blocks (Derived/RowKit3.lean). Part the cases AHEAD of 'go_enter' where a test parts the walk; take each callee by a contract of your own. -/
set_option maxHeartbeats 4000000 in
theorem walk (a0 : Int) (a1 : Int) (a2 : Int) (a3 : Int) (w0 : (Lit.int .i32 a0).wf = true) (w1 : (Lit.int .i32 a1).wf = true) (w2 : (Lit.int .i32 a2).wf = true) (w3 : (Lit.int .i32 a3).wf = true) (w : World) :
    Calls Try.prog 4 #[.int .i32 a0, .int .i32 a1, .int .i32 a2, .int .i32 a3] w fun e w' => e = .returned (.bool true) ∧ Grown w w' := by
  have A0 := part_le a0; have A1 := part_le a1; have A2 := part_le a2; have A3 := part_le a3
  have n1 := fl_neg (pf_fl a1)
  obtain ⟨r, i, o1, f1, f2⟩ := csub_fl (pf_fl a2) (pf_fl a3) (pf_fl a0) (pf_fl a1) (by omega) (by omega)
  have m1 := abs_mul_lt (A := 4000000) (B := 4000000) (a := part a0) (b := part a2 - part a0) (by omega) (by omega)
  have m2 := abs_mul_lt (A := 4000000) (B := 4000000) (a := part a1) (b := part a3 - part a1) (by omega) (by omega)
  have m3 := abs_mul_lt (A := 4000000) (B := 4000000) (a := part a0) (b := part a3 - part a1) (by omega) (by omega)
  have m4 := abs_mul_lt (A := 4000000) (B := 4000000) (a := part a1) (b := part a2 - part a0) (by omega) (by omega)
  have m5 := abs_mul_lt (A := 4000000) (B := 4000000) (a := part a2 - part a0) (b := part a2 - part a0) (by omega) (by omega)
  have m6 := abs_mul_lt (A := 4000000) (B := 4000000) (a := part a3 - part a1) (b := part a3 - part a1) (by omega) (by omega)
  have fs := fl_ofInt ((part a2 - part a0) * (part a2 - part a0) + (part a3 - part a1) * (part a3 - part a1)) (by omega)
  have hd1 : -9223372036854775808 ≤ part a0 * (part a2 - part a0) + part a1 * (part a3 - part a1) ∧ part a0 * (part a2 - part a0) + part a1 * (part a3 - part a1) ≤ 9223372036854775807 := by omega
  have hc1 : -9223372036854775808 ≤ part a0 * (part a3 - part a1) - part a1 * (part a2 - part a0) ∧ part a0 * (part a3 - part a1) - part a1 * (part a2 - part a0) ≤ 9223372036854775807 := by omega
  have D1 := Lib.hid hd1; have C1 := Lib.hid hc1
  clear hd1 hc1 m1 m2 m3 m4 m5 m6
  have q1 : (part a2 - part a0) * part a1 - (part a3 - part a1) * part a0 = -(part a0 * (part a3 - part a1) - part a1 * (part a2 - part a0)) := by grind
  have q2 : (part a2 - part a0) * part a0 + (part a3 - part a1) * part a1 = part a0 * (part a2 - part a0) + part a1 * (part a3 - part a1) := by grind
  have q3 : part a0 * part a1 - part a1 * part a0 = 0 := by grind
  have q4 : part a0 * -part a1 + part a1 * part a0 = 0 := by grind
  have Q1 := Lib.hid q1; have Q2 := Lib.hid q2; have Q3 := Lib.hid q3; have Q4 := Lib.hid q4
  clear q1 q2 q3 q4
  have on : ∀ x w, (Op.unary .neg (.float .f64 x)).run Try.prog w = .ok (.float .f64 (Op.negFloat .f64 x)) w := fun _ _ => rfl
  have ob := bits_run
  go_enter Try.func4, Try.ntmps4
  go_wp2_with fail
  refine (place_any a0 a1 _).mono ?_; rintro e w' ⟨rfl, rfl⟩
  go_wp2_with fail
  refine (place_any a2 a3 _).mono ?_; rintro e w' ⟨rfl, rfl⟩
  go_wp2_with fail
  refine (dot_any _ _ r i _ _ _ _ _ (pf_fl a0) (pf_fl a1) f1 f2 (by omega) (by omega) (by omega) (by omega)).mono ?_; rintro e w' ⟨u1, rfl, fu1, z1, rfl⟩
  clear z1
  go_wp2_with fail
  refine (cross_any _ _ r i _ _ _ _ _ (pf_fl a0) (pf_fl a1) f1 f2 (by omega) (by omega) (by omega) (by omega)).mono ?_; rintro e w' ⟨u2, rfl, fu2, z2, rfl⟩
  clear z2
  have t1 := fl_toInt fu1 D1.out.1 D1.out.2
  have t2 := fl_toInt fu2 C1.out.1 C1.out.2
  have c1 : ∀ w, (convert 24 2 (.float .f64 u1)).run Try.prog w = .ok (.int .i64 (part a0 * (part a2 - part a0) + part a1 * (part a3 - part a1))) w := fun w => run_convert_float_int w 24 2 .f64 .i64 u1 _ (by rw [Try.underlying24]; rfl) Try.underlying2 t1
  have c2 : ∀ w, (convert 24 2 (.float .f64 u2)).run Try.prog w = .ok (.int .i64 (part a0 * (part a3 - part a1) - part a1 * (part a2 - part a0))) w := fun w => run_convert_float_int w 24 2 .f64 .i64 u2 _ (by rw [Try.underlying24]; rfl) Try.underlying2 t2
  clear t1 t2
  go_wp2_with fail
  refine (left_any _).mono ?_; rintro e w' ⟨rfl, rfl⟩
  go_wp2_with fail
  refine (refDot_any _ _ r i _ _ _ _ _ (pf_fl a0) (pf_fl a1) f1 f2 (by omega) (by omega) (by omega) (by omega)).mono ?_; rintro e w' ⟨rfl, rfl⟩
  go_wp2_with fail
  refine (refCross_any _ _ r i _ _ _ _ _ (pf_fl a0) (pf_fl a1) f1 f2 (by omega) (by omega) (by omega) (by omega)).mono ?_; rintro e w' ⟨rfl, rfl⟩
  go_wp2_with fail
  refine (cross_any r i _ _ _ _ _ _ _ f1 f2 (pf_fl a0) (pf_fl a1) (by omega) (by omega) (by omega) (by omega)).mono ?_; rintro e w' ⟨u3, rfl, fu3, z3, rfl⟩
  clear z3
  have e1 := eq_fact fu3 (fl_neg fu2)
  rw [decide_eq_true Q1.out] at e1
  go_wp2_with fail
  refine (dot_any r i _ _ _ _ _ _ _ f1 f2 (pf_fl a0) (pf_fl a1) (by omega) (by omega) (by omega) (by omega)).mono ?_; rintro e w' ⟨u4, rfl, fu4, z4, rfl⟩
  clear z4
  have e2 := eq_fact fu4 fu1
  rw [decide_eq_true Q2.out] at e2
  go_wp2_with fail
  refine (square_any r i _ _ _ f1 f2 (by omega) (by omega)).mono ?_; rintro e w' ⟨u5, rfl, fu5, z5, rfl⟩
  clear z5
  go_wp2_with fail
  refine (refDot_any r i r i _ _ _ _ _ f1 f2 f1 f2 (by omega) (by omega) (by omega) (by omega)).mono ?_; rintro e w' ⟨rfl, rfl⟩
  have e3 := eq_fact fu5 fs
  rw [decide_eq_true rfl] at e3
  go_wp2_with fail
  refine (cross_any _ _ _ _ _ _ _ _ _ (pf_fl a0) (pf_fl a1) (pf_fl a0) (pf_fl a1) (by omega) (by omega) (by omega) (by omega)).mono ?_; rintro e w' ⟨u6, rfl, fu6, z6, rfl⟩
  obtain rfl : u6 = 0 := z6 Q3.out
  clear z6
  go_wp2_with fail
  refine (dot_any _ _ _ _ _ _ _ _ _ (pf_fl a0) (pf_fl a1) n1 (pf_fl a0) (by omega) (by omega) (by omega) (by omega)).mono ?_; rintro e w' ⟨u7, rfl, fu7, z7, rfl⟩
  obtain rfl : u7 = 0 := z7 Q4.out
  clear z7
  go_wp2_with fail
  go_ret
  exact ⟨rfl, Grown.refl _⟩

/-! ### THE ROW's STEP: WRITTEN OUT: LEAVE IT -/
set_option maxRecDepth 100000 in
theorem lifted (os : Os) (started : os.Started) (H : Type) (enc : TypeId × Value → H) :
    ReturnsInHanded {} Try.checked os 4 .any (Rows.planeProductsSpec.pre6 enc Try.prog Try.f4 Rows.planeProductsRow.domain false) (Rows.planeProductsSpec.post enc Try.prog Try.f4 false true false false) := by
  refine returnsInHanded_of_change (C := Try.checked) own started (by kernel_rfl) Try.func4
    (ChangeSpec.witness6 (enc := enc) (C := Try.checked) false ⟨#[], #[.int .i32 0, .int .i32 0, .int .i32 0, .int .i32 0], []⟩ 8 (by kernel_rfl) (by kernel_rfl) (by kernel_rfl) (by kernel_rfl)) ?_
  intro W base args ds gs before hval0 hW hcnd _
  have hval : ∀ (j : Nat) t v, Try.f4.params[j]? = some t → args[j]? = some v → Value.okWide Try.prog W .any base t v := hval0
  have hW' := hW
  obtain ⟨p, q, hA0, hV, rfl, hfz, hnd⟩ := hW
  have hA : DataW.TrodAll enc Try.prog W 0 (fun _ => true) true Try.f4.params.toList args.toList ds p := hA0
  rw [Try.params4] at hA hval
  obtain ⟨v0, vs0, d0, ds0, p0, q0, hargs, rfl, rfl, h0, r0⟩ := trodAll_cons hA
  obtain ⟨v1, vs1, d1, ds1, p1, q1, rfl, rfl, rfl, h1, r1⟩ := trodAll_cons r0
  obtain ⟨v2, vs2, d2, ds2, p2, q2, rfl, rfl, rfl, h2, r2⟩ := trodAll_cons r1
  obtain ⟨v3, vs3, d3, ds3, p3, q3, rfl, rfl, rfl, h3, r3⟩ := trodAll_cons r2
  obtain ⟨rfl, rfl, rfl⟩ := trodAll_nil r3
  obtain rfl : args = #[v0, v1, v2, v3] := by cases args; simp_all
  obtain ⟨rfl, rfl⟩ := trodVars_none hV
  obtain ⟨a0, rfl, rfl, rfl, w0⟩ := open_int Try.underlying21 (hval 0 21 v0 rfl rfl) h0
  obtain ⟨a1, rfl, rfl, rfl, w1⟩ := open_int Try.underlying21 (hval 1 21 v1 rfl rfl) h1
  obtain ⟨a2, rfl, rfl, rfl, w2⟩ := open_int Try.underlying21 (hval 2 21 v2 rfl rfl) h2
  obtain ⟨a3, rfl, rfl, rfl, w3⟩ := open_int Try.underlying21 (hval 3 21 v3 rfl rfl) h3
  clear hA0 hval0
  simp only [List.append_nil] at hW'
  refine (walk a0 a1 a2 a3 w0 w1 w2 w3 W).mono fun e W' ⟨he, hg⟩ => ?_
  subst he
  exact ⟨_, rfl, post_of_same (pa := []) (pv := []) hW' (fun _ _ _ => (trodAll_cons_mk (shut_bool Try.underlying4 _) trodAll_mk0)) (fun sp _ => (trodAll_cons_mk (shut_int Try.underlying21 w0) (trodAll_cons_mk (shut_int Try.underlying21 w1) (trodAll_cons_mk (shut_int Try.underlying21 w2) (trodAll_cons_mk (shut_int Try.underlying21 w3) trodAll_mk0))))) (fun _ _ => rfl) rfl
    (hg.frame _) hg.2.1 (ok_one (by kernel_rfl) rfl (okWide_bool_mk Try.underlying4 _))⟩

theorem over : Rows.planeProductsRow.holds Try.pinned (OpenSpec.ofChange Rows.planeProductsSpec) :=
  OpenClaim.holds_of_wide 4 Try.f4 rfl rfl rfl rfl rfl rfl rfl ⟨rfl, rfl, rfl, rfl, rfl⟩ rfl rfl rfl rfl rfl (by kernel_rfl) Try.func4 (by kernel_rfl)
    (of_decide_eq_true (by kernel_rfl)) (by unfold Func.isWrapper; first | (rw [if_pos (by decide +kernel)]; kernel_rfl) | (rw [if_neg (by decide +kernel)]; exact ⟨rfl, rfl⟩))
    (fun os started H enc _ => lifted os started H enc)

/-- ████ THE STATEMENT ████ -/
theorem proved : Rows.PlaneProductsSaid :=
  over
#print axioms proved
end Go.Proofs.Ytakjjnkjmkipfaa.planeProducts
