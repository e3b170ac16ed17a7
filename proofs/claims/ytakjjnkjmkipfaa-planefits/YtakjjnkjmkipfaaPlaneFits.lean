/-
  PROVED: for every four int32 and one int, the law PlaneFits of the plane answers true (a length is enough between two places just where the document says so; the least that is, and one less). No condition.
-/
import Derived.Test.YtakjjnkjmkipfaaRows
import Derived.Test.YtakjjnkjmkipfaaW3
import Derived.WalkKit
import Derived.ProofKit
import Derived.OpenShut
namespace Go.Proofs.Ytakjjnkjmkipfaa.planeFits
open Go.ChangeShapes Go.WideShapes Go.ChangeAt Go.RowKit
open Fl
set_option linter.unusedVariables false      -- a walk need not use every 'w<i>' (that an integer argument fits its kind)

theorem own : ownKnob Try.prog.godebug = none := by kernel_rfl

/-! ### STEP 1: THE WALK: the Go text returns true. 'Grown w w'': the world has at most new blocks (Derived/RowKit3.lean). Part the cases AHEAD of 'go_enter' where a test parts the walk; take each callee by a contract of your own. -/
theorem tmod_le (a : Int) : (a.tmod 5000).natAbs ≤ 4999 := by
  rw [Int.natAbs_tmod]
  have : a.natAbs % (5000 : Int).natAbs < 5000 := Nat.mod_lt _ (by decide)
  omega

theorem fitsB_neg (p q r s n : Int) (h1 : r = -p) (h2 : s = -q) : fitsB r s n = fitsB p q n := by
  unfold fitsB
  rw [decide_eq_decide, h1, h2, Int.neg_mul_neg, Int.neg_mul_neg]
  constructor <;> intro h <;> exact ⟨h.1, h.2.1, by omega, h.2.2.2⟩

theorem fitsB_less (p q n : Int) (h : (n - 1) * (n - 1) < p * p + q * q) : fitsB p q (n - 1) = false := by
  unfold fitsB
  exact decide_eq_false (by omega)

theorem fitsB_same (p q n : Int) (h1 : p = 0) (h2 : q = 0) : fitsB p q n = false := by
  unfold fitsB
  exact decide_eq_false (by omega)

set_option maxHeartbeats 4000000 in
theorem walk (a0 : Int) (a1 : Int) (a2 : Int) (a3 : Int) (a4 : Int) (w0 : (Lit.int .i32 a0).wf = true) (w1 : (Lit.int .i32 a1).wf = true) (w2 : (Lit.int .i32 a2).wf = true) (w3 : (Lit.int .i32 a3).wf = true) (w4 : (Lit.int .i64 a4).wf = true) (w : World) :
    Calls Try.prog 6 #[.int .i32 a0, .int .i32 a1, .int .i32 a2, .int .i32 a3, .int .i64 a4] w fun e w' => e = .returned (.bool true) ∧ Grown w w' := by
  have A0 := part_le a0; have A1 := part_le a1; have A2 := part_le a2; have A3 := part_le a3
  have C2 := tmod_le a2; have C3 := tmod_le a3
  obtain ⟨r, hr, fr⟩ := fl_add (by omega) (pf_fl a0) (fl_ofInt (a2.tmod 5000) (by omega)) (by omega)
  obtain ⟨i, hi, fi⟩ := fl_add (by omega) (pf_fl a1) (fl_ofInt (a3.tmod 5000) (by omega)) (by omega)
  have o1 : ∀ t w, (binOp .add t (.float .f64 (pf a0)) (.float .f64 (floatOfInt .f64 (a2.tmod 5000)))).run Try.prog w = .ok (.float .f64 r) w := fun t w => run_float_arith w .add t .f64 _ _ _ hr
  have o2 : ∀ t w, (binOp .add t (.float .f64 (pf a1)) (.float .f64 (floatOfInt .f64 (a3.tmod 5000)))).run Try.prog w = .ok (.float .f64 i) w := fun t w => run_float_arith w .add t .f64 _ _ _ hi
  clear hr hi
  obtain ⟨U, hU⟩ : ∃ U, part a0 + a2.tmod 5000 = U := ⟨_, rfl⟩
  obtain ⟨V, hV⟩ : ∃ V, part a1 + a3.tmod 5000 = V := ⟨_, rfl⟩
  rw [hU] at fr
  rw [hV] at fi
  have bU : (U - part a0).natAbs ≤ 4999 := by omega
  have bV : (V - part a1).natAbs ≤ 4999 := by omega
  clear hU hV
  obtain ⟨s, j, o3, fs, fj⟩ := csub_fl fr fi (pf_fl a0) (pf_fl a1) (by omega) (by omega)
  have e1 := eq_fact fr (pf_fl a0)
  have e2 := eq_fact fi (pf_fl a1)
  have z1 : fitsB (part a0 - part a0) (part a1 - part a1) a4 = false := fitsB_same _ _ _ (by omega) (by omega)
  have E1 := Lib.hid e1; have E2 := Lib.hid e2; have Z1 := Lib.hid z1
  clear e1 e2 z1
  go_enter Try.func6, Try.ntmps6
  go_wp2_with fail
  refine (place_any a0 a1 _).mono ?_; rintro e w' ⟨rfl, rfl⟩
  go_wp2_with fail
  refine (place_any a2 a3 _).mono ?_; rintro e w' ⟨rfl, rfl⟩
  go_wp2_with fail
  refine (left_any _).mono ?_; rintro e w' ⟨rfl, rfl⟩
  go_wp2_with fail
  refine (fits_any _ _ _ _ _ _ _ _ _ _ (pf_fl a0) (pf_fl a1) (pf_fl a2) (pf_fl a3) (by omega) (by omega)).mono ?_; rintro e w' ⟨rfl, rfl⟩
  go_wp2_with fail
  refine (refFits_any _ _ _ _ _ _ _ _ _ _ (pf_fl a0) (pf_fl a1) (pf_fl a2) (pf_fl a3) (by omega) (by omega)).mono ?_; rintro e w' ⟨rfl, rfl⟩
  go_wp2_with fail
  refine (fits_any _ _ _ _ _ _ _ _ _ _ (pf_fl a0) (pf_fl a1) (pf_fl a0) (pf_fl a1) (by omega) (by omega)).mono ?_; rintro e w' ⟨rfl, rfl⟩
  rw [Z1.out]
  go_wp2_with fail
  refine (Place_any _ _ _).mono ?_; rintro e w' ⟨rfl, rfl⟩
  cases (metB r && metB i)
  · go_wp2_with fail
    go_ret
    exact ⟨rfl, Grown.refl _⟩
  · by_cases g : U = part a0 ∧ V = part a1
    · have e1 := E1.out; have e2 := E2.out
      rw [decide_eq_true g.1] at e1
      rw [decide_eq_true g.2] at e2
      clear g
      go_wp2_with fail
      go_ret
      exact ⟨rfl, Grown.refl _⟩
    · have e12 : (FloatKind.f64.format.order r (pf a0) == some .eq && FloatKind.f64.format.order i (pf a1) == some .eq) = false := by
        rw [E1.out, E2.out]; simp; omega
      have hS : 0 < (U - part a0) * (U - part a0) + (V - part a1) * (V - part a1) := by
        have s1 : 0 ≤ (U - part a0) * (U - part a0) := by
          rcases Int.le_total 0 (U - part a0) with q | q
          · exact Int.mul_nonneg q q
          · exact Int.mul_nonneg_of_nonpos_of_nonpos q q
        have s2 : 0 ≤ (V - part a1) * (V - part a1) := by
          rcases Int.le_total 0 (V - part a1) with q | q
          · exact Int.mul_nonneg q q
          · exact Int.mul_nonneg_of_nonpos_of_nonpos q q
        have y1 : (U - part a0) * (U - part a0) = 0 ↔ U - part a0 = 0 := by rw [Int.mul_eq_zero]; omega
        have y2 : (V - part a1) * (V - part a1) = 0 ↔ V - part a1 = 0 := by rw [Int.mul_eq_zero]; omega
        omega
      clear g
      generalize hSS : (U - part a0) * (U - part a0) + (V - part a1) * (V - part a1) = S at hS
      have HS := Lib.hid hSS; clear hSS
      go_wp2_with fail
      go_loop [14] (fun t => ∃ k : Int, 1 ≤ k ∧ k ≤ 10000 ∧ (k - 1) * (k - 1) < S ∧ t = .int .i64 k) (fun t => (10000 - intOf t).toNat)
      case atStart => exact ⟨1, by omega, by omega, by omega, rfl⟩
      case round =>
        obtain ⟨k, hk1, hk2, hk3, rfl⟩ := hrel
        have HK := Lib.hid hk3; clear hk3
        have kk : (k * k).natAbs ≤ 10000 * 10000 := abs_mul_lt (by omega) (by omega)
        have back : fitsB (part a0 - U) (part a1 - V) k = fitsB (U - part a0) (V - part a1) k := fitsB_neg _ _ _ _ _ (by omega) (by omega)
        have less : fitsB (U - part a0) (V - part a1) (k - 1) = false := fitsB_less _ _ _ (by rw [HS.out]; exact HK.out)
        have BK := Lib.hid back; have LS := Lib.hid less
        clear back less
        by_cases hlt : k < 10000
        · go_wp2_with fail
          refine (refDot_any s j s j _ _ _ _ _ fs fj fs fj (by omega) (by omega) (by omega) (by omega)).mono ?_; rintro e w' ⟨rfl, rfl⟩
          rw [HS.out]
          by_cases hk : k * k < S
          · go_wp2_with fail
            go_round
            case rel => exact ⟨k + 1, by omega, by omega, by rw [show k + 1 - 1 = k from by omega]; exact hk, rfl⟩
            case measure => simp [intOf]; omega
          · go_wp2_with fail
            refine (fits_any _ _ _ _ _ _ _ _ _ _ (pf_fl a0) (pf_fl a1) fr fi (by omega) (by omega)).mono ?_; rintro e w' ⟨rfl, rfl⟩
            go_wp2_with fail
            refine (refFits_any _ _ _ _ _ _ _ _ _ _ (pf_fl a0) (pf_fl a1) fr fi (by omega) (by omega)).mono ?_; rintro e w' ⟨rfl, rfl⟩
            go_wp2_with fail
            refine (fits_any _ _ _ _ _ _ _ _ _ _ (pf_fl a0) (pf_fl a1) fr fi (by omega) (by omega)).mono ?_; rintro e w' ⟨rfl, rfl⟩
            rw [LS.out]
            go_wp2_with fail
            refine (fits_any _ _ _ _ _ _ _ _ _ _ fr fi (pf_fl a0) (pf_fl a1) (by omega) (by omega)).mono ?_; rintro e w' ⟨rfl, rfl⟩
            rw [BK.out]
            go_wp2_with fail
            refine (fits_any _ _ _ _ _ _ _ _ _ _ (pf_fl a0) (pf_fl a1) fr fi (by omega) (by omega)).mono ?_; rintro e w' ⟨rfl, rfl⟩
            go_wp2_with fail
            go_ret
            exact ⟨rfl, Grown.refl _⟩
        · go_wp2_with fail
          refine (fits_any _ _ _ _ _ _ _ _ _ _ (pf_fl a0) (pf_fl a1) fr fi (by omega) (by omega)).mono ?_; rintro e w' ⟨rfl, rfl⟩
          go_wp2_with fail
          refine (refFits_any _ _ _ _ _ _ _ _ _ _ (pf_fl a0) (pf_fl a1) fr fi (by omega) (by omega)).mono ?_; rintro e w' ⟨rfl, rfl⟩
          go_wp2_with fail
          refine (fits_any _ _ _ _ _ _ _ _ _ _ (pf_fl a0) (pf_fl a1) fr fi (by omega) (by omega)).mono ?_; rintro e w' ⟨rfl, rfl⟩
          rw [LS.out]
          go_wp2_with fail
          refine (fits_any _ _ _ _ _ _ _ _ _ _ fr fi (pf_fl a0) (pf_fl a1) (by omega) (by omega)).mono ?_; rintro e w' ⟨rfl, rfl⟩
          rw [BK.out]
          go_wp2_with fail
          refine (fits_any _ _ _ _ _ _ _ _ _ _ (pf_fl a0) (pf_fl a1) fr fi (by omega) (by omega)).mono ?_; rintro e w' ⟨rfl, rfl⟩
          go_wp2_with fail
          go_ret
          exact ⟨rfl, Grown.refl _⟩

/-! ### THE ROW's STEP: WRITTEN OUT: LEAVE IT -/
set_option maxRecDepth 100000 in
theorem lifted (os : Os) (started : os.Started) (H : Type) (enc : TypeId × Value → H) :
    ReturnsInHanded {} Try.checked os 6 .any (Rows.planeFitsSpec.pre6 enc Try.prog Try.f6 Rows.planeFitsRow.domain false) (Rows.planeFitsSpec.post enc Try.prog Try.f6 false true false false) := by
  refine returnsInHanded_of_change (C := Try.checked) own started (by kernel_rfl) Try.func6
    (ChangeSpec.witness6 (enc := enc) (C := Try.checked) false ⟨#[], #[.int .i32 0, .int .i32 0, .int .i32 0, .int .i32 0, .int .i64 0], []⟩ 8 (by kernel_rfl) (by kernel_rfl) (by kernel_rfl) (by kernel_rfl)) ?_
  intro W base args ds gs before hval0 hW hcnd _
  have hval : ∀ (j : Nat) t v, Try.f6.params[j]? = some t → args[j]? = some v → Value.okWide Try.prog W .any base t v := hval0
  have hW' := hW
  obtain ⟨p, q, hA0, hV, rfl, hfz, hnd⟩ := hW
  have hA : DataW.TrodAll enc Try.prog W 0 (fun _ => true) true Try.f6.params.toList args.toList ds p := hA0
  rw [Try.params6] at hA hval
  obtain ⟨v0, vs0, d0, ds0, p0, q0, hargs, rfl, rfl, h0, r0⟩ := trodAll_cons hA
  obtain ⟨v1, vs1, d1, ds1, p1, q1, rfl, rfl, rfl, h1, r1⟩ := trodAll_cons r0
  obtain ⟨v2, vs2, d2, ds2, p2, q2, rfl, rfl, rfl, h2, r2⟩ := trodAll_cons r1
  obtain ⟨v3, vs3, d3, ds3, p3, q3, rfl, rfl, rfl, h3, r3⟩ := trodAll_cons r2
  obtain ⟨v4, vs4, d4, ds4, p4, q4, rfl, rfl, rfl, h4, r4⟩ := trodAll_cons r3
  obtain ⟨rfl, rfl, rfl⟩ := trodAll_nil r4
  obtain rfl : args = #[v0, v1, v2, v3, v4] := by cases args; simp_all
  obtain ⟨rfl, rfl⟩ := trodVars_none hV
  obtain ⟨a0, rfl, rfl, rfl, w0⟩ := open_int Try.underlying21 (hval 0 21 v0 rfl rfl) h0
  obtain ⟨a1, rfl, rfl, rfl, w1⟩ := open_int Try.underlying21 (hval 1 21 v1 rfl rfl) h1
  obtain ⟨a2, rfl, rfl, rfl, w2⟩ := open_int Try.underlying21 (hval 2 21 v2 rfl rfl) h2
  obtain ⟨a3, rfl, rfl, rfl, w3⟩ := open_int Try.underlying21 (hval 3 21 v3 rfl rfl) h3
  obtain ⟨a4, rfl, rfl, rfl, w4⟩ := open_int Try.underlying3 (hval 4 3 v4 rfl rfl) h4
  clear hA0 hval0
  simp only [List.append_nil] at hW'
  refine (walk a0 a1 a2 a3 a4 w0 w1 w2 w3 w4 W).mono fun e W' ⟨he, hg⟩ => ?_
  subst he
  exact ⟨_, rfl, post_of_same (pa := []) (pv := []) hW' (fun _ _ _ => (trodAll_cons_mk (shut_bool Try.underlying4 _) trodAll_mk0)) (fun sp _ => (trodAll_cons_mk (shut_int Try.underlying21 w0) (trodAll_cons_mk (shut_int Try.underlying21 w1) (trodAll_cons_mk (shut_int Try.underlying21 w2) (trodAll_cons_mk (shut_int Try.underlying21 w3) (trodAll_cons_mk (shut_int Try.underlying3 w4) trodAll_mk0)))))) (fun _ _ => rfl) rfl
    (hg.frame _) hg.2.1 (ok_one (by kernel_rfl) rfl (okWide_bool_mk Try.underlying4 _))⟩

theorem over : Rows.planeFitsRow.holds Try.pinned (OpenSpec.ofChange Rows.planeFitsSpec) :=
  OpenClaim.holds_of_wide 6 Try.f6 rfl rfl rfl rfl rfl rfl rfl ⟨rfl, rfl, rfl, rfl, rfl⟩ rfl rfl rfl rfl rfl (by kernel_rfl) Try.func6 (by kernel_rfl)
    (of_decide_eq_true (by kernel_rfl)) (by unfold Func.isWrapper; first | (rw [if_pos (by decide +kernel)]; kernel_rfl) | (rw [if_neg (by decide +kernel)]; exact ⟨rfl, rfl⟩))
    (fun os started H enc _ => lifted os started H enc)

/-- ████ THE STATEMENT ████ -/
theorem proved : Rows.PlaneFitsSaid :=
  over
#print axioms proved
end Go.Proofs.Ytakjjnkjmkipfaa.planeFits
