/-
  PROVED: for every input the law VerifyTurns returns true and leaves its arguments as they were: a track that goes on, or turns back, at a joint. No condition.
-/
import Derived.Test.YtagkgejdammflaaGreatRows
import Derived.Test.YtagkgejdammflaaGreatV37
import Derived.Test.YtagkgejdammflaaGreatV35
import Derived.WalkKit
import Derived.ProofKit
import Derived.OpenShut
import Derived.ShutString
import Derived.ChangeOld
import Derived.Below
namespace Go.Proofs.YtagkgejdammflaaGreat.verifyTurns
open Go.ChangeShapes Go.WideShapes Go.ChangeAt Go.RowKit
open Go.ChangeMaps (open_string shut_string)
open Fl Go.Deep
set_option linter.unusedVariables false
set_option maxRecDepth 100000

theorem own : ownKnob Tryz.prog.godebug = none := by kernel_rfl
theorem laidOut : laidOutB Tryz.prog = true := by kernel_rfl

set_option maxHeartbeats 8000000 in
theorem walk (a0 : Int) (a1 : Int) (a2 : Int) (w : World) (w0 : (Lit.int .i8 a0).wf = true) (w1 : (Lit.int .i8 a1).wf = true) (w2 : (Lit.int .u8 a2).wf = true) :
    Calls Tryz.prog 7 #[.int .i8 a0, .int .i8 a1, .int .u8 a2] w fun e w' => e = .returned (.bool true) ∧ Below w.heap.size w w' := by
  obtain ⟨lg, hlg, hlg2⟩ := u8_nat w2
  subst hlg
  have hx := i8_in w0
  have hy := i8_in w1
  clear w0 w1 w2
  obtain ⟨fx, hfx⟩ : ∃ b, floatOfInt .f64 (100 + a0) = b := ⟨_, rfl⟩
  have HFX : Hid (Fl 0 fx (100 + a0)) := by rw [← hfx]; exact fl_ofInt _ (by omega)
  obtain ⟨fy, hfy⟩ : ∃ b, floatOfInt .f64 a1 = b := ⟨_, rfl⟩
  have HFY : Hid (Fl 0 fy a1) := by rw [← hfy]; exact fl_ofInt _ (by omega)
  have hw0 : IntKind.i64.wrap a0 = a0 := IntWalk.i64_in _ (by omega)
  have hw1 : IntKind.i64.wrap (100 + a0) = 100 + a0 := IntWalk.i64_in _ (by omega)
  have hw2 : IntKind.i64.wrap (lg : Int) = (lg : Int) := IntWalk.i64_in _ (by omega)
  have hw3 : IntKind.i64.wrap (100 + (lg : Int)) = 100 + (lg : Int) := IntWalk.i64_in _ (by omega)
  go_enter Tryz.func7, Tryz.ntmps7
  go_wp2_with fail
  refine (nothing_any _).mono ?_; rintro e wA ⟨rfl, hbA⟩
  have HA := Lib.hid hbA
  clear hbA
  go_upto_region 5 with (fail)
  have HS := Lib.hid (turn_st HA.out a0 a1 (lg : Int) fx fy HFX.out HFY.out)
  unfold turnC at HS
  generalize (((((wA.alloc (.cells #[.complex .f64 0 0, .complex .f64 4636737291354636288 0, .complex .f64 fx fy] 36)).alloc (.cells #[.int .i64 100, .int .i64 0, .int .i64 1, .int .i64 (100 + (lg : Int)), .int .i64 2, .int .i64 1] 39)).alloc (.cells #[.int .i64 0, .int .i64 1] 3)).alloc (.cells #[.slice (some ⟨wA.heap.size + 1 + 1, 0, none⟩) 2 2] 42)).alloc (.cells #[.slice (some ⟨wA.heap.size, 0, none⟩) 3 3, .slice (some ⟨wA.heap.size + 1, 0, none⟩) 2 2, .slice (some ⟨wA.heap.size + 1 + 1 + 1, 0, none⟩) 1 1, .slice none 0 0, .slice none 0 0, .int .i64 100, .int .i64 1, .int .i64 1, .int .i64 1, .int .i64 0] 33)) = W5 at *
  clear HA
  obtain ⟨bN, hbN⟩ : ∃ n, n = wA.heap.size := ⟨_, rfl⟩
  rw [← hbN] at HS ⊢
  clear hbN
  have HS2 : Hid (FiSt w (bN + 1 + 1 + 1 + 1) (turnC bN) (turnL a0 a1 (lg : Int)) W5) := HS.out
  clear HS
  have p0 := HS2.out.row.cell 0
  have p1 := HS2.out.row.cell 1
  have p2 := HS2.out.row.cell 2
  have p3 := HS2.out.row.cell 3
  have p4 := HS2.out.row.cell 4
  have p5 := HS2.out.row.cell 5
  have p6 := HS2.out.row.cell 6
  have p7 := HS2.out.row.cell 7
  have p8 := HS2.out.row.cell 8
  have p9 := HS2.out.row.cell 9
  simp only [turnC, List.getElem?_toArray, List.getElem?_cons_zero, List.getElem?_cons_succ] at p0 p1 p2 p3 p4 p5 p6 p7 p8 p9
  have h1 := first_any W5 _ (turnL a0 a1 (lg : Int)) HS2.out.lay (turn_vf a0 a1 (lg : Int)).v
  obtain ⟨x, hxx⟩ : ∃ x, firstL (turnL a0 a1 (lg : Int)) = x := ⟨_, rfl⟩
  have HX := Lib.hid hxx
  rw [hxx] at h1
  obtain ⟨x1, x2⟩ := x
  unfold turnC at h1
  have H1 := Lib.hid h1
  clear hxx h1
  go_wp2_with fail
  refine H1.out.mono ?_; rintro e wB ⟨rfl, hbB⟩
  have HS3 := Lib.hid (HS2.out.call hbB)
  clear p0 p1 p2 p3 p4 p5 p6 p7 p8 p9
  clear hbB HS2 H1
  have p0 := HS3.out.row.cell 0
  have p1 := HS3.out.row.cell 1
  have p2 := HS3.out.row.cell 2
  have p3 := HS3.out.row.cell 3
  have p4 := HS3.out.row.cell 4
  have p5 := HS3.out.row.cell 5
  have p6 := HS3.out.row.cell 6
  have p7 := HS3.out.row.cell 7
  have p8 := HS3.out.row.cell 8
  have p9 := HS3.out.row.cell 9
  simp only [turnC, List.getElem?_toArray, List.getElem?_cons_zero, List.getElem?_cons_succ] at p0 p1 p2 p3 p4 p5 p6 p7 p8 p9
  have hj := judged_any wB _ (turnL a0 a1 (lg : Int)) HS3.out.lay (turn_vf a0 a1 (lg : Int))
  unfold turnC at hj
  have HJ := Lib.hid hj
  clear hj
  have e1 := eq_fact HFX.out fl_zero
  have e2 := eq_fact HFY.out fl_zero
  have e3 := eq_fact HFX.out fl_hundred
  by_cases hz : 100 + a0 = 0 ∧ a1 = 0
  · rw [decide_eq_true hz.1] at e1
    rw [decide_eq_true hz.2] at e2
    go_wp2_with fail
    refine HJ.out.mono ?_; rintro e wC ⟨rfl, hbC⟩
    have HZ : Hid (Below w.heap.size w wC) := (HS3.out.call hbC).bel
    clear p0 p1 p2 p3 p4 p5 p6 p7 p8 p9
    clear hbC HS3 HJ
    go_wp2_with fail
    go_ret
    exact ⟨rfl, HZ.out⟩
  · have hz1 : ((FloatKind.f64.format.order fx 0 == some .eq) && (FloatKind.f64.format.order fy 0 == some .eq)) = false := by
      rw [e1, e2]
      by_cases g : 100 + a0 = 0
      · rw [decide_eq_true g, decide_eq_false (fun g2 => hz ⟨g, g2⟩)]; rfl
      · rw [decide_eq_false g]; rfl
    by_cases hy0 : 100 + a0 = 100 ∧ a1 = 0
    · rw [decide_eq_true hy0.1] at e3
      rw [decide_eq_true hy0.2] at e2
      rw [decide_eq_false (by omega)] at e1
      go_wp2_with fail
      refine HJ.out.mono ?_; rintro e wC ⟨rfl, hbC⟩
      have HZ : Hid (Below w.heap.size w wC) := (HS3.out.call hbC).bel
      clear p0 p1 p2 p3 p4 p5 p6 p7 p8 p9
      clear hbC HS3 HJ
      go_wp2_with fail
      go_ret
      exact ⟨rfl, HZ.out⟩
    · have hz2 : ((FloatKind.f64.format.order fx 4636737291354636288 == some .eq) && (FloatKind.f64.format.order fy 0 == some .eq)) = false := by
        rw [e3, e2]
        by_cases g : 100 + a0 = 100
        · rw [decide_eq_true g, decide_eq_false (fun g2 => hy0 ⟨g, g2⟩)]; rfl
        · rw [decide_eq_false g]; rfl
      clear e1 e2 e3
      obtain ⟨dx, dy, hsub, hf1, hf2⟩ := csub_fl HFX.out HFY.out fl_hundred fl_zero (by omega) (by omega)
      have q1 : 100 + a0 - 100 = a0 := by omega
      have q2 : a1 - 0 = a1 := by omega
      rw [q1] at hf1
      rw [q2] at hf2
      have HDOT : Hid (∀ W, Calls Tryz.prog 18 #[.complex .f64 dx dy, .complex .f64 dx dy] W fun e w' => e = .returned (.int .i64 (a0 * a0 + a1 * a1)) ∧ W = w') := fun W => refDot_any dx dy dx dy a0 a1 a0 a1 W hf1 hf2 hf1 hf2 (by omega) (by omega) (by omega) (by omega)
      have hq1 : (100 + (lg : Int)) * (100 + (lg : Int)) ≤ 355 * 355 := Int.mul_le_mul (by omega) (by omega) (by omega) (by omega)
      have hq2 : 0 ≤ (100 + (lg : Int)) * (100 + (lg : Int)) := Int.mul_nonneg (by omega) (by omega)
      have HTF : Hid (a0 * a0 + a1 * a1 ≤ (100 + (lg : Int)) * (100 + (lg : Int)) → firstL (turnL a0 a1 (lg : Int)) = if a0 ≤ 0 then (12, 1) else (0, 0)) := fun h => turn_first a0 a1 (lg : Int) hx hy (by omega) hz hy0 h
      rw [HX.out] at HTF
      generalize a0 * a0 + a1 * a1 = dd at *
      generalize hll : (100 + (lg : Int)) * (100 + (lg : Int)) = ll at *
      have hw4 : IntKind.i64.wrap ll = ll := IntWalk.i64_in _ (by omega)
      clear hf1 hf2 q1 q2 hq1 hq2
      by_cases hgt : ll < dd
      · go_wp2_with fail
        refine HJ.out.mono ?_; rintro e wC ⟨rfl, hbC⟩
        have HZ : Hid (Below w.heap.size w wC) := (HS3.out.call hbC).bel
        clear p0 p1 p2 p3 p4 p5 p6 p7 p8 p9
        clear hbC HS3 HJ
        go_wp2_with fail
        refine (HDOT.out wC).mono ?_; rintro e w8 ⟨rfl, rfl⟩
        go_wp2_with fail
        go_ret
        exact ⟨rfl, HZ.out⟩
      · have hxe := HTF.out (by omega)
        have d1 : decide (ll < dd) = false := decide_eq_false hgt
        clear HTF
        by_cases hx0 : a0 ≤ 0
        · have d2 : decide (a0 ≤ 0) = true := decide_eq_true hx0
          rw [if_pos hx0] at hxe
          injection hxe with hxa hxb
          subst hxa hxb
          go_wp2_with fail
          refine HJ.out.mono ?_; rintro e wC ⟨rfl, hbC⟩
          have HZ : Hid (Below w.heap.size w wC) := (HS3.out.call hbC).bel
          clear p0 p1 p2 p3 p4 p5 p6 p7 p8 p9
          clear hbC HS3 HJ
          go_wp2_with fail
          refine (HDOT.out wC).mono ?_; rintro e w8 ⟨rfl, rfl⟩
          go_wp2_with fail
          go_ret
          exact ⟨rfl, HZ.out⟩
        · have d2 : decide (a0 ≤ 0) = false := decide_eq_false hx0
          rw [if_neg hx0] at hxe
          injection hxe with hxa hxb
          subst hxa hxb
          go_wp2_with fail
          refine HJ.out.mono ?_; rintro e wC ⟨rfl, hbC⟩
          have HZ : Hid (Below w.heap.size w wC) := (HS3.out.call hbC).bel
          clear p0 p1 p2 p3 p4 p5 p6 p7 p8 p9
          clear hbC HS3 HJ
          go_wp2_with fail
          refine (HDOT.out wC).mono ?_; rintro e w8 ⟨rfl, rfl⟩
          go_wp2_with fail
          go_ret
          exact ⟨rfl, HZ.out⟩

theorem lifted (os : Os) (started : os.Started) (H : Type) (enc : TypeId × Value → H) :
    ReturnsInHanded {} Tryz.checked os 7 .any (Rows.verifyTurnsSpec.pre6 enc Tryz.prog Tryz.f7 Rows.verifyTurnsRow.domain false) (Rows.verifyTurnsSpec.post enc Tryz.prog Tryz.f7 false true false false) := by
  refine returnsInHanded_of_change (C := Tryz.checked) own started (by kernel_rfl) Tryz.func7
    (ChangeSpec.witness6 (enc := enc) (C := Tryz.checked) false ⟨#[], #[.int .i8 0, .int .i8 0, .int .u8 0], []⟩ 8 (by kernel_rfl) (by kernel_rfl) (by kernel_rfl) (by kernel_rfl)) ?_
  intro W base args ds gs before hval0 hW hcnd _
  have hval : ∀ (j : Nat) t v, Tryz.f7.params[j]? = some t → args[j]? = some v → Value.okWide Tryz.prog W .any base t v := hval0
  have hW' := hW
  obtain ⟨p, q, hA0, hV, rfl, hfz, hnd⟩ := hW
  have hA : DataW.TrodAll enc Tryz.prog W 0 (fun _ => true) true Tryz.f7.params.toList args.toList ds p := hA0
  rw [Tryz.params7] at hA hval
  obtain ⟨v0, vs0, d0, ds0, p0, q0, hargs, rfl, rfl, h0, r0⟩ := trodAll_cons hA
  obtain ⟨v1, vs1, d1, ds1, p1, q1, rfl, rfl, rfl, h1, r1⟩ := trodAll_cons r0
  obtain ⟨v2, vs2, d2, ds2, p2, q2, rfl, rfl, rfl, h2, r2⟩ := trodAll_cons r1
  obtain ⟨rfl, rfl, rfl⟩ := trodAll_nil r2
  obtain rfl : args = #[v0, v1, v2] := by cases args; simp_all
  obtain ⟨rfl, rfl⟩ := trodVars_none hV
  obtain ⟨a0, rfl, rfl, rfl, w0⟩ := open_int Tryz.underlying49 (hval 0 49 v0 rfl rfl) h0
  obtain ⟨a1, rfl, rfl, rfl, w1⟩ := open_int Tryz.underlying49 (hval 1 49 v1 rfl rfl) h1
  obtain ⟨a2, rfl, rfl, rfl, w2⟩ := open_int Tryz.underlying5 (hval 2 5 v2 rfl rfl) h2
  clear hA0 hval0
  refine (walk a0 a1 a2 W w0 w1 w2).mono fun e W' ⟨he, bel⟩ => ?_
  subst he
  exact ⟨_, rfl, _, _, _, [], _, [], hW', trodAll_mk1 (shut_bool Tryz.underlying4 _), (trodAll_cons_mk (shut_int Tryz.underlying49 w0) (trodAll_cons_mk (shut_int Tryz.underlying49 w1) (trodAll_cons_mk (shut_int Tryz.underlying5 w2) trodAll_mk0))), rfl, bel.frame _, fun h => by cases h⟩

theorem over : Rows.verifyTurnsRow.holds Tryz.pinned (OpenSpec.ofChange Rows.verifyTurnsSpec) :=
  OpenClaim.holds_of_wide 7 Tryz.f7 rfl rfl rfl rfl rfl rfl rfl ⟨rfl, rfl, rfl, rfl, rfl⟩ rfl rfl rfl rfl rfl (by kernel_rfl) Tryz.func7 (by kernel_rfl)
    (of_decide_eq_true (by kernel_rfl)) (by unfold Func.isWrapper; first | (rw [if_pos (by decide +kernel)]; kernel_rfl) | (rw [if_neg (by decide +kernel)]; exact ⟨rfl, rfl⟩))
    (fun os started H enc _ => lifted os started H enc)

theorem proved : Rows.VerifyTurnsSaid := over
#print axioms proved
end Go.Proofs.YtagkgejdammflaaGreat.verifyTurns
