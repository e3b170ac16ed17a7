/-
  PROVED: for every input the law TimerAnew returns true and leaves its arguments as they were: a timer that is started anew ends just at its new tick. No condition.
-/
import Derived.Test.YtkhceigfmaajdaaRows
import Derived.Test.YtkhceigfmaajdaaT10
import Derived.WalkKit
import Derived.ProofKit
import Derived.OpenShut
import Derived.ShutString
import Derived.ChangeOld
import Derived.Below
namespace Go.Proofs.Ytkhceigfmaajdaa.timerAnew
open Go.ChangeShapes Go.WideShapes Go.ChangeAt Go.RowKit
open Go.ChangeMaps (open_string shut_string)
set_option linter.unusedVariables false
set_option maxRecDepth 100000

theorem own : ownKnob Try.prog.godebug = none := by kernel_rfl
theorem laidOut : laidOutB Try.prog = true := by kernel_rfl

theorem i64_in {n : Int} (h : (Lit.int .i64 n).wf = true) : -9223372036854775808 ≤ n ∧ n ≤ 9223372036854775807 := by
  simp only [Lit.wf, Bool.and_eq_true, decide_eq_true_eq] at h
  exact h

theorem one_list (id a b : Int) : startL [] id a = [(id, a)] ∧ startL [(id, a)] id b = [(id, b)] ∧ startE [] id = 0 ∧ startE [(id, a)] id = 0 ∧ leftL [(id, b)] id b = (0, true) ∧ endL [(id, b)] b = [(id, b)] ∧ endL [(id, b)] (b - 1) = [] ∧ restL [(id, b)] (b - 1) = [(id, b)] := by
  refine ⟨?_, ?_, ?_, ?_, ?_, ?_, ?_, ?_⟩
  · simp [startL, fullL, hasL, stopL, insT]
  · simp [startL, fullL, hasL, stopL, insT]
  · simp [startE, fullL, hasL]
  · simp [startE, fullL, hasL]
  · simp [leftL, betw]
  · simp [endL]
  · have : ¬ b ≤ b - 1 := by omega
    simp [endL]; omega
  · simp [restL]; omega

set_option maxHeartbeats 8000000 in
theorem walk (a0 : Int) (a1 : Int) (a2 : Int) (w : World) (w0 : (Lit.int .i64 a0).wf = true) (w1 : (Lit.int .i64 a1).wf = true) (w2 : (Lit.int .i64 a2).wf = true) :
    Calls Try.prog 6 #[.int .i64 a0, .int .i64 a1, .int .i64 a2] w fun e w' => e = .returned (.bool true) ∧ Below w.heap.size w w' := by
  have HI0 := Lib.hid (i64_in w0)
  have HI1 := Lib.hid (i64_in w1)
  clear w0 w1 w2
  have HE := Lib.hid (one_list a2 a0 a1)
  have HB0 := Lib.hid (Below.refl w.heap.size w)
  go_enter Try.func6, Try.ntmps6
  go_wp2_with fail
  refine (ts_new w w _ (Nat.le_refl _) HB0.out).mono ?_; rintro e x1 ⟨g, rfl, ht1, -⟩
  have HT1 := Lib.hid ht1
  clear ht1
  go_wp2_with fail
  refine (ts_start w x1 _ g _ a2 a0 HT1.out HI0.out.1 HI0.out.2).mono ?_; rintro e x2 ⟨rfl, ht2, -⟩
  rw [HE.out.1] at ht2
  rw [HE.out.2.2.1]
  have HT2 := Lib.hid ht2
  clear ht2
  go_wp2_with fail
  refine (ts_start w x2 _ g _ a2 a1 HT2.out HI1.out.1 HI1.out.2).mono ?_; rintro e x3 ⟨rfl, ht3, -⟩
  rw [HE.out.2.1] at ht3
  rw [HE.out.2.2.2.1]
  have HT3 := Lib.hid ht3
  clear ht3
  go_wp2_with fail
  refine (ts_left w x3 _ g _ a2 a1 HT3.out HI1.out.1 HI1.out.2).mono ?_; rintro e x4 ⟨rfl, hb4⟩
  rw [HE.out.2.2.2.2.1]
  have HT4 := Lib.hid (HT3.out.call hb4)
  clear hb4
  go_wp2_with fail
  refine (three_any x4).mono ?_; rintro e x5 ⟨rfl, hb5⟩
  have HT5 := Lib.hid (HT4.out.call hb5)
  clear hb5
  go_wp2_with fail
  refine (ts_len w x5 _ g _ HT5.out).mono ?_; rintro e w' ⟨rfl, rfl⟩
  simp only [List.length_cons, List.length_nil]
  by_cases hm : -9223372036854775808 < a1
  · have hw : IntKind.i64.wrap (a1 - 1) = a1 - 1 := IntWalk.i64_in _ (by have := HI1.out; omega)
    go_wp2_with fail
    refine (ts_ended w x5 _ g _ (a1 - 1) HT5.out).mono ?_; rintro e y5 ⟨v5, rfl, ho5, ht5, -⟩
    rw [HE.out.2.2.2.2.2.2.2] at ht5
    rw [HE.out.2.2.2.2.2.2.1] at ho5
    obtain ⟨A5, c5, hA5⟩ := own_slice ho5
    subst hA5
    clear HT5
    have HT5 := Lib.hid ht5
    clear ho5 ht5 hw
    simp only [List.length_nil]
    go_wp2_with fail
    refine (ts_ended w y5 _ g _ a1 HT5.out).mono ?_; rintro e x6 ⟨v6, rfl, ho6, ht6, -⟩
    rw [HE.out.2.2.2.2.2.1] at ho6
    have HO6 := Lib.hid ho6
    have HB6 := Lib.hid ht6.below
    obtain ⟨A6, c6, hA6⟩ := own_slice ho6
    subst hA6
    clear ho6 ht6
    have HOA : Hid (Rd (x6.alloc (.cells #[.int .i64 a2] 3)) (x6.alloc (.cells #[.int .i64 a2] 3)).heap.size (.slice A6 1 c6) (ivals [a2])) := Rd.of_own (HO6.out.alloc _)
    have HOB : Hid (Rd (x6.alloc (.cells #[.int .i64 a2] 3)) (x6.alloc (.cells #[.int .i64 a2] 3)).heap.size (.slice (some ⟨x6.heap.size, 0, none⟩) 1 1) (ivals [a2])) := lit_rd x6 [a2]
    have HB7 := Lib.hid (HB6.out.alloc (by have := HB6.out.size; omega) (.cells #[.int .i64 a2] 3))
    go_wp2_with fail
    refine (ints_any _ _ _ _ [a2] [a2] HOA.out HOB.out (by simp)).mono ?_; rintro e x7 ⟨rfl, n7, rfl⟩
    rw [show decide ([a2] = [a2]) = true from decide_eq_true rfl]
    go_wp2_with fail
    go_ret
    exact ⟨rfl, Below.drewN HB7.out n7⟩
  · 
    go_wp2_with fail
    refine (ts_ended w x5 _ g _ a1 HT5.out).mono ?_; rintro e x6 ⟨v6, rfl, ho6, ht6, -⟩
    rw [HE.out.2.2.2.2.2.1] at ho6
    have HO6 := Lib.hid ho6
    have HB6 := Lib.hid ht6.below
    obtain ⟨A6, c6, hA6⟩ := own_slice ho6
    subst hA6
    clear ho6 ht6
    have HOA : Hid (Rd (x6.alloc (.cells #[.int .i64 a2] 3)) (x6.alloc (.cells #[.int .i64 a2] 3)).heap.size (.slice A6 1 c6) (ivals [a2])) := Rd.of_own (HO6.out.alloc _)
    have HOB : Hid (Rd (x6.alloc (.cells #[.int .i64 a2] 3)) (x6.alloc (.cells #[.int .i64 a2] 3)).heap.size (.slice (some ⟨x6.heap.size, 0, none⟩) 1 1) (ivals [a2])) := lit_rd x6 [a2]
    have HB7 := Lib.hid (HB6.out.alloc (by have := HB6.out.size; omega) (.cells #[.int .i64 a2] 3))
    go_wp2_with fail
    refine (ints_any _ _ _ _ [a2] [a2] HOA.out HOB.out (by simp)).mono ?_; rintro e x7 ⟨rfl, n7, rfl⟩
    rw [show decide ([a2] = [a2]) = true from decide_eq_true rfl]
    go_wp2_with fail
    go_ret
    exact ⟨rfl, Below.drewN HB7.out n7⟩

theorem lifted (os : Os) (started : os.Started) (H : Type) (enc : TypeId × Value → H) :
    ReturnsInHanded {} Try.checked os 6 .any (Rows.timerAnewSpec.pre6 enc Try.prog Try.f6 Rows.timerAnewRow.domain false) (Rows.timerAnewSpec.post enc Try.prog Try.f6 false true false false) := by
  refine returnsInHanded_of_change (C := Try.checked) own started (by kernel_rfl) Try.func6
    (ChangeSpec.witness6 (enc := enc) (C := Try.checked) false ⟨#[], #[.int .i64 0, .int .i64 0, .int .i64 0], []⟩ 8 (by kernel_rfl) (by kernel_rfl) (by kernel_rfl) (by kernel_rfl)) ?_
  intro W base args ds gs before hval0 hW hcnd _
  have hval : ∀ (j : Nat) t v, Try.f6.params[j]? = some t → args[j]? = some v → Value.okWide Try.prog W .any base t v := hval0
  have hW' := hW
  obtain ⟨p, q, hA0, hV, rfl, hfz, hnd⟩ := hW
  have hA : DataW.TrodAll enc Try.prog W 0 (fun _ => true) true Try.f6.params.toList args.toList ds p := hA0
  rw [Try.params6] at hA hval
  obtain ⟨v0, vs0, d0, ds0, p0, q0, hargs, rfl, rfl, h0, r0⟩ := trodAll_cons hA
  obtain ⟨v1, vs1, d1, ds1, p1, q1, rfl, rfl, rfl, h1, r1⟩ := trodAll_cons r0
  obtain ⟨v2, vs2, d2, ds2, p2, q2, rfl, rfl, rfl, h2, r2⟩ := trodAll_cons r1
  obtain ⟨rfl, rfl, rfl⟩ := trodAll_nil r2
  obtain rfl : args = #[v0, v1, v2] := by cases args; simp_all
  obtain ⟨rfl, rfl⟩ := trodVars_none hV
  obtain ⟨a0, rfl, rfl, rfl, w0⟩ := open_int Try.underlying2 (hval 0 2 v0 rfl rfl) h0
  obtain ⟨a1, rfl, rfl, rfl, w1⟩ := open_int Try.underlying2 (hval 1 2 v1 rfl rfl) h1
  obtain ⟨a2, rfl, rfl, rfl, w2⟩ := open_int Try.underlying3 (hval 2 3 v2 rfl rfl) h2
  clear hA0 hval0
  refine (walk a0 a1 a2 W w0 w1 w2).mono fun e W' ⟨he, bel⟩ => ?_
  subst he
  exact ⟨_, rfl, _, _, _, [], _, [], hW', trodAll_mk1 (shut_bool Try.underlying4 _), (trodAll_cons_mk (shut_int Try.underlying2 w0) (trodAll_cons_mk (shut_int Try.underlying2 w1) (trodAll_cons_mk (shut_int Try.underlying3 w2) trodAll_mk0))), rfl, bel.frame _, fun h => by cases h⟩

theorem over : Rows.timerAnewRow.holds Try.pinned (OpenSpec.ofChange Rows.timerAnewSpec) :=
  OpenClaim.holds_of_wide 6 Try.f6 rfl rfl rfl rfl rfl rfl rfl ⟨rfl, rfl, rfl, rfl, rfl⟩ rfl rfl rfl rfl rfl (by kernel_rfl) Try.func6 (by kernel_rfl)
    (of_decide_eq_true (by kernel_rfl)) (by unfold Func.isWrapper; first | (rw [if_pos (by decide +kernel)]; kernel_rfl) | (rw [if_neg (by decide +kernel)]; exact ⟨rfl, rfl⟩))
    (fun os started H enc _ => lifted os started H enc)

theorem proved : Rows.TimerAnewSaid := over
#print axioms proved
end Go.Proofs.Ytkhceigfmaajdaa.timerAnew
