/-
  PROVED: for every input the law TimerFull returns true and leaves its arguments as they were: as many timers as may run, and one more; one that runs may be started anew. No condition.
-/
import Derived.Test.YtkhceigfmaajdaaRows
import Derived.Test.YtkhceigfmaajdaaT11
import Derived.WalkKit
import Derived.ProofKit
import Derived.OpenShut
import Derived.ShutString
import Derived.ChangeOld
import Derived.Below
namespace Go.Proofs.Ytkhceigfmaajdaa.timerFull
open Go.ChangeShapes Go.WideShapes Go.ChangeAt Go.RowKit
open Go.ChangeMaps (open_string shut_string)
set_option linter.unusedVariables false
set_option maxRecDepth 100000

theorem own : ownKnob Try.prog.godebug = none := by kernel_rfl
theorem laidOut : laidOutB Try.prog = true := by kernel_rfl

theorem i64_in {n : Int} (h : (Lit.int .i64 n).wf = true) : -9223372036854775808 ≤ n ∧ n ≤ 9223372036854775807 := by
  simp only [Lit.wf, Bool.and_eq_true, decide_eq_true_eq] at h
  exact h

theorem u8_nat {n : Int} (h : (Lit.int .u8 n).wf = true) : ∃ k : Nat, n = (k : Int) ∧ k < 256 := by
  simp only [Lit.wf, Bool.and_eq_true, decide_eq_true_eq] at h
  rw [show IntKind.u8.min = 0 from by decide, show IntKind.u8.max = 255 from by decide] at h
  exact ⟨n.toNat, by omega, by omega⟩

theorem full_all {l : List (Int × Int)} {at_ : Int} (hg : Good l) (h : Upto l (fun _ => at_) 32) (k : Nat) (hk : k < 32) :
    (startE l 32 = 6 ∧ startL l 32 at_ = l) ∧ (startE l (-1) = 6 ∧ startL l (-1) at_ = l) ∧ (startE l (k : Int) = 0 ∧ (startL l (k : Int) at_).length = 32) ∧ hasL (startL l (k : Int) at_) (k : Int) = true ∧
      startE (stopL (startL l (k : Int) at_) (k : Int)) 32 = 0 ∧ hasL (startL (stopL (startL l (k : Int) at_) (k : Int)) 32 at_) (k : Int) = false := by
  have f1 : fullL l 32 = true := full_yes (h.hasn (by omega)) h.len
  have f2 : fullL l (-1) = true := full_yes (h.hasn (by omega)) h.len
  have hh : hasL l (k : Int) = true := (h.has _).2 ⟨by omega, by omega⟩
  have f3 : fullL l (k : Int) = false := full_has hh
  have hs := stop_len hg (k : Int)
  rw [hh, h.len] at hs
  simp at hs
  have hl1 : (startL l (k : Int) at_).length = 32 := by rw [start_len _ _ f3]; omega
  have hh1 : hasL (startL l (k : Int) at_) (k : Int) = true := by rw [has_start _ _ _ _ f3]; simp
  have hg1 := start_good hg (k : Int) at_
  have hs1 := stop_len hg1 (k : Int)
  rw [hh1, hl1] at hs1
  simp at hs1
  have f4 : fullL (stopL (startL l (k : Int) at_) (k : Int)) 32 = false := full_no (by omega)
  refine ⟨⟨startE_full f1, startL_full f1⟩, ⟨startE_full f2, startL_full f2⟩, ⟨startE_ok f3, hl1⟩, hh1, startE_ok f4, ?_⟩
  rw [has_start _ _ _ _ f4, has_stop]
  have : ¬ (32 : Int) = (k : Int) := by omega
  simp [this]

set_option maxHeartbeats 8000000 in
theorem walk (a0 : Int) (a1 : Int) (w : World) (w0 : (Lit.int .u8 a0).wf = true) (w1 : (Lit.int .i64 a1).wf = true) :
    Calls Try.prog 5 #[.int .u8 a0, .int .i64 a1] w fun e w' => e = .returned (.bool true) ∧ Below w.heap.size w w' := by
  have HI1 := Lib.hid (i64_in w1)
  obtain ⟨m, hm, hm2⟩ := u8_nat w0
  subst hm
  obtain ⟨k, hk⟩ : ∃ k, k = m % 32 := ⟨_, rfl⟩
  have hk1 : k < 32 := by omega
  have hk2 : (m : Int).tmod 32 = (k : Int) := by rw [Int.tmod_eq_emod_of_nonneg (by omega)]; omega
  have hk3 : (m : Int) % 32 = (k : Int) := by omega
  have hk4 : IntKind.i64.wrap (k : Int) = (k : Int) := IntWalk.i64_in _ (by omega)
  clear w0 w1 hk
  have HB0 := Lib.hid (Below.refl w.heap.size w)
  obtain ⟨B0, hB0⟩ : ∃ n, n = w.heap.size := ⟨_, rfl⟩
  have HBE := Lib.hid hB0
  go_enter Try.func5, Try.ntmps5
  go_wp2_with fail
  refine (three_any w).mono ?_; rintro e x1 ⟨rfl, hb1⟩
  have HB1 := Lib.hid hb1
  clear hb1
  go_wp2_with fail
  refine (ts_new w x1 _ HB1.out.size HB1.out).mono ?_; rintro e x2 ⟨g, rfl, ht2, -⟩
  have HT2 := Lib.hid ht2
  clear ht2 hB0
  go_wp2_with fail
  go_loopw [6] (fun t wr => ∃ i : Nat, i ≤ 32 ∧ t = .int .i64 i ∧ Hid (∃ l, Upto l (fun _ => a1) i ∧ TS w wr w.heap.size g l)) (fun t _ => 32 - (intOf t).toNat)
  case atStart => exact ⟨0, by omega, rfl, [], Upto.nil _, HT2.out⟩
  case round =>
    obtain ⟨i, hi, rfl, HJ⟩ := hrel
    obtain ⟨l, hu, ht⟩ := HJ.out
    have HU := Lib.hid hu; have HT := Lib.hid ht
    clear hu ht HJ
    by_cases hlt : i < 32
    · have HN := Lib.hid (HU.out.next hlt)
      go_wp2_with fail
      refine (ts_start w wr _ g l (i : Int) a1 HT.out HI1.out.1 HI1.out.2).mono ?_; rintro e y1 ⟨rfl, ht, -⟩
      rw [HN.out.1]
      have HNX : Hid (∃ l, Upto l (fun _ => a1) (i + 1) ∧ TS w y1 w.heap.size g l) := ⟨_, HN.out.2, ht⟩
      clear ht
      go_wp2_with fail
      go_roundw
      case rel => exact ⟨i + 1, by omega, by go_num, HNX⟩
      case measure => simp [intOf]; omega
    · have HU2 : Hid (Upto l (fun _ => a1) 32) := by have e : i = 32 := by omega
                                                     rw [← e]; exact HU.out
      have HA := Lib.hid (full_all HT.out.good HU2.out k hk1)
      go_wp2_with fail
      refine (ts_start w wr _ g l 32 a1 HT.out HI1.out.1 HI1.out.2).mono ?_; rintro e y1 ⟨rfl, ht, -⟩
      rw [HA.out.1.1]
      rw [HA.out.1.2] at ht
      have HT1 := Lib.hid ht
      clear ht
      go_wp2_with fail
      refine (ts_start w y1 _ g l (-1) a1 HT1.out HI1.out.1 HI1.out.2).mono ?_; rintro e y2 ⟨rfl, ht, -⟩
      rw [HA.out.2.1.1]
      rw [HA.out.2.1.2] at ht
      have HT2 := Lib.hid ht
      clear ht
      go_wp2_with fail
      refine (ts_start w y2 _ g l (k : Int) a1 HT2.out HI1.out.1 HI1.out.2).mono ?_; rintro e y3 ⟨rfl, ht, -⟩
      rw [HA.out.2.2.1.1]
      have HT3 := Lib.hid ht
      clear ht
      go_wp2_with fail
      refine (ts_len w y3 _ g _ HT3.out).mono ?_; rintro e w' ⟨rfl, rfl⟩
      rw [HA.out.2.2.1.2]
      go_wp2_with fail
      refine (ts_stop w y3 _ g _ (k : Int) HT3.out).mono ?_; rintro e y4 ⟨rfl, ht, -⟩
      rw [HA.out.2.2.2.1]
      have HT4 := Lib.hid ht
      clear ht
      go_wp2_with fail
      refine (ts_start w y4 _ g _ 32 a1 HT4.out HI1.out.1 HI1.out.2).mono ?_; rintro e y5 ⟨rfl, ht, -⟩
      rw [HA.out.2.2.2.2.1]
      have HT5 := Lib.hid ht
      clear ht
      go_wp2_with fail
      refine (ts_stop w y5 _ g _ (k : Int) HT5.out).mono ?_; rintro e y6 ⟨rfl, ht, -⟩
      rw [HA.out.2.2.2.2.2]
      have HT6 := Lib.hid ht
      clear ht
      go_wp2_with fail
      go_ret
      exact ⟨rfl, HT6.out.below⟩

theorem lifted (os : Os) (started : os.Started) (H : Type) (enc : TypeId × Value → H) :
    ReturnsInHanded {} Try.checked os 5 .any (Rows.timerFullSpec.pre6 enc Try.prog Try.f5 Rows.timerFullRow.domain false) (Rows.timerFullSpec.post enc Try.prog Try.f5 false true false false) := by
  refine returnsInHanded_of_change (C := Try.checked) own started (by kernel_rfl) Try.func5
    (ChangeSpec.witness6 (enc := enc) (C := Try.checked) false ⟨#[], #[.int .u8 0, .int .i64 0], []⟩ 8 (by kernel_rfl) (by kernel_rfl) (by kernel_rfl) (by kernel_rfl)) ?_
  intro W base args ds gs before hval0 hW hcnd _
  have hval : ∀ (j : Nat) t v, Try.f5.params[j]? = some t → args[j]? = some v → Value.okWide Try.prog W .any base t v := hval0
  have hW' := hW
  obtain ⟨p, q, hA0, hV, rfl, hfz, hnd⟩ := hW
  have hA : DataW.TrodAll enc Try.prog W 0 (fun _ => true) true Try.f5.params.toList args.toList ds p := hA0
  rw [Try.params5] at hA hval
  obtain ⟨v0, vs0, d0, ds0, p0, q0, hargs, rfl, rfl, h0, r0⟩ := trodAll_cons hA
  obtain ⟨v1, vs1, d1, ds1, p1, q1, rfl, rfl, rfl, h1, r1⟩ := trodAll_cons r0
  obtain ⟨rfl, rfl, rfl⟩ := trodAll_nil r1
  obtain rfl : args = #[v0, v1] := by cases args; simp_all
  obtain ⟨rfl, rfl⟩ := trodVars_none hV
  obtain ⟨a0, rfl, rfl, rfl, w0⟩ := open_int Try.underlying5 (hval 0 5 v0 rfl rfl) h0
  obtain ⟨a1, rfl, rfl, rfl, w1⟩ := open_int Try.underlying2 (hval 1 2 v1 rfl rfl) h1
  clear hA0 hval0
  refine (walk a0 a1 W w0 w1).mono fun e W' ⟨he, bel⟩ => ?_
  subst he
  exact ⟨_, rfl, _, _, _, [], _, [], hW', trodAll_mk1 (shut_bool Try.underlying4 _), (trodAll_cons_mk (shut_int Try.underlying5 w0) (trodAll_cons_mk (shut_int Try.underlying2 w1) trodAll_mk0)), rfl, bel.frame _, fun h => by cases h⟩

theorem over : Rows.timerFullRow.holds Try.pinned (OpenSpec.ofChange Rows.timerFullSpec) :=
  OpenClaim.holds_of_wide 5 Try.f5 rfl rfl rfl rfl rfl rfl rfl ⟨rfl, rfl, rfl, rfl, rfl⟩ rfl rfl rfl rfl rfl (by kernel_rfl) Try.func5 (by kernel_rfl)
    (of_decide_eq_true (by kernel_rfl)) (by unfold Func.isWrapper; first | (rw [if_pos (by decide +kernel)]; kernel_rfl) | (rw [if_neg (by decide +kernel)]; exact ⟨rfl, rfl⟩))
    (fun os started H enc _ => lifted os started H enc)

theorem proved : Rows.TimerFullSaid := over
#print axioms proved
end Go.Proofs.Ytkhceigfmaajdaa.timerFull
