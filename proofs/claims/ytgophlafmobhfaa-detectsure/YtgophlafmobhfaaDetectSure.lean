/-
  PROVED: for every input the law DetectSure returns true and leaves its arguments as they were: a part that is told clear has been said to be so in that very step, and in all of its stay. No condition.
-/
import Derived.Test.YtgophlafmobhfaaRows
import Derived.Test.YtgophlafmobhfaaD7
import Derived.Test.YtgophlafmobhfaaD8
import Derived.WalkKit
import Derived.ProofKit
import Derived.OpenShut
import Derived.ShutString
import Derived.ChangeOld
import Derived.Below
namespace Go.Proofs.Ytgophlafmobhfaa.detectSure
open Go.ChangeShapes Go.WideShapes Go.ChangeAt Go.RowKit
open Go.ChangeMaps (open_string shut_string)
set_option linter.unusedVariables false
set_option maxRecDepth 100000

theorem own : ownKnob Try.prog.godebug = none := by kernel_rfl
theorem laidOut : laidOutB Try.prog = true := by kernel_rfl

/-- What is known of a slice of integers that came in: nil, or a row of 'cap' cells. -/
def IsRow (k : IntKind) (w : World) (a : Option Addr) (len cap : Nat) (zs : List Int) : Prop :=
  (a = none ∧ len = 0 ∧ cap = 0 ∧ zs = []) ∨
  ∃ x, a = some x ∧ len ≤ cap ∧ cap ≤ maxLen ∧ zs.length = cap ∧ (∀ i, i < zs.length → w.cell? (x.add i) = some (.int k (zs.getD i 0))) ∧ ∀ n ∈ zs, (Lit.int k n).wf = true

theorem step_one (c : Nat → Int) (l : List Nat) (i : Nat) (h : i < l.length) (hc : c 0 = (cntL (l.take i) : Int)) : stepC c [l[i]] 0 = (cntL (l.take (i + 1)) : Int) := by
  rw [← cnt_snoc l i h]
  unfold stepC says
  rw [hc]; simp

/-- Told clear: what was said. -/
theorem sure_of (l : List Nat) (i m : Nat) (h : i < l.length) (ht : (m : Int) < (cntL (l.take (i + 1)) : Int)) (j : Nat) (hj : j ≤ m) : ∃ hk : i - j < l.length, j ≤ i ∧ l[i - j] = 0 := by
  have h1 := cnt_says (l.take (i + 1)) j (by omega)
  obtain ⟨a, b, c⟩ := h1
  have e : (l.take (i + 1)).length = i + 1 := by simp; omega
  have hji : j ≤ i := by omega
  refine ⟨by omega, hji, ?_⟩
  rw [List.getElem_take] at c
  have e2 : (l.take (i + 1)).length - 1 - j = i - j := by omega
  simpa only [e2] using c

set_option maxHeartbeats 8000000 in
theorem walk (a0 : Option Addr) (len0 cap0 : Nat) (z0 : List Int) (a1 : Int) (w : World) (w0 : IsRow .u8 w a0 len0 cap0 z0) (w1 : (Lit.int .u8 a1).wf = true) :
    Calls Try.prog 5 #[.slice a0 len0 cap0, .int .u8 a1] w fun e w' => e = .returned (.bool true) ∧ Below w.heap.size w w' := by
  obtain ⟨q, hql, hq256, hrd⟩ := arg_any w0
  obtain ⟨m, hm, hm2⟩ := u8_nat w1
  subst hm
  have HRD := Lib.hid hrd; have HQL := Lib.hid hql
  clear w0 w1 hrd hql hq256
  by_cases hbig : 200 < len0
  · have hbig2 : (200 : Int) < (len0 : Int) := by omega
    go_enter Try.func5, Try.ntmps5
    go_wp2_with fail
    refine (stays_any w).mono ?_; rintro e x1 ⟨rfl, hb⟩
    have HB1 := Lib.hid hb
    clear hb
    go_wp2_with fail
    refine (stays_any x1).mono ?_; rintro e x2 ⟨rfl, hb2⟩
    have HB2 := Lib.hid (HB1.out.trans (hb2.mono HB1.out.size))
    clear hb2
    go_wp2_with fail
    go_ret
    exact ⟨rfl, HB2.out⟩
  · have hbig2 : ¬ (200 : Int) < (len0 : Int) := by omega
    go_enter Try.func5, Try.ntmps5
    go_wp2_with fail
    refine (stays_any w).mono ?_; rintro e x1 ⟨rfl, hb⟩
    have HB1 := Lib.hid hb
    clear hb
    go_wp2_with fail
    refine (fs_new w x1 w.heap.size 1 (m : Int) HB1.out.size HB1.out).mono ?_; rintro e x2 ⟨g, h, rfl, hf, -, -⟩
    rw [show partsN 1 = 1 from rfl, show stayS (m : Int) = (m : Int) by unfold stayS; omega] at hf
    have HF := Lib.hid hf
    clear hf
    go_wp2_with fail
    go_loopw [6] (fun t wr => ∃ i : Nat, i ≤ len0 ∧ t = .int .i64 i ∧ Hid (∃ c, c 0 = (cntL (q.take i) : Int) ∧ FS w wr w.heap.size g h 1 c (m : Int))) (fun t _ => len0 - (intOf t).toNat)
    case atStart => exact ⟨0, Nat.zero_le _, rfl, (fun _ => 0), rfl, HF.out⟩
    case round =>
      obtain ⟨i, hi, rfl, HJ⟩ := hrel
      obtain ⟨c, hc, hf⟩ := HJ.out
      by_cases hlt : i < len0
      · have hiq : i < q.length := by have := HQL.out; omega
        obtain ⟨b, o, hA, hcap, hra⟩ := Ra.sub HRD.out hf.below hf.fi.lo.2 i hiq
        subst hA
        have HRA := Lib.hid hra
        have HFC := Lib.hid hf
        have HC2 := Lib.hid (step_one c q i hiq hc)
        have hsub : ¬ cap0 = i := by omega
        have hle1 : i + 1 ≤ cap0 := by omega
        have hle2 : (i : Int) + 1 ≤ (cap0 : Int) := by omega
        have hwi : IntKind.i64.wrap ((i : Int) + 1) = (i : Int) + 1 := IntWalk.i64_in _ (by omega)
        clear hra hf HJ hc HF
        go_wp2_with fail
        refine (fs_step w _ _ g h 1 c _ [q[i]] _ HFC.out HRA.out).mono ?_; rintro e w2 ⟨k2, rfl, _, hf, hr, _⟩
        have HF2 := Lib.hid hf
        obtain ⟨tb, htb⟩ : ∃ b, toldC (stepC c [q[i]]) (m : Int) 0 = b := ⟨_, rfl⟩
        have c0 := (told_row hr htb).cell 0
        simp only [cvals, List.map_cons, List.map_nil, List.getElem?_toArray, List.getElem?_cons_zero] at c0
        have HSU : Hid (tb = true → ∀ j, j ≤ m → ∃ hk : i - j < q.length, j ≤ i ∧ q[i - j] = 0) := by
          intro e
          rw [← htb] at e
          unfold toldC at e
          rw [HC2.out] at e
          exact sure_of q i m hiq (of_decide_eq_true e)
        clear hr htb hf HRA HFC hsub hle1 hle2 hwi
        cases tb with
        | false =>
          clear HSU
          go_wp2_with fail
          go_loopw [8] (fun t wr => t = .int .i64 0 ∧ wr = w2) (fun t _ => 0)
          case atStart => exact ⟨rfl, rfl⟩
          case round =>
            obtain ⟨rfl, hw2⟩ := hrel
            have hw3 := hw2.symm
            subst hw3
            have hm0 : (0 : Int) ≤ (m : Int) := by omega
            go_wp2_with fail
            go_roundw
            case rel => exact ⟨i + 1, by omega, by go_num, _, HC2.out, HF2.out⟩
            case measure => simp [intOf]; omega
        | true =>
          go_wp2_with fail
          go_loopw [8] (fun t wr => ∃ j : Nat, j ≤ m + 1 ∧ t = .int .i64 j ∧ wr = w2) (fun t _ => m + 1 - (intOf t).toNat)
          case atStart => exact ⟨0, Nat.zero_le _, rfl, rfl⟩
          case round =>
            obtain ⟨j, hj, rfl, hw2⟩ := hrel
            have hw3 := hw2.symm
            subst hw3
            by_cases hjm : j ≤ m
            · obtain ⟨hk, hji, hz⟩ := HSU.out (by trivial) j hjm
              obtain ⟨b', o', hA', hb', c1⟩ := HRD.out.at (bvals_get q (i - j) hk)
              injection hA' with hA'
              injection hA' with h1 h2
              subst h1 h2
              have c2 := (HF2.out.below.cell (p := ⟨b, o + (i - j), none⟩) hb').trans c1
              rw [hz] at c2
              obtain ⟨p, hp⟩ : ∃ p, p = i - j := ⟨_, rfl⟩
              rw [← hp] at c2
              have hpi : (i : Int) - (j : Int) = (p : Int) := by omega
              have hpl : p < len0 := by omega
              have hpn : ¬ (p : Int) < 0 := by omega
              have hp0 : (0 : Int) ≤ (p : Int) := by omega
              have hpw : IntKind.i64.wrap (p : Int) = (p : Int) := IntWalk.i64_in _ (by omega)
              clear c1 hz hk hp hb'
              go_wp2_with fail
              exact ⟨⟨j + 1, by omega, by go_num, trivial⟩, by simp [intOf]; omega⟩
            · have hjm2 : ¬ (j : Int) ≤ (m : Int) := by omega
              go_wp2_with fail
              go_roundw
              case rel => exact ⟨i + 1, by omega, by go_num, _, HC2.out, HF2.out⟩
              case measure => simp [intOf]; omega
      · obtain HFC := Lib.hid hf.below
        clear hf HJ hc HF
        go_wp2_with fail
        go_ret
        exact ⟨rfl, HFC.out⟩

theorem lifted (os : Os) (started : os.Started) (H : Type) (enc : TypeId × Value → H) :
    ReturnsInHanded {} Try.checked os 5 .any (Rows.detectSureSpec.pre6 enc Try.prog Try.f5 Rows.detectSureRow.domain false) (Rows.detectSureSpec.post enc Try.prog Try.f5 false true false false) := by
  refine returnsInHanded_of_change (C := Try.checked) own started (by kernel_rfl) Try.func5
    (ChangeSpec.witness6 (enc := enc) (C := Try.checked) false ⟨#[], #[.slice none 0 0, .int .u8 0], []⟩ 8 (by kernel_rfl) (by kernel_rfl) (by kernel_rfl) (by kernel_rfl)) ?_
  intro W base args ds gs before hval0 hW hcnd _
  have hval : ∀ (j : Nat) t v, Try.f5.params[j]? = some t → args[j]? = some v → Value.okWide Try.prog W .any base t v := hval0
  have hW' := hW
  obtain ⟨p, q, hA0, hV, rfl, hfz, hnd⟩ := hW
  have hA : DataW.TrodAll enc Try.prog W 0 (fun _ => true) true Try.f5.params.toList args.toList ds p := hA0
  rw [Try.params5] at hA hval
  obtain ⟨v0, vs0, d0, ds0, p0, q0, hargs, rfl, rfl, h0, r0⟩ := trodAll_cons hA
  obtain ⟨v1, vs1, d1, ds1, p1, q1, rfl, rfl, rfl, h1, r1⟩ := trodAll_cons r0
  obtain ⟨rfl, rfl, rfl⟩ := trodAll_nil r1
  obtain rfl : args = #[v0, v1] := by cases args; simp_all
  obtain ⟨rfl, rfl⟩ := trodVars_none hV
  obtain ⟨a0, len0, cap0, rfl⟩ := okWide_slice Try.underlying28 (hval 0 28 v0 rfl rfl)
  have k0 := h0
  have lt0 : ∀ x ∈ p0, x.block < W.heap.size := by obtain ⟨m, hm⟩ := k0; exact DataW.trod_lt m _ _ _ hm
  obtain ⟨z0, w0⟩ : ∃ zs, IsRow .u8 W a0 len0 cap0 zs := by
    obtain ⟨fuel, hf⟩ := h0
    rcases open_ints Try.underlying28 Try.underlying5 (by kernel_rfl) hf with ⟨hcs, _⟩ | ⟨x, l, c, zs, hcs, _, hl, hm, hz, _, hcell, hwz⟩
    · simp [Value.cells] at hcs
      obtain ⟨rfl, rfl, rfl⟩ := hcs
      exact ⟨[], .inl ⟨rfl, rfl, rfl, rfl⟩⟩
    · simp [Value.cells] at hcs
      obtain ⟨rfl, rfl, rfl⟩ := hcs
      exact ⟨zs, .inr ⟨_, rfl, hl, hm, by simpa using hz, hcell, hwz⟩⟩
  obtain ⟨a1, rfl, rfl, rfl, w1⟩ := open_int Try.underlying5 (hval 1 5 v1 rfl rfl) h1
  clear hA0 hval0
  refine (walk a0 len0 cap0 z0 a1 W w0 w1).mono fun e W' ⟨he, bel⟩ => ?_
  subst he
  exact ⟨_, rfl, _, _, _, [], _, [], hW', trodAll_mk1 (shut_bool Try.underlying4 _), (trodAll_cons_mk (Below.trod laidOut (by kernel_rfl) (of_decide_eq_true (by kernel_rfl)) k0 bel lt0) (trodAll_cons_mk (shut_int Try.underlying5 w1) trodAll_mk0)), rfl, bel.frame _, fun h => by cases h⟩

theorem over : Rows.detectSureRow.holds Try.pinned (OpenSpec.ofChange Rows.detectSureSpec) :=
  OpenClaim.holds_of_wide 5 Try.f5 rfl rfl rfl rfl rfl rfl rfl ⟨rfl, rfl, rfl, rfl, rfl⟩ rfl rfl rfl rfl rfl (by kernel_rfl) Try.func5 (by kernel_rfl)
    (of_decide_eq_true (by kernel_rfl)) (by unfold Func.isWrapper; first | (rw [if_pos (by decide +kernel)]; kernel_rfl) | (rw [if_neg (by decide +kernel)]; exact ⟨rfl, rfl⟩))
    (fun os started H enc _ => lifted os started H enc)

theorem proved : Rows.DetectSureSaid := over
#print axioms proved
end Go.Proofs.Ytgophlafmobhfaa.detectSure
