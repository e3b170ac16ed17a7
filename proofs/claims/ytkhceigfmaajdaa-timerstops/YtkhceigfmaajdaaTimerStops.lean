/-
  PROVED: for every input the law TimerStops returns true and leaves its arguments as they were: a timer that was stopped doesn't end; the others do, as if it had never been. No condition.
-/
import Derived.Test.YtkhceigfmaajdaaRows
import Derived.Test.YtkhceigfmaajdaaT14
import Derived.WalkKit
import Derived.ProofKit
import Derived.OpenShut
import Derived.ShutString
import Derived.ChangeOld
import Derived.Below
namespace Go.Proofs.Ytkhceigfmaajdaa.timerStops
open Go.ChangeShapes Go.WideShapes Go.ChangeAt Go.RowKit
open Go.ChangeMaps (open_string shut_string)
set_option linter.unusedVariables false
set_option maxRecDepth 100000

theorem own : ownKnob Try.prog.godebug = none := by kernel_rfl
theorem laidOut : laidOutB Try.prog = true := by kernel_rfl

/-- What is known of a slice of integers that came in: nil, or a row of 'cap' cells. -/
def IsRow (k : IntKind) (w : World) (a : Option Addr) (len cap : Nat) (zs : List Int) : Prop :=
  (a = none ∧ len = 0 ∧ cap = 0 ∧ zs = []) ∨
  ∃ x, a = some x ∧ len ≤ cap ∧ cap ≤ maxLen ∧ zs.length = cap ∧ (∀ i, i < zs.length → w.cell? (x.add i) = some (.int k (zs.getD i 0))) ∧ ∀ n ∈ zs, (Lit.int k n).wf = true

theorem u8_nat {n : Int} (h : (Lit.int .u8 n).wf = true) : ∃ k : Nat, n = (k : Int) ∧ k < 256 := by
  simp only [Lit.wf, Bool.and_eq_true, decide_eq_true_eq] at h
  rw [show IntKind.u8.min = 0 from by decide, show IntKind.u8.max = 255 from by decide] at h
  exact ⟨n.toNat, by omega, by omega⟩

theorem list_le {q : List Int} (hq : ∀ x ∈ q, -9223372036854775808 ≤ x ∧ x ≤ 9223372036854775807) (i : Nat) (hi : i < q.length) : -9223372036854775808 ≤ q[i] ∧ q[i] ≤ 9223372036854775807 := hq _ (List.getElem_mem _)

set_option maxHeartbeats 8000000 in
theorem walk (a0 : Option Addr) (len0 cap0 : Nat) (z0 : List Int) (a1 : Int) (a2 : Int) (w : World) (w0 : IsRow .i64 w a0 len0 cap0 z0) (w1 : (Lit.int .u8 a1).wf = true) (w2 : (Lit.int .i64 a2).wf = true) :
    Calls Try.prog 8 #[.slice a0 len0 cap0, .int .u8 a1, .int .i64 a2] w fun e w' => e = .returned (.bool true) ∧ Below w.heap.size w w' := by
  obtain ⟨q, hql, hrd, hqr, hl63⟩ := arg64 w0
  have HI2 := Lib.hid (i64_in w2)
  obtain ⟨m, hm, hm2⟩ := u8_nat w1
  subst hm
  have HRD := Lib.hid hrd; have HQR := Lib.hid hqr; have HQL := Lib.hid hql
  clear w0 w1 w2 hrd hqr hql
  have HB0 := Lib.hid (Below.refl w.heap.size w)
  by_cases hbig : 30 < len0
  · have hbig2 : (30 : Int) < (len0 : Int) := by omega
    go_enter Try.func8, Try.ntmps8
    go_wp2_with fail
    refine (three_any w).mono ?_; rintro e x1 ⟨rfl, hb1⟩
    have HB1 := Lib.hid hb1
    clear hb1
    go_wp2_with fail
    refine (three_any x1).mono ?_; rintro e x2 ⟨rfl, hb2⟩
    have HB2 := Lib.hid (HB1.out.trans (hb2.mono HB1.out.size))
    clear hb2
    go_wp2_with fail
    go_ret
    exact ⟨rfl, HB2.out⟩
  · have hbig2 : ¬ (30 : Int) < (len0 : Int) := by omega
    obtain ⟨k, hk⟩ : ∃ k, k = m % (len0 + 1) := ⟨_, rfl⟩
    have hk1 : k ≤ len0 := by have := Nat.mod_lt m (show 0 < len0 + 1 by omega); omega
    have hk2 : (m : Int) % ((len0 : Int) + 1) = (k : Int) := by rw [hk]; exact (Int.natCast_emod m (len0 + 1)).symm
    have hk3 : (m : Int).tmod ((len0 : Int) + 1) = (k : Int) := by rw [Int.tmod_eq_emod_of_nonneg (by omega)]; exact hk2
    have hk4 : ¬ (len0 : Int) + 1 = 0 := by omega
    have hk5 : ((len0 : Int) + 1 == 0) = false := by simpa using hk4
    clear hk
    go_enter Try.func8, Try.ntmps8
    go_wp2_with fail
    refine (three_any w).mono ?_; rintro e x1 ⟨rfl, hb1⟩
    have HB1 := Lib.hid hb1
    clear hb1
    go_wp2_with fail
    refine (ts_new w x1 _ HB1.out.size HB1.out).mono ?_; rintro e x2 ⟨g1, rfl, ht2, -⟩
    have HT2 := Lib.hid ht2
    clear ht2
    go_wp2_with fail
    refine (tt_new w x2 _ g1 [] HT2.out).mono ?_; rintro e x3 ⟨g2, rfl, ht3⟩
    have HT3 := Lib.hid ht3
    clear ht3
    go_wp2_with fail
    go_loopw [10] (fun t wr => ∃ i : Nat, i ≤ len0 ∧ t = .int .i64 i ∧ Hid (∃ l, Upto l (fun j => q.getD j 0) i ∧ TT w wr w.heap.size g1 g2 l (stopL l (k : Int)))) (fun t _ => len0 - (intOf t).toNat)
    case atStart => exact ⟨0, Nat.zero_le _, rfl, [], Upto.nil _, HT3.out⟩
    case round =>
      obtain ⟨i, hi, rfl, HJ⟩ := hrel
      obtain ⟨l, hu, ht⟩ := HJ.out
      have HU := Lib.hid hu; have HT := Lib.hid ht
      clear hu ht HJ
      by_cases hlt : i < len0
      · have HN := Lib.hid (HU.out.next (by omega))
        have HLN : Hid (l.length < 32) := by show _ < _; rw [HU.out.len]; omega
        have hiq : i < q.length := by have := HQL.out; omega
        obtain ⟨b, o, hA, hb, c0⟩ := HRD.out.at (ivals_get q i hiq)
        subst hA
        have e0 := (HT.out.below.cell (p := ⟨b, o + i, none⟩) hb).trans c0
        have HYR := Lib.hid (list_le HQR.out i hiq)
        have HYE : Hid (q.getD i 0 = q[i]) := by show _ = _; simp [List.getD, hiq]
        generalize q[i] = y at *
        rw [HYE.out] at HN
        have HC0 := Lib.hid c0
        have HBB := Lib.hid hb
        clear c0 hb
        go_wp2_with fail
        refine (tt_start w wr _ g1 g2 l _ (i : Int) y HT.out HYR.out.1 HYR.out.2).mono ?_; rintro e y1 ⟨rfl, ht, -⟩
        have HT1 := Lib.hid ht
        clear ht e0
        by_cases hik : i = k
        · have hik2 : ((i : Int) == (k : Int)) = true := by simp [hik]
          have HNX : Hid (∃ l, Upto l (fun j => q.getD j 0) (i + 1) ∧ TT w y1 w.heap.size g1 g2 l (stopL l (k : Int))) := ⟨_, HN.out.2, by
            have h := HT1.out
            rw [hik] at h ⊢
            rw [start_struck HT.out.good1 _ _ HLN.out]
            exact h⟩
          clear hik
          go_wp2_with fail
          go_roundw
          case rel => exact ⟨i + 1, by omega, by go_num, HNX⟩
          case measure => simp [intOf]; omega
        · have hik2 : ((i : Int) == (k : Int)) = false := by rw [beq_eq_false_iff_ne]; omega
          have e1 := (HT1.out.below.cell (p := ⟨b, o + i, none⟩) HBB.out).trans HC0.out
          have HSB := Lib.hid (start_beside HT.out.good1 (i : Int) y (k : Int) HLN.out (by omega))
          clear hik
          go_wp2_with fail
          refine (tt_start w y1 _ g2 g1 _ _ (i : Int) y HT1.out.swap HYR.out.1 HYR.out.2).mono ?_; rintro e y2 ⟨rfl, ht, -⟩
          have HNX : Hid (∃ l, Upto l (fun j => q.getD j 0) (i + 1) ∧ TT w y2 w.heap.size g1 g2 l (stopL l (k : Int))) := ⟨_, HN.out.2, by
            have h := ht.swap
            rw [HSB.out] at h
            exact h⟩
          clear ht e1
          go_wp2_with fail
          go_roundw
          case rel => exact ⟨i + 1, by omega, by go_num, HNX⟩
          case measure => simp [intOf]; omega
      · have HU2 : Hid (Upto l (fun j => q.getD j 0) len0) := by have e : i = len0 := by omega
                                                                 rw [← e]; exact HU.out
        have HHS : Hid (hasL l (k : Int) = decide ((k : Int) < (len0 : Int))) := by
          show _ = _
          rw [Bool.eq_iff_iff, HU2.out.has, decide_eq_true_eq]
          constructor
          · exact fun h => h.2
          · exact fun h => ⟨by omega, h⟩
        have HNE := Lib.hid (no_end l (k : Int) a2)
        go_wp2_with fail
        refine (tt_stop w wr _ g1 g2 l _ (k : Int) HT.out).mono ?_; rintro e y1 ⟨rfl, ht, -⟩
        rw [HHS.out]
        have HT1 := Lib.hid ht
        have HGL : Hid ((stopL l (k : Int)).length ≤ 32) := ht.good1.len
        clear ht HT HU HU2
        obtain ⟨L, hL⟩ : ∃ L, L = stopL l (k : Int) := ⟨_, rfl⟩
        rw [← hL] at HT1 HGL HNE
        clear hL
        obtain ⟨bo, hbo⟩ : ∃ b, decide ((k : Int) < (len0 : Int)) = b := ⟨_, rfl⟩
        rw [hbo]
        have hbo2 : decide (k < len0) = bo := by rw [← hbo]; simp
        have hbb : (bo == bo) = true := by simp
        go_wp2_with fail
        refine (ts_len w y1 _ g1 L HT1.out.fst).mono ?_; rintro e w' ⟨rfl, rfl⟩
        go_wp2_with fail
        refine (ts_len w y1 _ g2 L HT1.out.snd).mono ?_; rintro e w' ⟨rfl, rfl⟩
        have hll : ((L.length : Int) == (L.length : Int)) = true := by simp
        go_wp2_with fail
        clear hll
        refine (tt_ended w y1 _ g1 g2 L L a2 HT1.out).mono ?_; rintro e y2 ⟨v2, rfl, ho2, ht2, -⟩
        have HT2' := Lib.hid ht2; have HO2 := Lib.hid ho2
        obtain ⟨A2, c2, hA2⟩ := own_slice ho2
        subst hA2
        clear ht2 ho2
        go_wp2_with fail
        refine (tt_ended w y2 _ g2 g1 L _ a2 HT2'.out.swap).mono ?_; rintro e y3 ⟨v3, rfl, ho3, ht3, hk3'⟩
        have HT3' := Lib.hid ht3.swap; have HO3 := Lib.hid ho3
        have HO2' := Lib.hid (hk3'.own HO2.out (by decide) (by decide))
        obtain ⟨A3, c3, hA3⟩ := own_slice ho3
        subst hA3
        clear ht3 ho3 hk3' HO2
        go_wp2_with fail
        refine (ts_left w y3 _ g1 _ (k : Int) a2 HT3'.out.fst HI2.out.1 HI2.out.2).mono ?_; rintro e y4 ⟨rfl, hb4⟩
        rw [HNE.out.2]
        have HT4 := Lib.hid (HT3'.out.call hb4)
        have HOA := Lib.hid (Rd.of_own (own_below HO2'.out hb4)); have HOB := Lib.hid (Rd.of_own (own_below HO3.out hb4))
        have HLE : Hid (((endL L a2).map Prod.fst).length ≤ 1000) := by
          show _ ≤ _
          rw [List.length_map]
          have : (endL L a2).length ≤ L.length := List.length_filter_le _ _
          have := HGL.out
          omega
        clear hb4
        go_wp2_with fail
        refine (ints_any y4 _ _ _ _ _ HOA.out HOB.out (by have := HLE.out; omega)).mono ?_; rintro e y5 ⟨rfl, n5, rfl⟩
        rw [show decide ((endL L a2).map Prod.fst = (endL L a2).map Prod.fst) = true from decide_eq_true rfl]
        have HT5 := Lib.hid (HT4.out.call (Below.drewN (Below.refl _ _) n5))
        have HOA5 := Lib.hid (HOA.out.below (Below.drewN (Below.refl y4.heap.size y4) n5) (Nat.le_refl _))
        generalize y4.drewN n5 = y6 at *
        clear HOA HOB
        go_wp2_with fail
        refine (refHas_any y6 _ _ _ (k : Int) HOA5.out (by have := HLE.out; omega)).mono ?_; rintro e w' ⟨rfl, rfl⟩
        rw [HNE.out.1]
        go_wp2_with fail
        go_ret
        exact ⟨rfl, HT5.out.below⟩

theorem lifted (os : Os) (started : os.Started) (H : Type) (enc : TypeId × Value → H) :
    ReturnsInHanded {} Try.checked os 8 .any (Rows.timerStopsSpec.pre6 enc Try.prog Try.f8 Rows.timerStopsRow.domain false) (Rows.timerStopsSpec.post enc Try.prog Try.f8 false true false false) := by
  refine returnsInHanded_of_change (C := Try.checked) own started (by kernel_rfl) Try.func8
    (ChangeSpec.witness6 (enc := enc) (C := Try.checked) false ⟨#[], #[.slice none 0 0, .int .u8 0, .int .i64 0], []⟩ 8 (by kernel_rfl) (by kernel_rfl) (by kernel_rfl) (by kernel_rfl)) ?_
  intro W base args ds gs before hval0 hW hcnd _
  have hval : ∀ (j : Nat) t v, Try.f8.params[j]? = some t → args[j]? = some v → Value.okWide Try.prog W .any base t v := hval0
  have hW' := hW
  obtain ⟨p, q, hA0, hV, rfl, hfz, hnd⟩ := hW
  have hA : DataW.TrodAll enc Try.prog W 0 (fun _ => true) true Try.f8.params.toList args.toList ds p := hA0
  rw [Try.params8] at hA hval
  obtain ⟨v0, vs0, d0, ds0, p0, q0, hargs, rfl, rfl, h0, r0⟩ := trodAll_cons hA
  obtain ⟨v1, vs1, d1, ds1, p1, q1, rfl, rfl, rfl, h1, r1⟩ := trodAll_cons r0
  obtain ⟨v2, vs2, d2, ds2, p2, q2, rfl, rfl, rfl, h2, r2⟩ := trodAll_cons r1
  obtain ⟨rfl, rfl, rfl⟩ := trodAll_nil r2
  obtain rfl : args = #[v0, v1, v2] := by cases args; simp_all
  obtain ⟨rfl, rfl⟩ := trodVars_none hV
  obtain ⟨a0, len0, cap0, rfl⟩ := okWide_slice Try.underlying46 (hval 0 46 v0 rfl rfl)
  have k0 := h0
  have lt0 : ∀ x ∈ p0, x.block < W.heap.size := by obtain ⟨m, hm⟩ := k0; exact DataW.trod_lt m _ _ _ hm
  obtain ⟨z0, w0⟩ : ∃ zs, IsRow .i64 W a0 len0 cap0 zs := by
    obtain ⟨fuel, hf⟩ := h0
    rcases open_ints Try.underlying46 Try.underlying2 (by kernel_rfl) hf with ⟨hcs, _⟩ | ⟨x, l, c, zs, hcs, _, hl, hm, hz, _, hcell, hwz⟩
    · simp [Value.cells] at hcs
      obtain ⟨rfl, rfl, rfl⟩ := hcs
      exact ⟨[], .inl ⟨rfl, rfl, rfl, rfl⟩⟩
    · simp [Value.cells] at hcs
      obtain ⟨rfl, rfl, rfl⟩ := hcs
      exact ⟨zs, .inr ⟨_, rfl, hl, hm, by simpa using hz, hcell, hwz⟩⟩
  obtain ⟨a1, rfl, rfl, rfl, w1⟩ := open_int Try.underlying5 (hval 1 5 v1 rfl rfl) h1
  obtain ⟨a2, rfl, rfl, rfl, w2⟩ := open_int Try.underlying2 (hval 2 2 v2 rfl rfl) h2
  clear hA0 hval0
  refine (walk a0 len0 cap0 z0 a1 a2 W w0 w1 w2).mono fun e W' ⟨he, bel⟩ => ?_
  subst he
  exact ⟨_, rfl, _, _, _, [], _, [], hW', trodAll_mk1 (shut_bool Try.underlying4 _), (trodAll_cons_mk (Below.trod laidOut (by kernel_rfl) (of_decide_eq_true (by kernel_rfl)) k0 bel lt0) (trodAll_cons_mk (shut_int Try.underlying5 w1) (trodAll_cons_mk (shut_int Try.underlying2 w2) trodAll_mk0))), rfl, bel.frame _, fun h => by cases h⟩

theorem over : Rows.timerStopsRow.holds Try.pinned (OpenSpec.ofChange Rows.timerStopsSpec) :=
  OpenClaim.holds_of_wide 8 Try.f8 rfl rfl rfl rfl rfl rfl rfl ⟨rfl, rfl, rfl, rfl, rfl⟩ rfl rfl rfl rfl rfl (by kernel_rfl) Try.func8 (by kernel_rfl)
    (of_decide_eq_true (by kernel_rfl)) (by unfold Func.isWrapper; first | (rw [if_pos (by decide +kernel)]; kernel_rfl) | (rw [if_neg (by decide +kernel)]; exact ⟨rfl, rfl⟩))
    (fun os started H enc _ => lifted os started H enc)

theorem proved : Rows.TimerStopsSaid := over
#print axioms proved
end Go.Proofs.Ytkhceigfmaajdaa.timerStops
