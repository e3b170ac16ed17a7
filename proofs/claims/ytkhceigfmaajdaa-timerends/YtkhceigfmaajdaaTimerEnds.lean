/-
  PROVED: for every input the law TimerEnds returns true and leaves its arguments as they were: all that were started have ended by the last of their ticks, each once; none ahead of its own. No condition.
-/
import Derived.Test.YtkhceigfmaajdaaRows
import Derived.Test.YtkhceigfmaajdaaT13
import Derived.WalkKit
import Derived.ProofKit
import Derived.OpenShut
import Derived.ShutString
import Derived.ChangeOld
import Derived.Below
namespace Go.Proofs.Ytkhceigfmaajdaa.timerEnds
open Go.ChangeShapes Go.WideShapes Go.ChangeAt Go.RowKit
open Go.ChangeMaps (open_string shut_string)
set_option linter.unusedVariables false
set_option maxRecDepth 100000

theorem own : ownKnob Try.prog.godebug = none := by kernel_rfl
theorem laidOut : laidOutB Try.prog = true := by kernel_rfl

/-- What is known of a slice of integers that came in: nil, or a row of 'cap' cells. -/
def IsRow (k : IntKind) (w : World) (a : Option Addr) (len cap : Nat) (zs : List Int) : Prop :=
  (a = none ∧ len = 0 ∧ cap = 0 ∧ zs = []) ∨
  ∃ x, a = some x ∧ len ≤ cap ∧ cap ≤ maxLen ∧ zs.length = cap ∧ (∀ i, i < zs.length → w.cell? (x.add i) = some (.int k (zs.getD i 0))) ∧ ∀ n ∈ zs, (Lit.int k n).wf = true

theorem list_le {q : List Int} (hq : ∀ x ∈ q, -9223372036854775808 ≤ x ∧ x ≤ 9223372036854775807) (i : Nat) (hi : i < q.length) : -9223372036854775808 ≤ q[i] ∧ q[i] ≤ 9223372036854775807 := hq _ (List.getElem_mem _)

set_option maxHeartbeats 8000000 in
theorem walk (a0 : Option Addr) (len0 cap0 : Nat) (z0 : List Int) (a1 : Int) (w : World) (w0 : IsRow .i64 w a0 len0 cap0 z0) (w1 : (Lit.int .i64 a1).wf = true) :
    Calls Try.prog 4 #[.slice a0 len0 cap0, .int .i64 a1] w fun e w' => e = .returned (.bool true) ∧ Below w.heap.size w w' := by
  obtain ⟨q, hql, hrd, hqr, hl63⟩ := arg64 w0
  have HI1 := Lib.hid (i64_in w1)
  have HRD := Lib.hid hrd; have HQR := Lib.hid hqr; have HQL := Lib.hid hql
  clear w0 w1 hrd hqr hql
  have HB0 := Lib.hid (Below.refl w.heap.size w)
  obtain ⟨i3, hi3, hz30, hz31, hz32⟩ := info_parts Try.info3n
  by_cases hbig : 32 < len0
  · have hbig2 : (32 : Int) < (len0 : Int) := by omega
    go_enter Try.func4, Try.ntmps4
    go_wp2_with fail
    refine (three_any w).mono ?_; rintro e x1 ⟨rfl, hb1⟩
    have HB1 := Lib.hid hb1
    clear hb1
    go_wp2_with fail
    refine (three_any x1).mono ?_; rintro e x2 ⟨rfl, hb2⟩
    have HB2 := Lib.hid (HB1.out.trans (hb2.mono HB1.out.size))
    clear hb2
    go_wp2_with fail
    go_ret
    exact ⟨rfl, HB2.out⟩
  · have hbig2 : ¬ (32 : Int) < (len0 : Int) := by omega
    go_enter Try.func4, Try.ntmps4
    go_wp2_with fail
    refine (three_any w).mono ?_; rintro e x1 ⟨rfl, hb1⟩
    have HB1 := Lib.hid hb1
    clear hb1
    go_wp2_with fail
    refine (ts_new w x1 _ HB1.out.size HB1.out).mono ?_; rintro e x2 ⟨g, rfl, ht2, -⟩
    have HT2 := Lib.hid ht2
    clear ht2
    go_wp2_with fail
    go_loopw [6] (fun t wr => ∃ i : Nat, i ≤ len0 ∧ t = .int .i64 i ∧ Hid (∃ l, Upto l (fun j => q.getD j 0) i ∧ TS w wr w.heap.size g l)) (fun t _ => len0 - (intOf t).toNat)
    case atStart => exact ⟨0, Nat.zero_le _, rfl, [], Upto.nil _, HT2.out⟩
    case round =>
      obtain ⟨i, hi, rfl, HJ⟩ := hrel
      obtain ⟨l, hu, ht⟩ := HJ.out
      have HU := Lib.hid hu; have HT := Lib.hid ht
      clear hu ht HJ
      by_cases hlt : i < len0
      · have HN := Lib.hid (HU.out.next (by omega))
        have hiq : i < q.length := by have := HQL.out; omega
        obtain ⟨b, o, hA, hb, c0⟩ := HRD.out.at (ivals_get q i hiq)
        subst hA
        have e0 := (HT.out.below.cell (p := ⟨b, o + i, none⟩) hb).trans c0
        have HYR := Lib.hid (list_le HQR.out i hiq)
        have HYE : Hid (q.getD i 0 = q[i]) := by show _ = _; simp [List.getD, hiq]
        clear c0
        generalize q[i] = y at *
        rw [HYE.out] at HN
        go_wp2_with fail
        refine (ts_start w wr _ g l (i : Int) y HT.out HYR.out.1 HYR.out.2).mono ?_; rintro e y1 ⟨rfl, ht, -⟩
        rw [HN.out.1]
        have HNX : Hid (∃ l, Upto l (fun j => q.getD j 0) (i + 1) ∧ TS w y1 w.heap.size g l) := ⟨_, HN.out.2, ht⟩
        clear ht e0
        go_wp2_with fail
        go_roundw
        case rel => exact ⟨i + 1, by omega, by go_num, HNX⟩
        case measure => simp [intOf]; omega
      · have HU2 : Hid (Upto l (fun j => q.getD j 0) q.length) := by have e : i = q.length := by have := HQL.out; omega
                                                                     rw [← e]; exact HU.out
        have HSP := Lib.hid (split_of (cut := a1) HT.out.good HU2.out)
        go_wp2_with fail
        refine (ts_ended w wr _ g l a1 HT.out).mono ?_; rintro e x3 ⟨v3, rfl, ho3, ht3, -⟩
        obtain ⟨F, hF⟩ : ∃ F, F = (endL l a1).map Prod.fst := ⟨_, rfl⟩
        obtain ⟨l2, hl2⟩ : ∃ l2, l2 = restL l a1 := ⟨_, rfl⟩
        obtain ⟨nF, hnF⟩ : ∃ n, n = F.length := ⟨_, rfl⟩
        have hnE : (endL l a1).length = nF := by rw [hnF, hF, List.length_map]
        rw [hnE, ← hF] at ho3
        rw [← hl2] at ht3
        rw [← hF, ← hl2] at HSP
        have HO3 := Lib.hid ho3; have HT3 := Lib.hid ht3; have HNF := Lib.hid hnF
        obtain ⟨A3, c3, hA3⟩ := own_slice ho3
        subst hA3
        have hnF2 : nF ≤ len0 := by have := HSP.out.len; have := HQL.out; omega
        clear ho3 ht3 hF hl2 hnE hnF HU HU2 HT HT2 HB1 HB0
        go_wp2_with fail
        go_loopw [8] (fun t wr => ∃ i : Nat, i ≤ nF ∧ t = .int .i64 i ∧ wr = x3) (fun t _ => nF - (intOf t).toNat)
        case atStart => exact ⟨0, Nat.zero_le _, rfl, rfl⟩
        case round =>
          obtain ⟨k, hk, rfl, rfl⟩ := hrel
          by_cases hkl : k < nF
          · have hkF : k < F.length := by have := HNF.out; omega
            obtain ⟨j, hxj, hjq, hyc⟩ := HSP.out.first F[k] (List.getElem_mem _)
            obtain ⟨bf, of, hAf, -, c0⟩ := (Rd.of_own HO3.out).at (ivals_get F k hkF)
            subst hAf
            rw [hxj] at c0
            obtain ⟨b, o, hA, hb, c1⟩ := HRD.out.at (ivals_get q j hjq)
            subst hA
            have e1 := (HT3.out.below.cell (p := ⟨b, o + j, none⟩) hb).trans c1
            generalize q[j] = y at *
            have d1 : ¬ a1 < y := by omega
            have hj1 : (j : Int) < (len0 : Int) := by have := HQL.out; omega
            have hj2 : (0 : Int) ≤ (j : Int) := by omega
            have hj3 : ¬ (j : Int) < 0 := by omega
            have hj4 : ¬ (len0 : Int) ≤ (j : Int) := by omega
            clear c1 hxj
            go_wp2_with fail
            go_roundw
            case rel => exact ⟨k + 1, by omega, by go_num, trivial⟩
            case measure => simp [intOf]; omega
          · go_wp2_with fail
            clear hk hkl
            refine (ts_ended w wr _ g l2 9223372036854775807 HT3.out).mono ?_; rintro e x4 ⟨v4, rfl, ho4, ht4, hk4⟩
            rw [(end_all HT3.out.fit).1] at ho4
            rw [(end_all HT3.out.fit).2] at ht4
            obtain ⟨R, hR⟩ : ∃ R, R = l2.map Prod.fst := ⟨_, rfl⟩
            obtain ⟨nR, hnR⟩ : ∃ n, n = R.length := ⟨_, rfl⟩
            have hnE : l2.length = nR := by rw [hnR, hR, List.length_map]
            rw [hnE, ← hR] at ho4
            rw [← hR] at HSP
            have HO4 := Lib.hid ho4; have HT4 := Lib.hid ht4; have HNR := Lib.hid hnR
            have HO3' := Lib.hid (hk4.own HO3.out (by decide) (by decide))
            obtain ⟨A4, c4, hA4⟩ := own_slice ho4
            subst hA4
            have hnR2 : nF + nR = len0 := by have := HSP.out.len; have := HQL.out; have := HNF.out; omega
            have HSM : Hid (0 + F.length ≤ 1000000 ∧ F.length + R.length ≤ 1000000 ∧ (F ++ R).length ≤ 1000) := by have := HNF.out; have := HNR.out; exact ⟨by omega, by omega, by rw [List.length_append]; omega⟩
            clear ho4 ht4 hk4 hR hnE hnR HT3 HO3
            go_wp2_with (at_builtin; refine wpList_app_rd rfl (.const (.slice none 0 0)) (.tmp 71) 37 rfl x4.heap.size 3 i3 (.int .i64 0) Try.underlying37 hi3 hz30 hz31 hz32 rfl _ 0 [] rfl (World.ownsRow_nil _ _ _ _) _ F rfl (Rd.of_own HO3'.out) HSM.out.1 (Nat.le_refl _) ?_)
            intro v5 x5 hown5 hgrow5
            have HB5 : Hid (Below x4.heap.size x4 x5) := ⟨hgrow5.os, hgrow5.tape, hgrow5.output, hgrow5.size, fun k hk => hgrow5.block k hk (by simp [Value.ownBlock])⟩
            have HOR := Lib.hid (own_below HO4.out HB5.out)
            have HO5 := Lib.hid hown5
            obtain ⟨A5, c5, hA5⟩ := own_slice hown5
            subst hA5
            clear hown5 hgrow5
            go_wp2_with (at_builtin; refine wpList_app_rd rfl (.tmp 72) (.tmp 73) 37 rfl x4.heap.size 3 i3 (.int .i64 0) Try.underlying37 hi3 hz30 hz31 hz32 rfl _ F.length F rfl HO5.out _ R rfl (Rd.of_own HOR.out) HSM.out.2.1 HB5.out.size ?_)
            intro v6 x6 hown6 hgrow6
            have HB6 : Hid (Below x4.heap.size x4 x6) := HB5.out.grown hgrow6 HB5.out.size (fun kk hk => (HO5.out.lt kk hk).1)
            have HO6 : Hid (Rd x6 x6.heap.size v6 (ivals (F ++ R))) := Rd.of_own hown6
            obtain ⟨A6, c6, hA6⟩ := own_slice hown6
            subst hA6
            clear hown6 hgrow6 HB5 HOR HO5
            go_wp2_with fail
            refine (refRise_any x6 _ (F ++ R) HO6.out HSM.out.2.2).mono ?_; rintro e x7 ⟨v7, rfl, ho7, hb7⟩
            have hb47 := HB6.out.trans (hb7.mono HB6.out.size)
            have HT7 := Lib.hid (HT4.out.call hb47)
            have HOF := Lib.hid (Rd.of_own (own_below HO3'.out hb47)); have HOR := Lib.hid (Rd.of_own (own_below HO4.out hb47))
            rw [HSP.out.all, HQL.out] at ho7
            obtain ⟨A7, c7, hA7⟩ := own_slice ho7
            subst hA7
            clear ho7 hb7 hb47 HB6 HO6 HT4 HO3' HO4
            go_wp2_with fail
            go_loopw [11] (fun t wr => ∃ i : Nat, i ≤ nR ∧ t = .int .i64 i ∧ ∃ m, wr = x7.drewN m) (fun t _ => nR - (intOf t).toNat)
            case atStart => exact ⟨0, Nat.zero_le _, rfl, 0, rfl⟩
            case round =>
              obtain ⟨k, hk, rfl, m, rfl⟩ := hrel
              by_cases hkl : k < nR
              · have hkR : k < R.length := by have := HNR.out; omega
                obtain ⟨j, hxj, hjq, hyc⟩ := HSP.out.rest R[k] (List.getElem_mem _)
                obtain ⟨br, or, hAr, -, c0⟩ := HOR.out.at (ivals_get R k hkR)
                subst hAr
                rw [hxj] at c0
                obtain ⟨b, o, hA, hb, c1⟩ := HRD.out.at (ivals_get q j hjq)
                subst hA
                have e1 := (HT7.out.below.cell (p := ⟨b, o + j, none⟩) hb).trans c1
                have HGY : Hid (q.getD j 0 = q[j]) := by show _ = _; simp [List.getD, hjq]
                have d1 : ¬ q[j] ≤ a1 := hyc
                obtain ⟨y, hy⟩ : ∃ y, q[j] = y := ⟨_, rfl⟩
                rw [hy] at e1 d1 HGY
                have d2 : decide (y ≤ a1) = false := decide_eq_false d1
                have hj1 : (j : Int) < (len0 : Int) := by have := HQL.out; omega
                have hj2 : (0 : Int) ≤ (j : Int) := by omega
                have hj3 : ¬ (j : Int) < 0 := by omega
                have hj4 : ¬ (len0 : Int) ≤ (j : Int) := by omega
                have hd3 : decide ((j : Int) < 0) = false := decide_eq_false hj3
                have hd4 : decide ((len0 : Int) ≤ (j : Int)) = false := decide_eq_false hj4
                clear c1 hyc hy
                by_cases hk0 : 0 < k
                · obtain ⟨k', hk'⟩ : ∃ k', k = k' + 1 := ⟨k - 1, by omega⟩
                  have hkR' : k' < R.length := by omega
                  obtain ⟨j', hxj', hjq', -⟩ := HSP.out.rest R[k'] (List.getElem_mem _)
                  have hps := List.pairwise_iff_getElem.1 HSP.out.sorted k' k hkR' hkR (by omega)
                  rw [hxj, hxj', Int.toNat_natCast, Int.toNat_natCast, HGY.out] at hps
                  obtain ⟨br', or', hAr', -, c2⟩ := HOR.out.at (ivals_get R k' hkR')
                  injection hAr' with hAr'
                  injection hAr' with hAr1 hAr2
                  subst hAr1 hAr2
                  rw [hxj'] at c2
                  obtain ⟨b', o', hA', -, c3'⟩ := HRD.out.at (ivals_get q j' hjq')
                  injection hA' with hA'
                  injection hA' with hA1 hA2
                  subst hA1 hA2
                  have e3 := (HT7.out.below.cell (p := ⟨b, o + j', none⟩) hb).trans c3'
                  have HGY' : Hid (q.getD j' 0 = q[j']) := by show _ = _; simp [List.getD, hjq']
                  rw [HGY'.out] at hps
                  generalize q[j'] = y' at *
                  have d3 : ¬ y < y' := by omega
                  have d4 : decide (y < y') = false := decide_eq_false d3
                  have hk1 : (k : Int) - 1 = (k' : Int) := by omega
                  have hkw : IntKind.i64.wrap ((k : Int) - 1) = (k' : Int) := by rw [hk1]; exact IntWalk.i64_in _ (by omega)
                  have hk2 : (0 : Int) < (k : Int) := by omega
                  have hk3 : decide ((0 : Int) < (k : Int)) = true := decide_eq_true hk2
                  have hk4 : (k' : Int) < (nR : Int) := by omega
                  have hk5 : (0 : Int) ≤ (k' : Int) := by omega
                  have hk6 : k' < nR := by omega
                  have hj1' : (j' : Int) < (len0 : Int) := by have := HQL.out; omega
                  have hj2' : (0 : Int) ≤ (j' : Int) := by omega
                  clear c3' hxj hxj' hps HGY HGY' hk' hk1
                  go_upto_region 20 with (fail)
                  go_quiet (fail)
                  go_wp2_with fail
                  go_roundw
                  case rel => exact ⟨k + 1, by omega, by go_num, m + nq, rfl⟩
                  case measure => simp [intOf]; omega
                · have hk2 : ¬ (0 : Int) < (k : Int) := by omega
                  have hk3 : decide ((0 : Int) < (k : Int)) = false := decide_eq_false hk2
                  clear hxj HGY
                  go_upto_region 20 with (fail)
                  go_quiet (fail)
                  go_wp2_with fail
                  go_roundw
                  case rel => exact ⟨k + 1, by omega, by go_num, m + nq, rfl⟩
                  case measure => simp [intOf]; omega
              · have HT8 := Lib.hid (HT7.out.call (Below.drewN (Below.refl _ _) m))
                generalize x7.drewN m = x8 at *
                have hs1 : (nF : Int) + (nR : Int) = (len0 : Int) := by omega
                have hs2 : ((len0 : Int) == (len0 : Int)) = true := by simp
                go_wp2_with fail
                refine (ts_len w x8 _ g [] HT8.out).mono ?_; rintro e w' ⟨rfl, rfl⟩
                go_wp2_with fail
                go_ret
                exact ⟨rfl, HT8.out.below⟩

theorem lifted (os : Os) (started : os.Started) (H : Type) (enc : TypeId × Value → H) :
    ReturnsInHanded {} Try.checked os 4 .any (Rows.timerEndsSpec.pre6 enc Try.prog Try.f4 Rows.timerEndsRow.domain false) (Rows.timerEndsSpec.post enc Try.prog Try.f4 false true false false) := by
  refine returnsInHanded_of_change (C := Try.checked) own started (by kernel_rfl) Try.func4
    (ChangeSpec.witness6 (enc := enc) (C := Try.checked) false ⟨#[], #[.slice none 0 0, .int .i64 0], []⟩ 8 (by kernel_rfl) (by kernel_rfl) (by kernel_rfl) (by kernel_rfl)) ?_
  intro W base args ds gs before hval0 hW hcnd _
  have hval : ∀ (j : Nat) t v, Try.f4.params[j]? = some t → args[j]? = some v → Value.okWide Try.prog W .any base t v := hval0
  have hW' := hW
  obtain ⟨p, q, hA0, hV, rfl, hfz, hnd⟩ := hW
  have hA : DataW.TrodAll enc Try.prog W 0 (fun _ => true) true Try.f4.params.toList args.toList ds p := hA0
  rw [Try.params4] at hA hval
  obtain ⟨v0, vs0, d0, ds0, p0, q0, hargs, rfl, rfl, h0, r0⟩ := trodAll_cons hA
  obtain ⟨v1, vs1, d1, ds1, p1, q1, rfl, rfl, rfl, h1, r1⟩ := trodAll_cons r0
  obtain ⟨rfl, rfl, rfl⟩ := trodAll_nil r1
  obtain rfl : args = #[v0, v1] := by cases args; simp_all
  obtain ⟨rfl, rfl⟩ := trodVars_none hV
  obtain ⟨a0, len0, cap0, rfl⟩ := okWide_slice Try.underlying46 (hval 0 46 v0 rfl rfl)
  have k0 := h0
  have lt0 : ∀ x ∈ p0, x.block < W.heap.size := by obtain ⟨m, hm⟩ := k0; exact DataW.trod_lt m _ _ _ hm
  obtain ⟨z0, w0⟩ : ∃ zs, IsRow .i64 W a0 len0 cap0 zs := by
    obtain ⟨fuel, hf⟩ := h0
    rcases open_ints Try.underlying46 Try.underlying2 (by kernel_rfl) hf with ⟨hcs, _⟩ | ⟨x, l, c, zs, hcs, _, hl, hm, hz, _, hcell, hwz⟩
    · simp [Value.cells] at hcs
      obtain ⟨rfl, rfl, rfl⟩ := hcs
      exact ⟨[], .inl ⟨rfl, rfl, rfl, rfl⟩⟩
    · simp [Value.cells] at hcs
      obtain ⟨rfl, rfl, rfl⟩ := hcs
      exact ⟨zs, .inr ⟨_, rfl, hl, hm, by simpa using hz, hcell, hwz⟩⟩
  obtain ⟨a1, rfl, rfl, rfl, w1⟩ := open_int Try.underlying2 (hval 1 2 v1 rfl rfl) h1
  clear hA0 hval0
  refine (walk a0 len0 cap0 z0 a1 W w0 w1).mono fun e W' ⟨he, bel⟩ => ?_
  subst he
  exact ⟨_, rfl, _, _, _, [], _, [], hW', trodAll_mk1 (shut_bool Try.underlying4 _), (trodAll_cons_mk (Below.trod laidOut (by kernel_rfl) (of_decide_eq_true (by kernel_rfl)) k0 bel lt0) (trodAll_cons_mk (shut_int Try.underlying2 w1) trodAll_mk0)), rfl, bel.frame _, fun h => by cases h⟩

theorem over : Rows.timerEndsRow.holds Try.pinned (OpenSpec.ofChange Rows.timerEndsSpec) :=
  OpenClaim.holds_of_wide 4 Try.f4 rfl rfl rfl rfl rfl rfl rfl ⟨rfl, rfl, rfl, rfl, rfl⟩ rfl rfl rfl rfl rfl (by kernel_rfl) Try.func4 (by kernel_rfl)
    (of_decide_eq_true (by kernel_rfl)) (by unfold Func.isWrapper; first | (rw [if_pos (by decide +kernel)]; kernel_rfl) | (rw [if_neg (by decide +kernel)]; exact ⟨rfl, rfl⟩))
    (fun os started H enc _ => lifted os started H enc)

theorem proved : Rows.TimerEndsSaid := over
#print axioms proved
end Go.Proofs.Ytkhceigfmaajdaa.timerEnds
