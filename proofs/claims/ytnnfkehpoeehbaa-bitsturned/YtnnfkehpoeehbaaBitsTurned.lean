/-
  PROVED: for every list of numbers with their widths and every uint16, the law BitsTurned of package bits answers true (one bit that is turned is another number, of that place alone). No condition.
-/
import Derived.Test.YtnnfkehpoeehbaaRows
import Derived.Test.YtnnfkehpoeehbaaItemsArg
import Derived.Test.YtnnfkehpoeehbaaTurnMath
import Derived.WalkKit
import Derived.ProofKit
import Derived.OpenShut
import Derived.ShutString
import Derived.ChangeOld
import Derived.Below
namespace Go.Proofs.Ytnnfkehpoeehbaa.bitsTurned
open Go.ChangeShapes Go.WideShapes Go.ChangeAt Go.RowKit
open Go.RowKit
open Go.ChangeMaps (open_string shut_string)
set_option linter.unusedVariables false

theorem own : ownKnob Try.prog.godebug = none := by kernel_rfl
theorem laidOut : laidOutB Try.prog = true := by kernel_rfl

/-! ### STEP 1: THE WALK: the Go text returns true, AND WRITES NOTHING THAT WAS THERE: 'Below w.heap.size w w'' (Derived/Below.lean: '.refl', '.alloc', '.drew', '.setCell' at a new block, '.trans'). Open each 'IsRow' by 'rcases' AHEAD of 'go_enter'; part every test ahead of the walk. -/
theorem wf_nat {k : IntKind} {a : Int} (h : (Lit.int k a).wf = true) (hk : k.min = 0) : ∃ n : Nat, a = (n : Int) ∧ (n : Int) ≤ k.max := by
  simp only [Lit.wf, Bool.and_eq_true, decide_eq_true_eq] at h
  rw [hk] at h
  obtain ⟨n, rfl⟩ := Int.eq_ofNat_of_zero_le h.1
  exact ⟨n, rfl, h.2⟩

set_option maxHeartbeats 4000000 in
theorem walk (v0 : Value) (its : List (Nat × Nat)) (a1 : Int) (w : World) (w0 : Its w w.heap.size v0 its) (s0 : ∀ x ∈ its, x.1 < 2 ^ 64 ∧ x.2 < 256) (w1 : (Lit.int .u16 a1).wf = true) :
    Calls Try.prog 5 #[v0, .int .u16 a1] w fun e w' => e = .returned (.bool true) ∧ Below w.heap.size w w' := by
  obtain ⟨T, rfl, hT⟩ := wf_nat w1 (by decide)
  rw [show IntKind.u16.max = 65535 from by decide] at hT
  clear w1
  obtain ⟨i0, hi, hz0, hz1, hz2⟩ := info_parts Try.info4
  by_cases hbig : 30 < its.length
  · obtain ⟨A, c, rfl, _⟩ := w0
    go_enter Try.func5, Try.ntmps5
    go_wp2_with fail
    refine (five_any _).mono ?_; rintro e wA ⟨rfl, hbA⟩
    have HA := Lib.hid hbA; clear hbA
    go_wp2_with fail
    refine (five_any _).mono ?_; rintro e wB ⟨rfl, hbB⟩
    have HB := Lib.hid (HA.out.trans (hbB.mono HA.out.size)); clear hbB
    go_wp2_with fail
    go_ret
    exact ⟨rfl, HB.out⟩
  have hn40 : its.length ≤ 40 := by omega
  have W0 := Lib.hid w0
  obtain ⟨A, c, rfl, hx⟩ := w0
  clear hx
  have HS0 := Lib.hid s0
  clear s0
  have hll := ib_length its its.length
  have HLL : Hid ((ib its its.length).length ≤ 3000) := (by omega : (ib its its.length).length ≤ 3000)
  clear hll
  generalize hib : ib its its.length = l at *
  have HIB := Lib.hid hib; clear hib
  go_enter Try.func5, Try.ntmps5
  go_wp2_with fail
  refine (five_any _).mono ?_; rintro e wA ⟨rfl, hbA⟩
  have HA := Lib.hid hbA; clear hbA
  go_wp2_with fail
  with_reducible refine (layAll_any wA _ its (W0.out.mono HA.out.size fun p hp => HA.out.cell hp) HS0.out hn40).mono ?_
  rw [HIB.out]
  rintro e wB ⟨vb, rfl, hwB, hoB, hbB⟩
  obtain ⟨A2, c2, hv2, _⟩ := Rd.of_own hoB
  subst hv2
  rw [cvals_length] at *
  have HWB := Lib.hid hwB; have HOB := Lib.hid hoB; have HBB := Lib.hid (HA.out.trans (hbB.mono HA.out.size))
  clear hwB hoB hbB HIB HS0 W0
  have hll3 := HLL.out
  by_cases hz : l.length = 0
  · have hpz : (pack l).length = 0 := by rw [pack_length, hz]; rfl
    have HPZ := Lib.hid hpz
    rw [hz]
    have HZ := Lib.hid hz
    clear hpz hz
    go_wp2_with fail
    with_reducible refine (len_some wB _ _ _ HWB.out).mono ?_
    rintro e w' ⟨rfl, rfl⟩
    rw [HZ.out]
    go_wp2_with fail
    with_reducible refine (bytes_some wB _ _ _ HWB.out (by omega)).mono ?_
    rintro e wC ⟨v1, rfl, hoC, hbC⟩
    obtain ⟨A3, c3, hv3, _⟩ := Rd.of_own hoC
    subst hv3
    rw [bvals_length, HPZ.out]
    have HBC := Lib.hid (HBB.out.trans (hbC.mono HBB.out.size))
    clear hoC hbC
    go_wp2_with fail
    go_ret
    exact ⟨rfl, HBC.out⟩
  have hpos : 0 < l.length := by omega
  have hzi : ((l.length : Int) == 0) = false := beq_eq_false_iff_ne.2 (by omega)
  obtain ⟨k, hk⟩ : ∃ k, T % l.length = k := ⟨_, rfl⟩
  have hkl : k < l.length := by rw [← hk]; exact Nat.mod_lt _ hpos
  have hkm : (T : Int) % (l.length : Int) = (k : Int) := by rw [← hk]; simp
  have hne0 : ¬ (l.length : Int) = 0 := by omega
  clear hk hz
  obtain ⟨r2, cap2, he⟩ : ∃ r cap, Value.slice A2 l.length c2 = .slice (some ⟨r, 0, none⟩) l.length cap := by
    rcases HOB.out.2 with ⟨_, h⟩ | ⟨r, cap, _, h, _⟩
    · omega
    · exact ⟨r, cap, h⟩
  injection he with he1 he2 he3
  subst he1; subst he3
  have hcells := HOB.out.cells (g := r2) rfl
  have HCL := Lib.hid hcells
  clear hcells he2
  go_wp2_with (at_builtin; refine wpList_append_own _ rfl (.tmp 42) (.tmp 43) 26 rfl wB.heap.size 4 i0 (.bool false) 1 1 Try.underlying26 hi hz0 hz1 hz2 rfl (by decide) _ 0 [] rfl (World.ownsRow_nil _ _ _ _) ⟨r2, 0, none⟩ _ _ (cvals l) rfl (by rw [cvals_length]; omega) HCL.out (cvals_one l) (by unfold maxLen; omega) (by omega) (Nat.le_refl _) ?_)
  intro v' w1 hown1 hgrow _
  obtain ⟨r3, cap3, rfl⟩ : ∃ r cap, v' = .slice (some ⟨r, 0, none⟩) l.length cap := by
    rcases hown1.2 with ⟨_, h⟩ | ⟨r, cap, _, h, _⟩
    · omega
    · exact ⟨r, cap, h⟩
  have hc3 : w1.cell? ⟨r3, k, none⟩ = some (.bool (get l k)) := by
    rw [hown1.cellAt k (by omega), cvals_get l k hkl]
    unfold get; simp [List.getD, hkl]
  have hf3 := hown1.frozenAt k
  have hst := (hown1.stored k (.bool (!(get l k)))).1
  rw [cvals_set] at hst
  have hb1 : Below wB.heap.size wB w1 := (Below.refl _ _).grown hgrow (Nat.le_refl _) (fun k hk => by simp [Value.ownBlock] at hk)
  have hb2 := hb1.setCell (p := ⟨r3, k, none⟩) (hown1.lt r3 rfl).1 (.bool (!(get l k)))
  have HST := Lib.hid hst; have HW2 := Lib.hid (Below.wr hb2 HWB.out (Nat.le_refl _)); have HB2 := Lib.hid (HBB.out.trans (hb2.mono HBB.out.size))
  clear hown1 hgrow hst hb1 hb2 HOB HCL HWB HBB
  generalize hgb : get l k = gb at *
  have HGB := Lib.hid hgb; clear hgb
  go_wp2_with fail
  generalize w1.setCell ⟨r3, k, none⟩ (.bool (!gb)) = w2 at *
  clear hc3 hf3
  with_reducible refine (bytes_some w2 _ _ _ HW2.out (by omega)).mono ?_
  rintro e wC ⟨v1, rfl, hoC, hbC⟩
  have hrC : Rd wC wC.heap.size (.slice (some ⟨r3, 0, none⟩) l.length cap3) (cvals (flip l k)) := (Rd.of_own HST.out).mono hbC.size fun p hp => hbC.cell hp
  have HOC := Lib.hid hoC; have HRC := Lib.hid hrC; have HBC := Lib.hid (HB2.out.trans (hbC.mono HB2.out.size))
  clear hoC hrC hbC HST HW2 HB2
  go_wp2_with fail
  with_reducible refine (refBytes_any wC _ _ HRC.out (by rw [flip_length]; omega)).mono ?_
  rintro e wD ⟨v2, rfl, hoD, hbD⟩
  have hr1 : Rd wD wD.heap.size v1 (bvals (pack l)) := (Rd.of_own HOC.out).mono hbD.size fun p hp => hbD.cell hp
  have hr2 : Rd wD wD.heap.size v2 (bvals (pack (flip l k))) := Rd.of_own hoD
  have HBD := Lib.hid (HBC.out.trans (hbD.mono HBC.out.size))
  clear hoD hbD HOC HRC HBC
  obtain ⟨A3, c3, rfl, hx3⟩ := hr1
  obtain ⟨A4, c4, rfl, hx4⟩ := hr2
  have hp1 : (bvals (pack l)).length = nb l.length := by rw [bvals_length, pack_length]
  have hp2 : (bvals (pack (flip l k))).length = nb l.length := by rw [bvals_length, pack_length, flip_length]
  rw [hp1] at hx3
  rw [hp2] at hx4
  rw [hp1, hp2]
  have hnbl := len_nb l.length
  have cellsAt : ∀ j, j < nb l.length → ∃ b o b' o', A3 = some ⟨b, o, none⟩ ∧ A4 = some ⟨b', o', none⟩ ∧ wD.cell? ⟨b, o + j, none⟩ = some (.int .u8 (byteAt l j : Int)) ∧ wD.cell? ⟨b', o' + j, none⟩ = some (.int .u8 (byteAt (flip l k) j : Int)) := by
    intro j hj
    obtain ⟨b, o, e1, _, h1⟩ := hx3 (by omega)
    obtain ⟨b', o', e2, _, h2⟩ := hx4 (by omega)
    refine ⟨b, o, b', o', e1, e2, h1 j _ ?_, h2 j _ ?_⟩
    · rw [bvals_get _ _ (by rw [pack_length]; exact hj)]; unfold pack; rw [packTo_get]
    · rw [bvals_get _ _ (by rw [pack_length, flip_length]; exact hj)]; unfold pack; rw [packTo_get]
  have HC := Lib.hid cellsAt
  clear hx3 hx4 hp1 hp2 cellsAt
  have hk8 : k / 8 < nb l.length := by omega
  generalize hn : nb l.length = n at *
  clear hn
  have n0 : n ≤ 1000 := by omega
  clear hnbl hzi hkm hne0
  go_wp2_with fail
  go_loopw [11] (fun t wr => ∃ i : Nat, i ≤ n ∧ t = .int .i64 i ∧ ∃ m, wr = wD.drewN m) (fun t _ => n - (intOf t).toNat)
  case atStart => exact ⟨0, Nat.zero_le _, rfl, 0, rfl⟩
  case round =>
    obtain ⟨i, hi', rfl, m, rfl⟩ := hrel
    by_cases hlt : i < n
    · obtain ⟨b, o, b', o', rfl, rfl, k1, k2⟩ := HC.out i hlt
      have hd1 : (k : Int).tdiv 8 = (k : Int) / 8 := Int.tdiv_eq_ediv_of_nonneg (by omega)
      have hval : ((byteAt l i : Int) != (byteAt (flip l k) i : Int)) = ((i : Int) == (k : Int) / 8) := by
        by_cases hik : i = k / 8
        · rw [show ((i : Int) == (k : Int) / 8) = true from beq_iff_eq.2 (by omega), hik]
          have := byteAt_flip_other l k hkl
          rw [bne_iff_ne]; omega
        · rw [show ((i : Int) == (k : Int) / 8) = false from beq_eq_false_iff_ne.2 (by omega), byteAt_flip_ne l k i hik]
          simp
      generalize (byteAt l i : Int) = x at *
      generalize (byteAt (flip l k) i : Int) = y at *
      cases hq : ((i : Int) == (k : Int) / 8)
      all_goals
        rw [hq] at hval
        go_wp2_with fail
        go_quiet (fail)
        go_wp2_with fail
        go_roundw
        case rel => exact ⟨i + 1, by omega, by go_num, _, rfl⟩
        case measure => simp [intOf]; omega
    · obtain ⟨b, o, b', o', rfl, rfl, k1, k2⟩ := HC.out (k / 8) hk8
      have hd1 : (k : Int).tdiv 8 = (k : Int) / 8 := Int.tdiv_eq_ediv_of_nonneg (by omega)
      have hd2 : (k : Int).tmod 8 = (k : Int) % 8 := Int.tmod_eq_emod_of_nonneg (by omega)
      have hx := byteAt_flip l k hkl
      have hx1 := u8_xor_nat (byteAt l (k / 8)) (byteAt (flip l k) (k / 8)) (byteAt_lt _ _) (byteAt_lt _ _)
      rw [hx] at hx1
      clear hx
      generalize byteAt l (k / 8) = x at *
      generalize byteAt (flip l k) (k / 8) = y at *
      have hk0 : (k : Int) / 8 < (n : Int) := by omega
      have hk1 : 0 ≤ (k : Int) / 8 := by omega
      have hk2 : ((k : Int) / 8).toNat = k / 8 := by omega
      have hk3 : 0 ≤ 7 - (k : Int) % 8 := by omega
      have hk4 : (7 - (k : Int) % 8).toNat = 7 - k % 8 := by omega
      have hk5 : IntKind.i64.wrap (7 - (k : Int) % 8) = 7 - (k : Int) % 8 := IntWalk.i64_in _ (by omega)
      have hpw : ((2 : Int) ^ (7 - k % 8) == 2 ^ (7 - k % 8) % 256) = true := by
        have h1 : (2 : Nat) ^ (7 - k % 8) ≤ 2 ^ 7 := Nat.pow_le_pow_right (by decide) (by omega)
        have e : (2 : Int) ^ (7 - k % 8) = ((2 ^ (7 - k % 8) : Nat) : Int) := by simp
        rw [e]
        generalize 2 ^ (7 - k % 8) = z at h1
        rw [beq_iff_eq]; omega
      have HPW := Lib.hid hpw; clear hpw
      go_wp2_with fail
      go_quiet (fail)
      go_wp2_with fail
      go_ret
      exact ⟨ret_bool HPW.out, by first | exact below_drewN HBD.out _ | exact below_drewN (below_drewN HBD.out _) _⟩

/-! ### THE ROW's STEP: WRITTEN OUT: LEAVE IT -/
set_option maxRecDepth 100000 in
theorem lifted (os : Os) (started : os.Started) (H : Type) (enc : TypeId × Value → H) :
    ReturnsInHanded {} Try.checked os 5 .any (Rows.bitsTurnedSpec.pre6 enc Try.prog Try.f5 Rows.bitsTurnedRow.domain false) (Rows.bitsTurnedSpec.post enc Try.prog Try.f5 false true false false) := by
  refine returnsInHanded_of_change (C := Try.checked) own started (by kernel_rfl) Try.func5
    (ChangeSpec.witness6 (enc := enc) (C := Try.checked) false ⟨#[], #[.slice none 0 0, .int .u16 0], []⟩ 8 (by kernel_rfl) (by kernel_rfl) (by kernel_rfl) (by kernel_rfl)) ?_
  intro W base args ds gs before hval0 hW hcnd _
  have hval : ∀ (j : Nat) t v, Try.f5.params[j]? = some t → args[j]? = some v → Value.okWide Try.prog W .any base t v := hval0
  have hW' := hW
  obtain ⟨p, q, hA0, hV, rfl, hfz, hnd⟩ := hW
  have hA : DataW.TrodAll enc Try.prog W 0 (fun _ => true) true Try.f5.params.toList args.toList ds p := hA0
  rw [Try.params5] at hA hval
  obtain ⟨v0, vs0, d0, ds0, p0, q0, hargs, rfl, rfl, h0, r0⟩ := trodAll_cons hA
  obtain ⟨v1, vs1, d1, ds1, p1, q1, rfl, rfl, rfl, h1, r1⟩ := trodAll_cons r0
  obtain ⟨rfl, rfl, rfl⟩ := trodAll_nil r1
  obtain rfl : args = #[v0, v1] := by cases args; simp_all
  obtain ⟨rfl, rfl⟩ := trodVars_none hV
  obtain ⟨a0, len0, cap0, rfl⟩ := okWide_slice Try.underlying22 (hval 0 22 v0 rfl rfl)
  have k0 := h0
  have lt0 : ∀ x ∈ p0, x.block < W.heap.size := by obtain ⟨m, hm⟩ := k0; exact DataW.trod_lt m _ _ _ hm
  obtain ⟨its, _, w0, s0⟩ := (by obtain ⟨fuel, hf⟩ := h0; exact its_of_trod hf : ∃ its : List (Nat × Nat), its.length = len0 ∧ Its W W.heap.size (.slice a0 len0 cap0) its ∧ ∀ x ∈ its, x.1 < 2 ^ 64 ∧ x.2 < 256)
  obtain ⟨a1, rfl, rfl, rfl, w1⟩ := open_int Try.underlying48 (hval 1 48 v1 rfl rfl) h1
  clear hA0 hval0
  refine (walk _ its a1 W w0 s0 w1).mono fun e W' ⟨he, bel⟩ => ?_
  subst he
  exact ⟨_, rfl, _, _, _, [], _, [], hW', trodAll_mk1 (shut_bool Try.underlying4 _), (trodAll_cons_mk (Below.trod laidOut (by kernel_rfl) (of_decide_eq_true (by kernel_rfl)) k0 bel lt0) (trodAll_cons_mk (shut_int Try.underlying48 w1) trodAll_mk0)), rfl, bel.frame _, fun h => by cases h⟩

theorem over : Rows.bitsTurnedRow.holds Try.pinned (OpenSpec.ofChange Rows.bitsTurnedSpec) :=
  OpenClaim.holds_of_wide 5 Try.f5 rfl rfl rfl rfl rfl rfl rfl ⟨rfl, rfl, rfl, rfl, rfl⟩ rfl rfl rfl rfl rfl (by kernel_rfl) Try.func5 (by kernel_rfl)
    (of_decide_eq_true (by kernel_rfl)) (by unfold Func.isWrapper; first | (rw [if_pos (by decide +kernel)]; kernel_rfl) | (rw [if_neg (by decide +kernel)]; exact ⟨rfl, rfl⟩))
    (fun os started H enc _ => lifted os started H enc)

/-- ████ THE STATEMENT ████ -/
theorem proved : Rows.BitsTurnedSaid := over
#print axioms proved
end Go.Proofs.Ytnnfkehpoeehbaa.bitsTurned
