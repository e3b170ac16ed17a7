/-
  PROVED: for every list of numbers with their widths, the law BitsBack of package bits answers true (numbers are read as they were laid, bit by bit). No condition.
-/
import Derived.Test.YtnnfkehpoeehbaaRows
import Derived.Test.YtnnfkehpoeehbaaItemsArg
import Derived.Test.YtnnfkehpoeehbaaBackMath
import Derived.WalkKit
import Derived.ProofKit
import Derived.OpenShut
import Derived.ShutString
import Derived.ChangeOld
import Derived.Below
namespace Go.Proofs.Ytnnfkehpoeehbaa.bitsBack
open Go.ChangeShapes Go.WideShapes Go.ChangeAt Go.RowKit
open Go.RowKit
open Go.ChangeMaps (open_string shut_string)
set_option linter.unusedVariables false

theorem own : ownKnob Try.prog.godebug = none := by kernel_rfl
theorem laidOut : laidOutB Try.prog = true := by kernel_rfl

/-! ### STEP 1: THE WALK: the Go text returns true, AND WRITES NOTHING THAT WAS THERE: 'Below w.heap.size w w'' (Derived/Below.lean: '.refl', '.alloc', '.drew', '.setCell' at a new block, '.trans'). Open each 'IsRow' by 'rcases' AHEAD of 'go_enter'; part every test ahead of the walk. -/
theorem wrap_u64 (x : Int) : IntKind.u64.wrap x = x % 18446744073709551616 := by simp [IntKind.wrap, IntKind.bits, IntKind.signed]

theorem wrap_pow (m : Nat) (hm : m < 64) : IntKind.u64.wrap ((2 : Int) ^ m) = 2 ^ m := by
  rw [wrap_u64]
  have h : (2 : Nat) ^ m ≤ 2 ^ 63 := Nat.pow_le_pow_right (by decide) (by omega)
  have e : (2 : Int) ^ m = ((2 ^ m : Nat) : Int) := by simp
  rw [e]
  generalize 2 ^ m = z at h
  omega

set_option maxHeartbeats 4000000 in
theorem walk (v0 : Value) (its : List (Nat × Nat)) (w : World) (w0 : Its w w.heap.size v0 its) (s0 : ∀ x ∈ its, x.1 < 2 ^ 64 ∧ x.2 < 256) :
    Calls Try.prog 3 #[v0] w fun e w' => e = .returned (.bool true) ∧ Below w.heap.size w w' := by
  by_cases hbig : 40 < its.length
  · obtain ⟨A, c, rfl, _⟩ := w0
    go_enter Try.func3, Try.ntmps3
    go_wp2_with fail
    refine (five_any _).mono ?_; rintro e wA ⟨rfl, hbA⟩
    have HA := Lib.hid hbA; clear hbA
    go_wp2_with fail
    refine (five_any _).mono ?_; rintro e wB ⟨rfl, hbB⟩
    have HB := Lib.hid (HA.out.trans (hbB.mono HA.out.size)); clear hbB
    go_wp2_with fail
    go_ret
    exact ⟨rfl, HB.out⟩
  have hn40 : its.length ≤ 40 := by omega
  clear hbig
  have W0 := Lib.hid w0
  obtain ⟨A, c, rfl, hx⟩ := w0
  have HX := Lib.hid hx; have HS0 := Lib.hid s0
  clear hx s0
  have hll := ib_length its its.length
  have HLL : Hid ((ib its its.length).length ≤ 3000) := (by omega : (ib its its.length).length ≤ 3000)
  clear hll
  have hpl : (pack (ib its its.length)).length ≤ 10000000 := by rw [pack_length]; have := HLL.out; unfold nb; omega
  have HPL := Lib.hid hpl; clear hpl
  go_enter Try.func3, Try.ntmps3
  go_wp2_with fail
  refine (five_any _).mono ?_; rintro e wA ⟨rfl, hbA⟩
  have HA := Lib.hid hbA; clear hbA
  go_wp2_with fail
  with_reducible refine (layAll_any wA _ its (W0.out.mono HA.out.size fun p hp => HA.out.cell hp) HS0.out hn40).mono ?_
  rintro e wB ⟨vb, rfl, hwB, hoB, hbB⟩
  obtain ⟨A2, c2, rfl, _⟩ := Rd.of_own hoB
  rw [cvals_length] at *
  have HWB := Lib.hid hwB; have HOB := Lib.hid hoB; have HBB := Lib.hid (HA.out.trans (hbB.mono HA.out.size))
  clear hwB hoB hbB
  have hll3 := HLL.out
  go_wp2_with fail
  with_reducible refine (len_some wB _ _ _ HWB.out).mono ?_
  rintro e w' ⟨rfl, rfl⟩
  go_wp2_with fail
  with_reducible refine (bytes_some wB _ _ _ HWB.out (by omega)).mono ?_
  rintro e wC ⟨v1, rfl, hoC, hbC⟩
  have hwC := Below.wr hbC HWB.out (Nat.le_refl _)
  have hrC : Rd wC wC.heap.size (.slice A2 (ib its its.length).length c2) (cvals (ib its its.length)) := (Rd.of_own HOB.out).mono hbC.size fun p hp => hbC.cell hp
  have HWC := Lib.hid hwC; have HOC := Lib.hid hoC; have HRC := Lib.hid hrC; have HBC := Lib.hid (HBB.out.trans (hbC.mono HBB.out.size))
  clear hwC hoC hrC hbC HWB HOB HBB
  go_wp2_with fail
  with_reducible refine (refBytes_any wC _ _ HRC.out (by omega)).mono ?_
  rintro e wD ⟨v2, rfl, hoD, hbD⟩
  have hwD := Below.wr hbD HWC.out (Nat.le_refl _)
  have hr1 : Rd wD wD.heap.size v1 (bvals (pack (ib its its.length))) := (Rd.of_own HOC.out).mono hbD.size fun p hp => hbD.cell hp
  have hr2 : Rd wD wD.heap.size v2 (bvals (pack (ib its its.length))) := Rd.of_own hoD
  have HWD := Lib.hid hwD; have HR1 := Lib.hid hr1; have HR2 := Lib.hid hr2; have HBD := Lib.hid (HBC.out.trans (hbD.mono HBC.out.size))
  clear hwD hoD hr1 hr2 hbD HWC HOC HRC HBC
  go_wp2_with fail
  with_reducible refine (refBytes_true wD _ v1 v2 _ HR1.out HR2.out HPL.out).mono ?_
  rintro e w' ⟨rfl, k, rfl⟩
  have HWE : Hid (Wr (wD.drewN k) wA.heap.size wA.heap.size (ib its its.length)) := HWD.out
  have HBE := Lib.hid (below_drewN HBD.out k)
  clear HWD HR1 HR2 HBD
  generalize wD.drewN k = wE at *
  go_wp2_with fail
  with_reducible refine (bytes_some wE _ _ _ HWE.out (by omega)).mono ?_
  rintro e wF ⟨v3, rfl, hoF, hbF⟩
  have HOF := Lib.hid hoF; have HBF := Lib.hid (HBE.out.trans (hbF.mono HBE.out.size))
  clear hoF hbF HWE HBE
  go_wp2_with fail
  with_reducible refine (newReader_any wF v3 _ (Rd.of_own HOF.out) HPL.out).mono ?_
  rintro e wG ⟨g2, rfl, hg2, hrG, hbG⟩
  have hbG2 := HBF.out.trans (hbG.mono HBF.out.size)
  have hg2w : w.heap.size ≤ g2 := Nat.le_trans HBF.out.size hg2
  have HG2 := Lib.hid hg2w; have H0 : Hid (Rr wG wF.heap.size g2 (pack (ib its its.length)) 0 false ∧ Below w.heap.size w wG) := ⟨hrG, hbG2⟩
  clear hg2 hrG hbG hbG2 hg2w HOF HBF
  generalize wF.heap.size = BR at *
  clear hll3
  go_wp2_with fail
  go_loopw [6] (fun t wr => ∃ i : Nat, i ≤ its.length ∧ t = .int .i64 i ∧ Hid (Rr wr BR g2 (pack (ib its its.length)) (ib its i).length false ∧ Below w.heap.size w wr)) (fun t _ => its.length - (intOf t).toNat)
  case atStart => exact ⟨0, Nat.zero_le _, rfl, H0.out⟩
  case round =>
    obtain ⟨i, hi, rfl, HI⟩ := hrel
    by_cases hlt : i < its.length
    · obtain ⟨b, o, rfl, hbl, hc⟩ := HX.out (by omega)
      obtain ⟨c1, c2⟩ := hc i hlt
      have hsx := HS0.out its[i] (List.getElem_mem _)
      have hnum := numTo_item its i hlt
      have hmono := ib_mono its i hlt
      have hsl : (ib its (i + 1)).length = (ib its i).length + wid its[i] := by rw [ib_succ its i hlt, List.length_append, numBits_length]
      generalize its[i] = x at *
      obtain ⟨N, D⟩ := x
      simp only at c1 c2 hsx hnum
      have k1 : wr.cell? ⟨b, o + i * 2, none⟩ = some (.int .u64 (N : Int)) := (HI.out.2.cell (p := ⟨b, o + i * 2, none⟩) hbl).trans c1
      have k2 : wr.cell? ⟨b, o + i * 2 + 1, none⟩ = some (.int .u8 (D : Int)) := (HI.out.2.cell (p := ⟨b, o + i * 2 + 1, none⟩) hbl).trans c2
      have hd := hsx.2
      have hN := Lib.hid hsx.1
      have hpk : (pack (ib its its.length)).length = nb (ib its its.length).length := pack_length _
      have hnb := (len_nb (ib its its.length).length).1
      have HRD : Hid ((ib its i).length ≤ 8 * (pack (ib its its.length)).length) := by show _ ≤ _; rw [hpk]; omega
      clear c1 c2 hc hsx
      have h3 : D % 66 < 64 ∨ D % 66 = 64 ∨ D % 66 = 65 := by omega
      rcases h3 with hD | hD | hD
      · have hmd : ((D : Int) % 66) = ((D % 66 : Nat) : Int) := by omega
        have hwv : wid (N, D) = (D % 66) := by unfold wid; simp only; omega
        rw [hwv] at hnum hmono hsl
        have HCL : Hid ((min (max (((D % 66 : Nat) : Int) : Int) 0) 64).toNat = (D % 66)) := by show _ = _; omega
        have HGET : Hid (min (max (((D % 66 : Nat) : Int) : Int) 0) 64 ≤ ((8 * (pack (ib its its.length)).length - (ib its i).length : Nat) : Int)) := by
          show _ ≤ _
          rw [hpk]; omega
        have HNUM : Hid ((numTo (pack (ib its its.length)) (ib its i).length (D % 66) : Int) = (N : Int) % 2 ^ (D % 66)) := by show _ = _; rw [hnum]; simp
        have HSL := Lib.hid hsl
        clear hnum hmono hsl hpk hnb hwv
        have hpow := wrap_pow (D % 66) hD
        have hne : ¬ (2 : Int) ^ (D % 66) = 0 := by have : (0 : Int) < 2 ^ (D % 66) := Int.pow_pos (by decide); omega
        generalize D % 66 = m at *
        go_wp2_with fail
        with_reducible refine (get_long wr _ g2 _ _ false _ HI.out.1 (pack_small _) HPL.out HRD.out HGET.out).mono ?_
        rintro e w2 ⟨rfl, hr2, hk2⟩
        rw [HCL.out] at hr2
        rw [HCL.out, HNUM.out]
        have hb2 : Below w.heap.size w w2 := HI.out.2.trans ((hk2 w.heap.size).below HG2.out)
        have H2 : Hid (Rr w2 BR g2 (pack (ib its its.length)) (ib its (i + 1)).length false ∧ Below w.heap.size w w2) := ⟨by rw [HSL.out]; exact hr2, hb2⟩
        clear hr2 hk2 hb2
        go_wp2_with fail
        with_reducible refine (ok_some w2 _ g2 _ _ false H2.out.1).mono ?_
        rintro e w' ⟨rfl, rfl⟩
        go_wp2_with fail
        go_roundw
        case rel => exact ⟨i + 1, by omega, by go_num, H2⟩
        case measure => simp [intOf]; omega
      · have hmd : ((D : Int) % 66) = 64 := by omega
        have hwv : wid (N, D) = 64 := by unfold wid; simp only; omega
        rw [hwv] at hnum hmono hsl
        have HCL : Hid ((min (max (64 : Int) 0) 64).toNat = 64) := by show _ = _; omega
        have HGET : Hid (min (max (64 : Int) 0) 64 ≤ ((8 * (pack (ib its its.length)).length - (ib its i).length : Nat) : Int)) := by
          show _ ≤ _
          rw [hpk]; omega
        have HNUM : Hid ((numTo (pack (ib its its.length)) (ib its i).length 64 : Int) = (N : Int)) := by show _ = _; rw [hnum]; have := hN.out; omega
        have HSL := Lib.hid hsl
        clear hnum hmono hsl hpk hnb hwv hD
        go_wp2_with fail
        with_reducible refine (get_long wr _ g2 _ _ false _ HI.out.1 (pack_small _) HPL.out HRD.out HGET.out).mono ?_
        rintro e w2 ⟨rfl, hr2, hk2⟩
        rw [HCL.out] at hr2
        rw [HCL.out, HNUM.out]
        have hb2 : Below w.heap.size w w2 := HI.out.2.trans ((hk2 w.heap.size).below HG2.out)
        have H2 : Hid (Rr w2 BR g2 (pack (ib its its.length)) (ib its (i + 1)).length false ∧ Below w.heap.size w w2) := ⟨by rw [HSL.out]; exact hr2, hb2⟩
        clear hr2 hk2 hb2
        go_wp2_with fail
        with_reducible refine (ok_some w2 _ g2 _ _ false H2.out.1).mono ?_
        rintro e w' ⟨rfl, rfl⟩
        go_wp2_with fail
        go_roundw
        case rel => exact ⟨i + 1, by omega, by go_num, H2⟩
        case measure => simp [intOf]; omega
      · have hmd : ((D : Int) % 66) = 65 := by omega
        have hwv : wid (N, D) = 64 := by unfold wid; simp only; omega
        rw [hwv] at hnum hmono hsl
        have HCL : Hid ((min (max (65 : Int) 0) 64).toNat = 64) := by show _ = _; omega
        have HGET : Hid (min (max (65 : Int) 0) 64 ≤ ((8 * (pack (ib its its.length)).length - (ib its i).length : Nat) : Int)) := by
          show _ ≤ _
          rw [hpk]; omega
        have HNUM : Hid ((numTo (pack (ib its its.length)) (ib its i).length 64 : Int) = (N : Int)) := by show _ = _; rw [hnum]; have := hN.out; omega
        have HSL := Lib.hid hsl
        clear hnum hmono hsl hpk hnb hwv hD
        go_wp2_with fail
        with_reducible refine (get_long wr _ g2 _ _ false _ HI.out.1 (pack_small _) HPL.out HRD.out HGET.out).mono ?_
        rintro e w2 ⟨rfl, hr2, hk2⟩
        rw [HCL.out] at hr2
        rw [HCL.out, HNUM.out]
        have hb2 : Below w.heap.size w w2 := HI.out.2.trans ((hk2 w.heap.size).below HG2.out)
        have H2 : Hid (Rr w2 BR g2 (pack (ib its its.length)) (ib its (i + 1)).length false ∧ Below w.heap.size w w2) := ⟨by rw [HSL.out]; exact hr2, hb2⟩
        clear hr2 hk2 hb2
        go_wp2_with fail
        with_reducible refine (ok_some w2 _ g2 _ _ false H2.out.1).mono ?_
        rintro e w' ⟨rfl, rfl⟩
        go_wp2_with fail
        go_roundw
        case rel => exact ⟨i + 1, by omega, by go_num, H2⟩
        case measure => simp [intOf]; omega
    · obtain rfl : i = its.length := by omega
      have hpk : (pack (ib its its.length)).length = nb (ib its its.length).length := pack_length _
      have hnb := (len_nb (ib its its.length).length).1
      have hend := endB_pack (ib its its.length)
      have HRD : Hid ((ib its its.length).length ≤ 8 * (pack (ib its its.length)).length) := by show _ ≤ _; rw [hpk]; omega
      have HEND := Lib.hid hend
      clear hpk hnb hend
      go_wp2_with fail
      with_reducible refine (end_some wr _ g2 _ _ false HI.out.1 (pack_small _) HPL.out HRD.out).mono ?_
      rintro e w' ⟨rfl, k, rfl⟩
      rw [HEND.out]
      go_wp2_with fail
      go_ret
      exact ⟨rfl, below_drewN HI.out.2 k⟩

/-! ### THE ROW's STEP: WRITTEN OUT: LEAVE IT -/
set_option maxRecDepth 100000 in
theorem lifted (os : Os) (started : os.Started) (H : Type) (enc : TypeId × Value → H) :
    ReturnsInHanded {} Try.checked os 3 .any (Rows.bitsBackSpec.pre6 enc Try.prog Try.f3 Rows.bitsBackRow.domain false) (Rows.bitsBackSpec.post enc Try.prog Try.f3 false true false false) := by
  refine returnsInHanded_of_change (C := Try.checked) own started (by kernel_rfl) Try.func3
    (ChangeSpec.witness6 (enc := enc) (C := Try.checked) false ⟨#[], #[.slice none 0 0], []⟩ 8 (by kernel_rfl) (by kernel_rfl) (by kernel_rfl) (by kernel_rfl)) ?_
  intro W base args ds gs before hval0 hW hcnd _
  have hval : ∀ (j : Nat) t v, Try.f3.params[j]? = some t → args[j]? = some v → Value.okWide Try.prog W .any base t v := hval0
  have hW' := hW
  obtain ⟨p, q, hA0, hV, rfl, hfz, hnd⟩ := hW
  have hA : DataW.TrodAll enc Try.prog W 0 (fun _ => true) true Try.f3.params.toList args.toList ds p := hA0
  rw [Try.params3] at hA hval
  obtain ⟨v0, vs0, d0, ds0, p0, q0, hargs, rfl, rfl, h0, r0⟩ := trodAll_cons hA
  obtain ⟨rfl, rfl, rfl⟩ := trodAll_nil r0
  obtain rfl : args = #[v0] := by cases args; simp_all
  obtain ⟨rfl, rfl⟩ := trodVars_none hV
  obtain ⟨a0, len0, cap0, rfl⟩ := okWide_slice Try.underlying22 (hval 0 22 v0 rfl rfl)
  have k0 := h0
  have lt0 : ∀ x ∈ p0, x.block < W.heap.size := by obtain ⟨m, hm⟩ := k0; exact DataW.trod_lt m _ _ _ hm
  obtain ⟨its, _, w0, s0⟩ := (by obtain ⟨fuel, hf⟩ := h0; exact its_of_trod hf : ∃ its : List (Nat × Nat), its.length = len0 ∧ Its W W.heap.size (.slice a0 len0 cap0) its ∧ ∀ x ∈ its, x.1 < 2 ^ 64 ∧ x.2 < 256)
  clear hA0 hval0
  refine (walk _ its W w0 s0).mono fun e W' ⟨he, bel⟩ => ?_
  subst he
  exact ⟨_, rfl, _, _, _, [], _, [], hW', trodAll_mk1 (shut_bool Try.underlying4 _), (trodAll_cons_mk (Below.trod laidOut (by kernel_rfl) (of_decide_eq_true (by kernel_rfl)) k0 bel lt0) trodAll_mk0), rfl, bel.frame _, fun h => by cases h⟩

theorem over : Rows.bitsBackRow.holds Try.pinned (OpenSpec.ofChange Rows.bitsBackSpec) :=
  OpenClaim.holds_of_wide 3 Try.f3 rfl rfl rfl rfl rfl rfl rfl ⟨rfl, rfl, rfl, rfl, rfl⟩ rfl rfl rfl rfl rfl (by kernel_rfl) Try.func3 (by kernel_rfl)
    (of_decide_eq_true (by kernel_rfl)) (by unfold Func.isWrapper; first | (rw [if_pos (by decide +kernel)]; kernel_rfl) | (rw [if_neg (by decide +kernel)]; exact ⟨rfl, rfl⟩))
    (fun os started H enc _ => lifted os started H enc)

/-- ████ THE STATEMENT ████ -/
theorem proved : Rows.BitsBackSaid := over
#print axioms proved
end Go.Proofs.Ytnnfkehpoeehbaa.bitsBack
