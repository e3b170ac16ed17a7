/-
  PROVED: for every two uint64 and two uint8, the law BitsJoins of package bits answers true (numbers laid one behind the other are one number, as long as it has room). No condition.
-/
import Derived.Test.YtnnfkehpoeehbaaRows
import Derived.Test.YtnnfkehpoeehbaaAid
import Derived.WalkKit
import Derived.ProofKit
import Derived.OpenShut
import Derived.ShutString
namespace Go.Proofs.Ytnnfkehpoeehbaa.bitsJoins
open Go.ChangeShapes Go.WideShapes Go.ChangeAt Go.RowKit
open Go.RowKit
open Go.ChangeMaps (open_string shut_string)
set_option linter.unusedVariables false      -- a walk need not use every 'w<i>' (that an integer argument fits its kind)

theorem own : ownKnob Try.prog.godebug = none := by kernel_rfl

/-! ### STEP 1: THE WALK: the Go text returns true. 'Grown w w'': the world has at most new blocks (Derived/RowKit3.lean). Part the cases AHEAD of 'go_enter' where a test parts the walk; take each callee by a contract of your own. -/
theorem wf_nat {k : IntKind} {a : Int} (h : (Lit.int k a).wf = true) (hk : k.min = 0) : ∃ n : Nat, a = (n : Int) ∧ (n : Int) ≤ k.max := by
  simp only [Lit.wf, Bool.and_eq_true, decide_eq_true_eq] at h
  rw [hk] at h
  obtain ⟨n, rfl⟩ := Int.eq_ofNat_of_zero_le h.1
  exact ⟨n, rfl, h.2⟩

theorem wrap_u64 (x : Int) : IntKind.u64.wrap x = x % 18446744073709551616 := by simp [IntKind.wrap, IntKind.bits, IntKind.signed]

theorem wrap_pow (m : Nat) (hm : m ≤ 32) : IntKind.u64.wrap ((2 : Int) ^ m) = 2 ^ m := by
  rw [wrap_u64]
  have h : (2 : Nat) ^ m ≤ 2 ^ 32 := Nat.pow_le_pow_right (by decide) hm
  have e : (2 : Int) ^ m = ((2 ^ m : Nat) : Int) := by simp
  rw [e]
  generalize 2 ^ m = z at h
  omega

theorem or_join (A b m : Nat) (hm : m ≤ 32) : bits .or .u64 (IntKind.u64.wrap ((A : Int) * 2 ^ m)) ((b : Int) % 2 ^ m) = ((A * 2 ^ m % 2 ^ 64 ||| b % 2 ^ m : Nat) : Int) := by
  have e1 : IntKind.u64.wrap ((A : Int) * 2 ^ m) = ((A * 2 ^ m % 2 ^ 64 : Nat) : Int) := by
    rw [wrap_u64]
    have e : (A : Int) * 2 ^ m = ((A * 2 ^ m : Nat) : Int) := by simp
    rw [e]
    generalize A * 2 ^ m = z
    omega
  have e2 : (b : Int) % 2 ^ m = ((b % 2 ^ m : Nat) : Int) := by simp
  have h1 : (2 : Nat) ^ m ≤ 2 ^ 32 := Nat.pow_le_pow_right (by decide) hm
  have h2 : b % 2 ^ m < 2 ^ m := Nat.mod_lt _ (Nat.two_pow_pos m)
  rw [e1, e2, u64_or_nat _ _ (by omega) (by omega)]

set_option maxHeartbeats 4000000 in
theorem walk (a0 : Int) (a1 : Int) (a2 : Int) (a3 : Int) (w0 : (Lit.int .u64 a0).wf = true) (w1 : (Lit.int .u64 a1).wf = true) (w2 : (Lit.int .u8 a2).wf = true) (w3 : (Lit.int .u8 a3).wf = true) (w : World) :
    Calls Try.prog 8 #[.int .u64 a0, .int .u64 a1, .int .u8 a2, .int .u8 a3] w fun e w' => e = .returned (.bool true) ∧ Below w.heap.size w w' := by
  obtain ⟨A, rfl, hA⟩ := wf_nat w0 (by decide)
  obtain ⟨Bn, rfl, hBn⟩ := wf_nat w1 (by decide)
  obtain ⟨wd, rfl, hwd⟩ := wf_nat w2 (by decide)
  obtain ⟨mr, rfl, hmr⟩ := wf_nat w3 (by decide)
  rw [show IntKind.u64.max = 18446744073709551615 from by decide] at hA hBn
  rw [show IntKind.u8.max = 255 from by decide] at hwd hmr
  clear w0 w1 w2 w3
  have hA' := Lib.hid hA; have hB' := Lib.hid hBn
  clear hA hBn
  have r1 := Row.new w 52 #[.slice none 0 0, .int .i64 0]
  have r2 := Row.new (w.alloc (.cells #[.slice none 0 0, .int .i64 0] 52)) 52 #[.slice none 0 0, .int .i64 0]
  have hb0 : Below w.heap.size w ((w.alloc (.cells #[.slice none 0 0, .int .i64 0] 52)).alloc (.cells #[.slice none 0 0, .int .i64 0] 52)) := ((Below.refl _ _).alloc (Nat.le_refl _) _).alloc (by simp) _
  have R1 := Lib.hid (r1.alloc (.cells #[.slice none 0 0, .int .i64 0] 52)); have R2 := Lib.hid r2; have HB0 := Lib.hid hb0
  clear r1 r2 hb0
  go_enter Try.func8, Try.ntmps8
  go_wp2_with fail
  rw [show ((wd : Int) % 33) = ((wd % 33 : Nat) : Int) from by omega, show ((mr : Int) % 33) = ((mr % 33 : Nat) : Int) from by omega]
  have hn : wd % 33 ≤ 32 := by omega
  have hm : mr % 33 ≤ 32 := by omega
  generalize wd % 33 = n at *
  generalize mr % 33 = m at *
  refine (put_nat _ (w.heap.size + 2) w.heap.size [] A n ⟨_, R1.out, World.ownsRow_nil _ _ _ _⟩ (by simp) (by simp) (by omega)).mono ?_
  rintro e wa ⟨rfl, hwa, hka⟩
  have HWA := Lib.hid hwa; have HKA := Lib.hid hka
  clear hwa hka
  go_wp2_with fail
  refine (put_nat wa (w.heap.size + 2) w.heap.size _ Bn m HWA.out (by have := HKA.out.size; simp at this; omega) (by simp [numBits_length]; omega) (by omega)).mono ?_
  rintro e wb ⟨rfl, hwb, hkb⟩
  have hkb2 := HKA.out.trans hkb
  have hr2 : Row wb (w.heap.size + 1) 52 #[.slice none 0 0, .int .i64 0] := hkb2.row (by have := R2.out; simpa using this) (by omega) (by omega)
  have hbb : Below w.heap.size w wb := HB0.out.trans ((hkb2.mono (by omega)).below (Nat.le_refl _))
  have HWB := Lib.hid hwb; have HR2 := Lib.hid hr2; have HBB := Lib.hid hbb
  clear hwb hkb hkb2 hr2 hbb HWA HKA R1 R2 HB0
  have hpow := wrap_pow m hm
  have hne : ¬ (2 : Int) ^ m = 0 := by have : (0 : Int) < 2 ^ m := Int.pow_pos (by decide); omega
  go_wp2_with fail
  rw [or_join A Bn m hm, show ((n : Int) + (m : Int)) = ((n + m : Nat) : Int) from by simp]
  clear hpow hne
  refine (put_nat wb wb.heap.size (w.heap.size + 1) [] _ (n + m) ⟨_, HR2.out, World.ownsRow_nil _ _ _ _⟩ (Nat.le_refl _) (by simp) (by omega)).mono ?_
  rintro e wc ⟨rfl, hwc, hkc⟩
  have hwc1 : Wr wc (w.heap.size + 2) w.heap.size ([] ++ numBits A n ++ numBits Bn m) := hkc.wr HWB.out (Nat.le_refl _) (by omega) HR2.out (by decide)
  have hbc : Below w.heap.size w wc := HBB.out.trans ((hkc.mono HBB.out.size).below (by omega))
  rw [numBits_join A Bn n m hn hm] at hwc
  have HWC := Lib.hid hwc; have HWC1 := Lib.hid hwc1; have HBC := Lib.hid hbc
  clear hwc hkc hwc1 hbc HWB HR2 HBB
  go_wp2_with fail
  refine (five_any _).mono ?_; rintro e wd' ⟨rfl, hbd⟩
  have HWD := Lib.hid (Below.wr hbd HWC.out (Nat.le_refl _)); have HWD1 := Lib.hid (Below.wr hbd HWC1.out (Nat.le_refl _)); have HBD := Lib.hid (HBC.out.trans (hbd.mono HBC.out.size))
  clear hbd HWC HWC1 HBC
  go_wp2_with fail
  refine (len_some wd' _ _ _ HWD1.out).mono ?_; rintro e w' ⟨rfl, rfl⟩
  rw [show ((([] ++ numBits A n ++ numBits Bn m : List Bool).length : Nat) : Int) = ((n + m : Nat) : Int) from by simp [numBits_length]]
  go_wp2_with fail
  refine (bytes_some wd' _ _ _ HWD1.out (by simp [numBits_length]; omega)).mono ?_
  rintro e we ⟨ve, rfl, hoe, hbe⟩
  have HWE := Lib.hid (Below.wr hbe HWD.out (Nat.le_refl _)); have HBE := Lib.hid (HBD.out.trans (hbe.mono HBD.out.size)); have HOE := Lib.hid hoe
  clear hoe hbe HWD HWD1 HBD
  go_wp2_with fail
  refine (bytes_some we _ _ _ HWE.out (by simp [numBits_length]; omega)).mono ?_
  rintro e wf ⟨vf, rfl, hof, hbf⟩
  have HRE := Lib.hid ((Rd.of_own HOE.out).mono hbf.size fun p hp => hbf.cell hp); have HBF := Lib.hid (HBE.out.trans (hbf.mono HBE.out.size)); have HRF := Lib.hid (Rd.of_own hof)
  clear hof hbf HBE HOE HWE
  rw [List.nil_append] at HRE
  rw [List.nil_append] at HRF
  go_wp2_with fail
  refine (refBytes_true wf _ ve vf _ HRE.out HRF.out (by rw [pack_length]; unfold nb; simp [numBits_length]; omega)).mono ?_
  rintro e w' ⟨rfl, k, rfl⟩
  go_wp2_with fail
  go_ret
  exact ⟨rfl, below_drewN HBF.out k⟩

/-! ### THE ROW's STEP: WRITTEN OUT: LEAVE IT -/
set_option maxRecDepth 100000 in
theorem lifted (os : Os) (started : os.Started) (H : Type) (enc : TypeId × Value → H) :
    ReturnsInHanded {} Try.checked os 8 .any (Rows.bitsJoinsSpec.pre6 enc Try.prog Try.f8 Rows.bitsJoinsRow.domain false) (Rows.bitsJoinsSpec.post enc Try.prog Try.f8 false true false false) := by
  refine returnsInHanded_of_change (C := Try.checked) own started (by kernel_rfl) Try.func8
    (ChangeSpec.witness6 (enc := enc) (C := Try.checked) false ⟨#[], #[.int .u64 0, .int .u64 0, .int .u8 0, .int .u8 0], []⟩ 8 (by kernel_rfl) (by kernel_rfl) (by kernel_rfl) (by kernel_rfl)) ?_
  intro W base args ds gs before hval0 hW hcnd _
  have hval : ∀ (j : Nat) t v, Try.f8.params[j]? = some t → args[j]? = some v → Value.okWide Try.prog W .any base t v := hval0
  have hW' := hW
  obtain ⟨p, q, hA0, hV, rfl, hfz, hnd⟩ := hW
  have hA : DataW.TrodAll enc Try.prog W 0 (fun _ => true) true Try.f8.params.toList args.toList ds p := hA0
  rw [Try.params8] at hA hval
  obtain ⟨v0, vs0, d0, ds0, p0, q0, hargs, rfl, rfl, h0, r0⟩ := trodAll_cons hA
  obtain ⟨v1, vs1, d1, ds1, p1, q1, rfl, rfl, rfl, h1, r1⟩ := trodAll_cons r0
  obtain ⟨v2, vs2, d2, ds2, p2, q2, rfl, rfl, rfl, h2, r2⟩ := trodAll_cons r1
  obtain ⟨v3, vs3, d3, ds3, p3, q3, rfl, rfl, rfl, h3, r3⟩ := trodAll_cons r2
  obtain ⟨rfl, rfl, rfl⟩ := trodAll_nil r3
  obtain rfl : args = #[v0, v1, v2, v3] := by cases args; simp_all
  obtain ⟨rfl, rfl⟩ := trodVars_none hV
  obtain ⟨a0, rfl, rfl, rfl, w0⟩ := open_int Try.underlying36 (hval 0 36 v0 rfl rfl) h0
  obtain ⟨a1, rfl, rfl, rfl, w1⟩ := open_int Try.underlying36 (hval 1 36 v1 rfl rfl) h1
  obtain ⟨a2, rfl, rfl, rfl, w2⟩ := open_int Try.underlying5 (hval 2 5 v2 rfl rfl) h2
  obtain ⟨a3, rfl, rfl, rfl, w3⟩ := open_int Try.underlying5 (hval 3 5 v3 rfl rfl) h3
  clear hA0 hval0
  simp only [List.append_nil] at hW'
  refine (walk a0 a1 a2 a3 w0 w1 w2 w3 W).mono fun e W' ⟨he, hg⟩ => ?_
  subst he
  exact ⟨_, rfl, _, _, _, [], [], [], hW', (trodAll_cons_mk (shut_bool Try.underlying4 _) trodAll_mk0), (trodAll_cons_mk (shut_int Try.underlying36 w0) (trodAll_cons_mk (shut_int Try.underlying36 w1) (trodAll_cons_mk (shut_int Try.underlying5 w2) (trodAll_cons_mk (shut_int Try.underlying5 w3) trodAll_mk0)))), rfl, hg.frame _, fun h => by cases h⟩

theorem over : Rows.bitsJoinsRow.holds Try.pinned (OpenSpec.ofChange Rows.bitsJoinsSpec) :=
  OpenClaim.holds_of_wide 8 Try.f8 rfl rfl rfl rfl rfl rfl rfl ⟨rfl, rfl, rfl, rfl, rfl⟩ rfl rfl rfl rfl rfl (by kernel_rfl) Try.func8 (by kernel_rfl)
    (of_decide_eq_true (by kernel_rfl)) (by unfold Func.isWrapper; first | (rw [if_pos (by decide +kernel)]; kernel_rfl) | (rw [if_neg (by decide +kernel)]; exact ⟨rfl, rfl⟩))
    (fun os started H enc _ => lifted os started H enc)

/-- ████ THE STATEMENT ████ -/
theorem proved : Rows.BitsJoinsSaid :=
  over
#print axioms proved
end Go.Proofs.Ytnnfkehpoeehbaa.bitsJoins
