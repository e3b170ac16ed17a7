/-
  PROVED: for every input the law VerifyDrafts returns true and leaves its argument as it was: layouts that are made to be right are so: no rule is broken, and the document finds none, either. No condition.
-/
import Derived.Test.YtagkgejdammflaaGreatRows
import Derived.Test.YtagkgejdammflaaGreatV32
import Derived.Test.YtagkgejdammflaaGreatV33
import Derived.Test.YtagkgejdammflaaGreatFull
import Derived.WalkKit
import Derived.ProofKit
import Derived.OpenShut
import Derived.ShutString
import Derived.ChangeOld
import Derived.Below
namespace Go.Proofs.YtagkgejdammflaaGreat.verifyDrafts
open Go.ChangeShapes Go.WideShapes Go.ChangeAt Go.RowKit
open Go.ChangeMaps (open_string shut_string)
set_option linter.unusedVariables false
set_option maxRecDepth 100000

theorem own : ownKnob Tryz.prog.godebug = none := by kernel_rfl
theorem laidOut : laidOutB Tryz.prog = true := by kernel_rfl

set_option maxHeartbeats 8000000 in
theorem walk (d0 : Dr) (vr0 : Value) (w : World) (w0 : DrOk d0 ∧ BRows w w.heap.size vr0 d0.routes ∧ d0.routes.length ≤ 9223372036854775807 ∧ ∀ r ∈ d0.routes, r.length ≤ 9223372036854775807) :
    Calls Tryz.prog 3 #[drV d0 vr0] w fun e w' => e = .returned (.bool true) ∧ Below w.heap.size w w' := by
  obtain ⟨hd, hbr, hl, hrl⟩ := w0
  obtain ⟨Ar, kr, cr, hvr⟩ : ∃ A k c, vr0 = .slice A k c := by obtain ⟨vs, ⟨A, c, e, _⟩, _⟩ := hbr; exact ⟨A, _, c, e⟩
  subst hvr
  have HDK := Lib.hid hd
  have HL : Hid (d0.routes.length ≤ 9223372036854775807 ∧ ∀ r ∈ d0.routes, r.length ≤ 9223372036854775807) := ⟨hl, hrl⟩
  clear hd hl hrl
  have hb0 := (Below.refl w.heap.size w).alloc (Nat.le_refl _) (.cells #[.int .u8 (d0.form : Int), .int .u8 (d0.len : Int), .int .u8 (d0.speed : Int), .int .u16 (d0.mute : Int), .int .u16 (d0.wait : Int), .int .u8 (d0.cancel : Int), .int .u8 (d0.stay : Int), .int .u8 (d0.join : Int), .slice Ar kr cr] 25)
  have HB0 := Lib.hid hb0
  have HBR := Lib.hid (hbr.up hb0)
  have HRW := Lib.hid (Row.new w 25 #[.int .u8 (d0.form : Int), .int .u8 (d0.len : Int), .int .u8 (d0.speed : Int), .int .u16 (d0.mute : Int), .int .u16 (d0.wait : Int), .int .u8 (d0.cancel : Int), .int .u8 (d0.stay : Int), .int .u8 (d0.join : Int), .slice Ar kr cr])
  clear hb0 hbr
  unfold drV
  cases hs : small d0 with
  | false =>
    go_enter Tryz.func3, Tryz.ntmps3
    go_upto_region 1 with (fail)
    obtain ⟨g0, hg0⟩ : ∃ n, n = w.heap.size := ⟨_, rfl⟩
    rw [← hg0] at HRW ⊢
    have HG0 : Hid (g0 = w.heap.size) := hg0
    generalize w.alloc (.cells #[.int .u8 (d0.form : Int), .int .u8 (d0.len : Int), .int .u8 (d0.speed : Int), .int .u16 (d0.mute : Int), .int .u16 (d0.wait : Int), .int .u8 (d0.cancel : Int), .int .u8 (d0.stay : Int), .int .u8 (d0.join : Int), .slice Ar kr cr] 25) = W0 at *
    clear hg0
    go_wp2_with fail
    refine (nothing_any _).mono ?_; rintro e wA ⟨rfl, hbA⟩
    have HA := Lib.hid (HB0.out.trans (hbA.mono HB0.out.size))
    have HRA := Lib.hid (Below.row hbA HRW.out HRW.out.lt)
    have HBA := Lib.hid (HBR.out.up hbA)
    clear hbA HB0 HRW HBR
    have f0 := HRA.out.cell 0
    have f1 := HRA.out.cell 1
    have f2 := HRA.out.cell 2
    have f3 := HRA.out.cell 3
    have f4 := HRA.out.cell 4
    have f5 := HRA.out.cell 5
    have f6 := HRA.out.cell 6
    have f7 := HRA.out.cell 7
    have f8 := HRA.out.cell 8
    simp only [List.getElem?_toArray, List.getElem?_cons_zero, List.getElem?_cons_succ] at f0 f1 f2 f3 f4 f5 f6 f7 f8
    go_wp2_with fail
    refine (small_any wA d0 (.slice Ar kr cr) HBA.out HL.out.1 HL.out.2).mono ?_; rintro e wB ⟨rfl, hbB⟩
    clear f0 f1 f2 f3 f4 f5 f6 f7 f8
    rw [hs]
    have HB := Lib.hid (HA.out.trans (hbB.mono HA.out.size))
    have HRB := Lib.hid (Below.row hbB HRA.out HRA.out.lt)
    have HBB := Lib.hid (HBA.out.up hbB)
    clear hbB HA HRA HBA
    go_wp2_with fail
    refine (nothing_any _).mono ?_; rintro e wZ ⟨rfl, hbZ⟩
    have HZ := Lib.hid (HB.out.trans (hbZ.mono HB.out.size))
    clear hbZ
    go_wp2_with fail
    go_ret
    exact ⟨rfl, by rw [← HG0.out] at HZ ⊢; exact HZ.out⟩
  | true =>
    have HS := Lib.hid hs
    go_enter Tryz.func3, Tryz.ntmps3
    go_upto_region 1 with (fail)
    obtain ⟨g0, hg0⟩ : ∃ n, n = w.heap.size := ⟨_, rfl⟩
    rw [← hg0] at HRW ⊢
    have HG0 : Hid (g0 = w.heap.size) := hg0
    generalize w.alloc (.cells #[.int .u8 (d0.form : Int), .int .u8 (d0.len : Int), .int .u8 (d0.speed : Int), .int .u16 (d0.mute : Int), .int .u16 (d0.wait : Int), .int .u8 (d0.cancel : Int), .int .u8 (d0.stay : Int), .int .u8 (d0.join : Int), .slice Ar kr cr] 25) = W0 at *
    clear hg0
    go_wp2_with fail
    refine (nothing_any _).mono ?_; rintro e wA ⟨rfl, hbA⟩
    have HA := Lib.hid (HB0.out.trans (hbA.mono HB0.out.size))
    have HRA := Lib.hid (Below.row hbA HRW.out HRW.out.lt)
    have HBA := Lib.hid (HBR.out.up hbA)
    clear hbA HB0 HRW HBR
    have f0 := HRA.out.cell 0
    have f1 := HRA.out.cell 1
    have f2 := HRA.out.cell 2
    have f3 := HRA.out.cell 3
    have f4 := HRA.out.cell 4
    have f5 := HRA.out.cell 5
    have f6 := HRA.out.cell 6
    have f7 := HRA.out.cell 7
    have f8 := HRA.out.cell 8
    simp only [List.getElem?_toArray, List.getElem?_cons_zero, List.getElem?_cons_succ] at f0 f1 f2 f3 f4 f5 f6 f7 f8
    go_wp2_with fail
    refine (small_any wA d0 (.slice Ar kr cr) HBA.out HL.out.1 HL.out.2).mono ?_; rintro e wB ⟨rfl, hbB⟩
    clear f0 f1 f2 f3 f4 f5 f6 f7 f8
    rw [hs]
    have HB := Lib.hid (HA.out.trans (hbB.mono HA.out.size))
    have HRB := Lib.hid (Below.row hbB HRA.out HRA.out.lt)
    have HBB := Lib.hid (HBA.out.up hbB)
    clear hbB HA HRA HBA
    have f0 := HRB.out.cell 0
    have f1 := HRB.out.cell 1
    have f2 := HRB.out.cell 2
    have f3 := HRB.out.cell 3
    have f4 := HRB.out.cell 4
    have f5 := HRB.out.cell 5
    have f6 := HRB.out.cell 6
    have f7 := HRB.out.cell 7
    have f8 := HRB.out.cell 8
    simp only [List.getElem?_toArray, List.getElem?_cons_zero, List.getElem?_cons_succ] at f0 f1 f2 f3 f4 f5 f6 f7 f8
    go_wp2_with fail
    refine (full_any wB d0 (.slice Ar kr cr) HDK.out HBB.out hs).mono ?_; rintro e wC ⟨vL, rfl, hvL, hbL⟩
    clear f0 f1 f2 f3 f4 f5 f6 f7 f8
    have HC := Lib.hid (HB.out.trans (hbL.mono HB.out.size))
    clear hbL HB HRB HBB
    have HF0 : Hid (firstL (fullL d0) = (0, 0)) := full_first d0 HDK.out
    have HVF : Hid (Vf2 (fullL d0)) := ⟨full_vf d0, fun r hr => by have := (routes_full d0 HDK.out r hr).1; omega⟩
    generalize fullL d0 = L at *
    have HVL := Lib.hid hvL
    obtain ⟨A0, k0, c0, A1, k1, c1, A2, k2, c2, A3, k3, c3, A4, k4, c4, t0, t1, t2, t3, t4, hv, hk0, hk1, hk2, hk3⟩ := hvL.lens
    subst hv
    have HK : Hid (L.nodes.length = k0 ∧ L.secs.length = k1 ∧ L.parts.length = k2 ∧ L.points.length = k3) := ⟨hk0, hk1, hk2, hk3⟩
    clear hvL hk0 hk1 hk2 hk3
    have hb2 := (Below.refl wC.heap.size wC).alloc (Nat.le_refl _) (.cells #[.slice A0 k0 c0, .slice A1 k1 c1, .slice A2 k2 c2, .slice A3 k3 c3, .slice A4 k4 c4, .int .i64 t0, .int .i64 t1, .int .i64 t2, .int .i64 t3, .int .i64 t4] 33)
    have HD : Hid (FiSt w wC.heap.size #[.slice A0 k0 c0, .slice A1 k1 c1, .slice A2 k2 c2, .slice A3 k3 c3, .slice A4 k4 c4, .int .i64 t0, .int .i64 t1, .int .i64 t2, .int .i64 t3, .int .i64 t4] L (wC.alloc (.cells #[.slice A0 k0 c0, .slice A1 k1 c1, .slice A2 k2 c2, .slice A3 k3 c3, .slice A4 k4 c4, .int .i64 t0, .int .i64 t1, .int .i64 t2, .int .i64 t3, .int .i64 t4] 33))) := ⟨HC.out.trans (hb2.mono HC.out.size), Row.new wC 33 #[.slice A0 k0 c0, .slice A1 k1 c1, .slice A2 k2 c2, .slice A3 k3 c3, .slice A4 k4 c4, .int .i64 t0, .int .i64 t1, .int .i64 t2, .int .i64 t3, .int .i64 t4], HVL.out.up hb2⟩
    clear hb2 HC HVL
    go_upto_region 4 with (fail)
    obtain ⟨nL, hnL⟩ : ∃ n, n = wC.heap.size := ⟨_, rfl⟩
    rw [← hnL] at HD ⊢
    clear hnL
    generalize wC.alloc (.cells #[.slice A0 k0 c0, .slice A1 k1 c1, .slice A2 k2 c2, .slice A3 k3 c3, .slice A4 k4 c4, .int .i64 t0, .int .i64 t1, .int .i64 t2, .int .i64 t3, .int .i64 t4] 33) = wD at *
    have p0 := HD.out.row.cell 0
    have p1 := HD.out.row.cell 1
    have p2 := HD.out.row.cell 2
    have p3 := HD.out.row.cell 3
    have p4 := HD.out.row.cell 4
    have p5 := HD.out.row.cell 5
    have p6 := HD.out.row.cell 6
    have p7 := HD.out.row.cell 7
    have p8 := HD.out.row.cell 8
    have p9 := HD.out.row.cell 9
    simp only [List.getElem?_toArray, List.getElem?_cons_zero, List.getElem?_cons_succ] at p0 p1 p2 p3 p4 p5 p6 p7 p8 p9
    have hra := right_any wD _ L HD.out.lay HVF.out.v
    rw [HF0.out] at hra
    go_wp2_with fail
    refine hra.mono ?_; rintro e wE ⟨rfl, hbE⟩
    clear p0 p1 p2 p3 p4 p5 p6 p7 p8 p9
    have HE := Lib.hid (HD.out.call hbE)
    clear hbE HD hra
    have p0 := HE.out.row.cell 0
    have p1 := HE.out.row.cell 1
    have p2 := HE.out.row.cell 2
    have p3 := HE.out.row.cell 3
    have p4 := HE.out.row.cell 4
    have p5 := HE.out.row.cell 5
    have p6 := HE.out.row.cell 6
    have p7 := HE.out.row.cell 7
    have p8 := HE.out.row.cell 8
    have p9 := HE.out.row.cell 9
    simp only [List.getElem?_toArray, List.getElem?_cons_zero, List.getElem?_cons_succ] at p0 p1 p2 p3 p4 p5 p6 p7 p8 p9
    go_wp2_with fail
    refine (judged_any wE _ L HE.out.lay HVF.out).mono ?_; rintro e wF ⟨rfl, hbF⟩
    clear p0 p1 p2 p3 p4 p5 p6 p7 p8 p9
    have HF := Lib.hid (HE.out.call hbF)
    clear hbF HE
    go_wp2_with fail
    go_ret
    exact ⟨rfl, HF.out.bel⟩

theorem lifted (os : Os) (started : os.Started) (H : Type) (enc : TypeId × Value → H) :
    ReturnsInHanded {} Tryz.checked os 3 .any (Rows.verifyDraftsSpec.pre6 enc Tryz.prog Tryz.f3 Rows.verifyDraftsRow.domain false) (Rows.verifyDraftsSpec.post enc Tryz.prog Tryz.f3 false true false false) := by
  refine returnsInHanded_of_change (C := Tryz.checked) own started (by kernel_rfl) Tryz.func3
    (ChangeSpec.witness6 (enc := enc) (C := Tryz.checked) false ⟨#[], #[.agg #[.int .u8 0, .int .u8 0, .int .u8 0, .int .u16 0, .int .u16 0, .int .u8 0, .int .u8 0, .int .u8 0, .slice none 0 0]], []⟩ 8 (by kernel_rfl) (by kernel_rfl) (by kernel_rfl) (by kernel_rfl)) ?_
  intro W base args ds gs before hval0 hW hcnd _
  have hval : ∀ (j : Nat) t v, Tryz.f3.params[j]? = some t → args[j]? = some v → Value.okWide Tryz.prog W .any base t v := hval0
  have hW' := hW
  obtain ⟨p, q, hA0, hV, rfl, hfz, hnd⟩ := hW
  have hA : DataW.TrodAll enc Tryz.prog W 0 (fun _ => true) true Tryz.f3.params.toList args.toList ds p := hA0
  rw [Tryz.params3] at hA hval
  obtain ⟨v0, vs0, d0, ds0, p0, q0, hargs, rfl, rfl, h0, r0⟩ := trodAll_cons hA
  obtain ⟨rfl, rfl, rfl⟩ := trodAll_nil r0
  obtain rfl : args = #[v0] := by cases args; simp_all
  obtain ⟨rfl, rfl⟩ := trodVars_none hV
  have k0 := h0
  have lt0 : ∀ x ∈ p0, x.block < W.heap.size := by obtain ⟨m, hm⟩ := k0; exact DataW.trod_lt m _ _ _ hm
  obtain ⟨e0, vr0, hv0, w0⟩ := draft_of_trod (hval 0 25 v0 rfl rfl) h0
  subst hv0
  clear hA0 hval0
  refine (walk e0 vr0 W w0).mono fun e W' ⟨he, bel⟩ => ?_
  subst he
  exact ⟨_, rfl, _, _, _, [], _, [], hW', trodAll_mk1 (shut_bool Tryz.underlying4 _), (trodAll_cons_mk (Below.trod laidOut (by kernel_rfl) (of_decide_eq_true (by kernel_rfl)) k0 bel lt0) trodAll_mk0), rfl, bel.frame _, fun h => by cases h⟩

theorem over : Rows.verifyDraftsRow.holds Tryz.pinned (OpenSpec.ofChange Rows.verifyDraftsSpec) :=
  OpenClaim.holds_of_wide 3 Tryz.f3 rfl rfl rfl rfl rfl rfl rfl ⟨rfl, rfl, rfl, rfl, rfl⟩ rfl rfl rfl rfl rfl (by kernel_rfl) Tryz.func3 (by kernel_rfl)
    (of_decide_eq_true (by kernel_rfl)) (by unfold Func.isWrapper; first | (rw [if_pos (by decide +kernel)]; kernel_rfl) | (rw [if_neg (by decide +kernel)]; exact ⟨rfl, rfl⟩))
    (fun os started H enc _ => lifted os started H enc)

theorem proved : Rows.VerifyDraftsSaid := over
#print axioms proved
end Go.Proofs.YtagkgejdammflaaGreat.verifyDrafts
