/-
  PROVED: for every input the law LayoutCut returns true and leaves its arguments as they were: bytes that end too soon, with a sum of their own, are no layout. No condition.
-/
import Derived.Test.YthpfhcelmddjlaaRows
import Derived.Test.YthpfhcelmddjlaaRm
import Derived.WalkKit
import Derived.ProofKit
import Derived.OpenShut
import Derived.ShutString
import Derived.ChangeOld
import Derived.Below
namespace Go.Proofs.Ythpfhcelmddjlaa.layoutCut
open Go.ChangeShapes Go.WideShapes Go.ChangeAt Go.RowKit
open Go.ChangeMaps (open_string shut_string)
set_option linter.unusedVariables false
set_option maxRecDepth 100000

theorem own : ownKnob Try.prog.godebug = none := by kernel_rfl
theorem laidOut : laidOutB Try.prog = true := by kernel_rfl

set_option maxHeartbeats 8000000 in
theorem walk (d0 : Dr) (vr0 : Value) (a1 : Int) (w : World) (w0 : DrOk d0 ∧ BRows w w.heap.size vr0 d0.routes ∧ d0.routes.length ≤ 9223372036854775807 ∧ ∀ r ∈ d0.routes, r.length ≤ 9223372036854775807) (w1 : (Lit.int .u16 a1).wf = true) :
    Calls Try.prog 8 #[drV d0 vr0, .int .u16 a1] w fun e w' => e = .returned (.bool true) ∧ Below w.heap.size w w' := by
  obtain ⟨n1, hn1, hn2⟩ := u16_nat w1
  subst hn1
  clear w1
  obtain ⟨hd, hbr, hl, hrl⟩ := w0
  obtain ⟨Ar, kr, cr, hvr⟩ : ∃ A k c, vr0 = .slice A k c := by obtain ⟨vs, ⟨A, c, e, _⟩, _⟩ := hbr; exact ⟨A, _, c, e⟩
  subst hvr
  have HDK := Lib.hid hd
  have HL : Hid (d0.routes.length ≤ 9223372036854775807 ∧ ∀ r ∈ d0.routes, r.length ≤ 9223372036854775807) := ⟨hl, hrl⟩
  clear hd hl hrl
  have hb0 := (Below.refl w.heap.size w).alloc (Nat.le_refl _) (.cells #[.int .u8 (d0.form : Int), .int .u8 (d0.len : Int), .int .u8 (d0.speed : Int), .int .u16 (d0.mute : Int), .int .u16 (d0.wait : Int), .int .u8 (d0.cancel : Int), .int .u8 (d0.stay : Int), .int .u8 (d0.join : Int), .slice Ar kr cr] 25)
  have HB0 := Lib.hid hb0
  have HBR := Lib.hid (hbr.up hb0)
  have HRW := Lib.hid (Row.new w 25 #[.int .u8 (d0.form : Int), .int .u8 (d0.len : Int), .int .u8 (d0.speed : Int), .int .u16 (d0.mute : Int), .int .u16 (d0.wait : Int), .int .u8 (d0.cancel : Int), .int .u8 (d0.stay : Int), .int .u8 (d0.join : Int), .slice Ar kr cr])
  clear hb0 hbr
  unfold drV
  cases hs : small d0 with
  | false =>
    go_enter Try.func8, Try.ntmps8
    go_upto_region 1 with (fail)
    obtain ⟨g0, hg0⟩ : ∃ n, n = w.heap.size := ⟨_, rfl⟩
    rw [← hg0] at HRW ⊢
    have HG0 : Hid (g0 = w.heap.size) := hg0
    generalize w.alloc (.cells #[.int .u8 (d0.form : Int), .int .u8 (d0.len : Int), .int .u8 (d0.speed : Int), .int .u16 (d0.mute : Int), .int .u16 (d0.wait : Int), .int .u8 (d0.cancel : Int), .int .u8 (d0.stay : Int), .int .u8 (d0.join : Int), .slice Ar kr cr] 25) = W0 at *
    clear hg0
    go_wp2_with fail
    refine (bare_any _).mono ?_; rintro e wA ⟨rfl, hbA⟩
    have HA := Lib.hid (HB0.out.trans (hbA.mono HB0.out.size))
    have HRA := Lib.hid (Below.row hbA HRW.out HRW.out.lt)
    have HBA := Lib.hid (HBR.out.up hbA)
    clear hbA HB0 HRW HBR
    have f0 := HRA.out.cell 0
    have f1 := HRA.out.cell 1
    have f2 := HRA.out.cell 2
    have f3 := HRA.out.cell 3
    have f4 := HRA.out.cell 4
    have f5 := HRA.out.cell 5
    have f6 := HRA.out.cell 6
    have f7 := HRA.out.cell 7
    have f8 := HRA.out.cell 8
    simp only [List.getElem?_toArray, List.getElem?_cons_zero, List.getElem?_cons_succ] at f0 f1 f2 f3 f4 f5 f6 f7 f8
    go_wp2_with fail
    refine (small_any wA d0 (.slice Ar kr cr) HBA.out HL.out.1 HL.out.2).mono ?_; rintro e wB ⟨rfl, hbB⟩
    clear f0 f1 f2 f3 f4 f5 f6 f7 f8
    rw [hs]
    have HB := Lib.hid (HA.out.trans (hbB.mono HA.out.size))
    have HRB := Lib.hid (Below.row hbB HRA.out HRA.out.lt)
    have HBB := Lib.hid (HBA.out.up hbB)
    clear hbB HA HRA HBA
    go_wp2_with fail
    refine (bare_any _).mono ?_; rintro e wZ ⟨rfl, hbZ⟩
    have HZ := Lib.hid (HB.out.trans (hbZ.mono HB.out.size))
    clear hbZ
    go_wp2_with fail
    go_ret
    exact ⟨rfl, by rw [← HG0.out] at HZ ⊢; exact HZ.out⟩
  | true =>
    have HS := Lib.hid hs
    go_enter Try.func8, Try.ntmps8
    go_upto_region 1 with (fail)
    obtain ⟨g0, hg0⟩ : ∃ n, n = w.heap.size := ⟨_, rfl⟩
    rw [← hg0] at HRW ⊢
    have HG0 : Hid (g0 = w.heap.size) := hg0
    generalize w.alloc (.cells #[.int .u8 (d0.form : Int), .int .u8 (d0.len : Int), .int .u8 (d0.speed : Int), .int .u16 (d0.mute : Int), .int .u16 (d0.wait : Int), .int .u8 (d0.cancel : Int), .int .u8 (d0.stay : Int), .int .u8 (d0.join : Int), .slice Ar kr cr] 25) = W0 at *
    clear hg0
    go_wp2_with fail
    refine (bare_any _).mono ?_; rintro e wA ⟨rfl, hbA⟩
    have HA := Lib.hid (HB0.out.trans (hbA.mono HB0.out.size))
    have HRA := Lib.hid (Below.row hbA HRW.out HRW.out.lt)
    have HBA := Lib.hid (HBR.out.up hbA)
    clear hbA HB0 HRW HBR
    have f0 := HRA.out.cell 0
    have f1 := HRA.out.cell 1
    have f2 := HRA.out.cell 2
    have f3 := HRA.out.cell 3
    have f4 := HRA.out.cell 4
    have f5 := HRA.out.cell 5
    have f6 := HRA.out.cell 6
    have f7 := HRA.out.cell 7
    have f8 := HRA.out.cell 8
    simp only [List.getElem?_toArray, List.getElem?_cons_zero, List.getElem?_cons_succ] at f0 f1 f2 f3 f4 f5 f6 f7 f8
    go_wp2_with fail
    refine (small_any wA d0 (.slice Ar kr cr) HBA.out HL.out.1 HL.out.2).mono ?_; rintro e wB ⟨rfl, hbB⟩
    clear f0 f1 f2 f3 f4 f5 f6 f7 f8
    rw [hs]
    have HB := Lib.hid (HA.out.trans (hbB.mono HA.out.size))
    have HRB := Lib.hid (Below.row hbB HRA.out HRA.out.lt)
    have HBB := Lib.hid (HBA.out.up hbB)
    clear hbB HA HRA HBA
    have f0 := HRB.out.cell 0
    have f1 := HRB.out.cell 1
    have f2 := HRB.out.cell 2
    have f3 := HRB.out.cell 3
    have f4 := HRB.out.cell 4
    have f5 := HRB.out.cell 5
    have f6 := HRB.out.cell 6
    have f7 := HRB.out.cell 7
    have f8 := HRB.out.cell 8
    simp only [List.getElem?_toArray, List.getElem?_cons_zero, List.getElem?_cons_succ] at f0 f1 f2 f3 f4 f5 f6 f7 f8
    go_wp2_with fail
    refine (rough_any wB d0 (.slice Ar kr cr) HDK.out HBB.out hs).mono ?_; rintro e wC ⟨vL, rfl, hvL, hbvL⟩
    clear f0 f1 f2 f3 f4 f5 f6 f7 f8
    have HC := Lib.hid (HB.out.trans (hbvL.mono HB.out.size))
    have HVL := Lib.hid hvL
    clear hvL hbvL HB HRB HBB
    obtain ⟨L, hL⟩ : ∃ L, L = roughL d0 := ⟨_, rfl⟩
    have HLR := Lib.hid hL
    rw [← hL] at HVL
    clear hL
    go_wp2_with fail
    refine (refEncode_any wC vL L HVL.out (by rw [HLR.out]; exact rough_modest HS.out)).mono ?_; rintro e wD ⟨vp, rfl, hop, hbD⟩
    have HD := Lib.hid (HC.out.trans (hbD.mono HC.out.size))
    clear hbD HC HVL
    obtain ⟨Q, hQ⟩ : ∃ Q, Q = pack (enc L) := ⟨_, rfl⟩
    rw [← hQ] at hop
    have HQ := Lib.hid hQ
    obtain ⟨m, hm⟩ : ∃ m, Q.length = m := ⟨_, rfl⟩
    have HM := Lib.hid hm
    have hm1 : m ≤ 500 := by rw [← hm, hQ, HLR.out]; exact rough_bytes HS.out
    have hm2 : 2 ≤ m := by rw [← hm, hQ]; exact enc_two L
    have hop2 := hop
    rw [closed_length, hm] at hop2
    obtain ⟨Ap, cp, hvp⟩ := own_slice hop2
    subst hvp
    have hcap : m + 2 ≤ cp := own_cap hop2
    have HRP := Lib.hid (Rd.of_own hop)
    clear hop hop2 hQ hm
    obtain ⟨k, HK⟩ : ∃ k, Hid (n1 % m = k ∧ k < m) := ⟨_, rfl, Nat.mod_lt _ (by omega)⟩
    have hk : k < m := HK.out.2
    have hk1 : (n1 : Int).tmod (m : Int) = (k : Int) := by rw [Int.tmod_eq_emod_of_nonneg (by omega)]; have := HK.out.1; rw [← this]; simp
    have hk2 : (n1 : Int) % (m : Int) = (k : Int) := by have := HK.out.1; rw [← this]; simp
    go_wp2_with fail
    clear hk1 hk2
    have HRK : Hid (Rd wD wD.heap.size (.slice Ap k cp) (bvals (Q.take k))) := by
      have h := HRP.out.take k (by rw [bvals_length, closed_length, HM.out]; omega)
      have e : (bvals (closed Q)).take k = bvals (Q.take k) := by unfold bvals; rw [← List.map_take, take_closed Q k (by have := HM.out; omega)]
      rwa [e] at h
    have HSM : Hid (∀ x ∈ Q.take k, x < 256) := fun x hx => by have h := List.mem_of_mem_take hx; rw [HQ.out] at h; exact pack_small _ x h
    have HTL : Hid ((Q.take k).length ≤ 500) := by show _ ≤ _; rw [List.length_take, HM.out]; omega
    have HDC : Hid (dec (closed (Q.take k)) = (L0, if k < 2 then 2 else 4)) := by
      show _ = _
      have h1 := dec_cut L (by rw [HLR.out]; exact rough_room HS.out) k (by rw [← HQ.out, HM.out]; exact hk)
      rw [← HQ.out] at h1; exact h1
    refine (refClose_any wD wD.heap.size _ (Q.take k) HRK.out (Nat.le_refl _) HSM.out (by have := HTL.out; omega)).mono ?_; rintro e wE ⟨vc, rfl, hoc, hbE⟩
    have HE := Lib.hid (HD.out.trans (hbE.mono HD.out.size))
    have HOC := Lib.hid (Rd.of_own hoc)
    clear hbE hoc HD HRP HRK
    go_wp2_with fail
    refine (decode_any wE vc (closed (Q.take k)) HOC.out (closed_small HSM.out) (by have := HTL.out; rw [closed_length]; omega)).mono ?_; rintro e wF ⟨v1, rfl, hv1, hbF⟩
    rw [HDC.out] at hv1 ⊢
    have HF := Lib.hid (HE.out.trans (hbF.mono HE.out.size))
    have HV1 := Lib.hid hv1
    obtain ⟨A0, k0, c0, A1, k1, c1, A2, k2, c2, A3, k3, c3, A4, k4, c4, hva⟩ := hv1.agg
    subst hva
    clear hbF hv1 HE HOC HTL HDC HSM HQ HM
    simp only at HV1 ⊢
    generalize L0.speed = t0 at *
    generalize L0.mute = t1 at *
    generalize L0.wait = t2 at *
    generalize L0.cancel = t3 at *
    generalize L0.stay = t4 at *
    have hb2 := (Below.refl wF.heap.size wF).alloc (Nat.le_refl _) (.cells #[.slice A0 k0 c0, .slice A1 k1 c1, .slice A2 k2 c2, .slice A3 k3 c3, .slice A4 k4 c4, .int .i64 t0, .int .i64 t1, .int .i64 t2, .int .i64 t3, .int .i64 t4] 33)
    have HB2 := Lib.hid (HF.out.trans (hb2.mono HF.out.size))
    have HV2 := Lib.hid (HV1.out.up hb2)
    have HR2 := Lib.hid (Row.new wF 33 #[.slice A0 k0 c0, .slice A1 k1 c1, .slice A2 k2 c2, .slice A3 k3 c3, .slice A4 k4 c4, .int .i64 t0, .int .i64 t1, .int .i64 t2, .int .i64 t3, .int .i64 t4])
    clear hb2 HF HV1
    by_cases hk2 : k < 2
    all_goals
      simp only [hk2, if_true, if_false]
      go_upto_region 6 with (fail)
      obtain ⟨n3, hn3⟩ : ∃ n, n = wF.heap.size := ⟨_, rfl⟩
      rw [← hn3] at HR2 ⊢
      clear hn3
      generalize wF.alloc (.cells #[.slice A0 k0 c0, .slice A1 k1 c1, .slice A2 k2 c2, .slice A3 k3 c3, .slice A4 k4 c4, .int .i64 t0, .int .i64 t1, .int .i64 t2, .int .i64 t3, .int .i64 t4] 33) = wG at *
      have p0 := HR2.out.cell 0
      have p1 := HR2.out.cell 1
      have p2 := HR2.out.cell 2
      have p3 := HR2.out.cell 3
      have p4 := HR2.out.cell 4
      have p5 := HR2.out.cell 5
      have p6 := HR2.out.cell 6
      have p7 := HR2.out.cell 7
      have p8 := HR2.out.cell 8
      have p9 := HR2.out.cell 9
      simp only [List.getElem?_toArray, List.getElem?_cons_zero, List.getElem?_cons_succ] at p0 p1 p2 p3 p4 p5 p6 p7 p8 p9
      go_wp2_with fail
      refine (refSame_any wG _ _ L0 L0 HV2.out (lay0 wG _) few0).mono ?_; rintro e wH ⟨rfl, hbH⟩
      rw [Alike.decide0]
      have HH := Lib.hid (HB2.out.trans (hbH.mono HB2.out.size))
      clear hbH
      go_wp2_with fail
      go_ret
      exact ⟨rfl, by rw [← HG0.out] at HH ⊢; exact HH.out⟩

theorem lifted (os : Os) (started : os.Started) (H : Type) (enc : TypeId × Value → H) :
    ReturnsInHanded {} Try.checked os 8 .any (Rows.layoutCutSpec.pre6 enc Try.prog Try.f8 Rows.layoutCutRow.domain false) (Rows.layoutCutSpec.post enc Try.prog Try.f8 false true false false) := by
  refine returnsInHanded_of_change (C := Try.checked) own started (by kernel_rfl) Try.func8
    (ChangeSpec.witness6 (enc := enc) (C := Try.checked) false ⟨#[], #[.agg #[.int .u8 0, .int .u8 0, .int .u8 0, .int .u16 0, .int .u16 0, .int .u8 0, .int .u8 0, .int .u8 0, .slice none 0 0], .int .u16 0], []⟩ 8 (by kernel_rfl) (by kernel_rfl) (by kernel_rfl) (by kernel_rfl)) ?_
  intro W base args ds gs before hval0 hW hcnd _
  have hval : ∀ (j : Nat) t v, Try.f8.params[j]? = some t → args[j]? = some v → Value.okWide Try.prog W .any base t v := hval0
  have hW' := hW
  obtain ⟨p, q, hA0, hV, rfl, hfz, hnd⟩ := hW
  have hA : DataW.TrodAll enc Try.prog W 0 (fun _ => true) true Try.f8.params.toList args.toList ds p := hA0
  rw [Try.params8] at hA hval
  obtain ⟨v0, vs0, d0, ds0, p0, q0, hargs, rfl, rfl, h0, r0⟩ := trodAll_cons hA
  obtain ⟨v1, vs1, d1, ds1, p1, q1, rfl, rfl, rfl, h1, r1⟩ := trodAll_cons r0
  obtain ⟨rfl, rfl, rfl⟩ := trodAll_nil r1
  obtain rfl : args = #[v0, v1] := by cases args; simp_all
  obtain ⟨rfl, rfl⟩ := trodVars_none hV
  have k0 := h0
  have lt0 : ∀ x ∈ p0, x.block < W.heap.size := by obtain ⟨m, hm⟩ := k0; exact DataW.trod_lt m _ _ _ hm
  obtain ⟨e0, vr0, hv0, w0⟩ := draft_of_trod (hval 0 25 v0 rfl rfl) h0
  subst hv0
  obtain ⟨a1, rfl, rfl, rfl, w1⟩ := open_int Try.underlying22 (hval 1 22 v1 rfl rfl) h1
  clear hA0 hval0
  refine (walk e0 vr0 a1 W w0 w1).mono fun e W' ⟨he, bel⟩ => ?_
  subst he
  exact ⟨_, rfl, _, _, _, [], _, [], hW', trodAll_mk1 (shut_bool Try.underlying4 _), (trodAll_cons_mk (Below.trod laidOut (by kernel_rfl) (of_decide_eq_true (by kernel_rfl)) k0 bel lt0) (trodAll_cons_mk (shut_int Try.underlying22 w1) trodAll_mk0)), rfl, bel.frame _, fun h => by cases h⟩

theorem over : Rows.layoutCutRow.holds Try.pinned (OpenSpec.ofChange Rows.layoutCutSpec) :=
  OpenClaim.holds_of_wide 8 Try.f8 rfl rfl rfl rfl rfl rfl rfl ⟨rfl, rfl, rfl, rfl, rfl⟩ rfl rfl rfl rfl rfl (by kernel_rfl) Try.func8 (by kernel_rfl)
    (of_decide_eq_true (by kernel_rfl)) (by unfold Func.isWrapper; first | (rw [if_pos (by decide +kernel)]; kernel_rfl) | (rw [if_neg (by decide +kernel)]; exact ⟨rfl, rfl⟩))
    (fun os started H enc _ => lifted os started H enc)

theorem proved : Rows.LayoutCutSaid := over
#print axioms proved
end Go.Proofs.Ythpfhcelmddjlaa.layoutCut
