/-
  PROVED: for every input the law MessageCut returns true and leaves its arguments as they were: bits of a message that end too soon, with a sum of their own, are told to be too short. No condition.
-/
import Derived.Test.YtcfnaajnkloobaaRows
import Derived.Test.YtcfnaajnkloobaaM12
import Derived.WalkKit
import Derived.ProofKit
import Derived.OpenShut
import Derived.ShutString
import Derived.ChangeOld
import Derived.Below
namespace Go.Proofs.Ytcfnaajnkloobaa.messageCut
open Go.ChangeShapes Go.WideShapes Go.ChangeAt Go.RowKit
open Go.ChangeMaps (open_string shut_string)
set_option linter.unusedVariables false
set_option maxRecDepth 100000

theorem own : ownKnob Try.prog.godebug = none := by kernel_rfl
theorem laidOut : laidOutB Try.prog = true := by kernel_rfl

set_option maxHeartbeats 8000000 in
theorem walk (s0 : Sy) (vr0 : Value) (a1 : Int) (w : World) (w0 : SyOk s0 ∧ Rd w w.heap.size vr0 (bvals s0.trail)) (w1 : (Lit.int .u8 a1).wf = true) :
    Calls Try.prog 8 #[sayV s0 vr0, .int .u8 a1] w fun e w' => e = .returned (.bool true) ∧ Below w.heap.size w w' := by
  obtain ⟨n1, rfl, hn1⟩ := u8_nat w1
  clear w1
  obtain ⟨hok0, hrd0⟩ := w0
  obtain ⟨A0, l0, c0, hvr0⟩ : ∃ A l c, vr0 = .slice A l c := by obtain ⟨A, c, e, _⟩ := hrd0; exact ⟨A, _, c, e⟩
  subst hvr0
  have HOK0 := Lib.hid hok0
  clear hok0
  have hb0 := (Below.refl w.heap.size w).alloc (Nat.le_refl _) (.cells #[.int .u8 (s0.kind : Int), .int .u8 (s0.train : Int), .int .u8 (s0.dir : Int), .int .u32 (s0.time : Int), .int .u16 (s0.ahead : Int), .bool s0.whole, .slice A0 l0 c0] 26)
  have HB0 := Lib.hid hb0
  have HRD := Lib.hid (hrd0.up hb0)
  have HRW := Lib.hid (Row.new w 26 #[.int .u8 (s0.kind : Int), .int .u8 (s0.train : Int), .int .u8 (s0.dir : Int), .int .u32 (s0.time : Int), .int .u16 (s0.ahead : Int), .bool s0.whole, .slice A0 l0 c0])
  clear hb0 hrd0
  unfold sayV
  go_enter Try.func8, Try.ntmps8
  go_upto_region 1 with (fail)
  obtain ⟨g0, hg0⟩ : ∃ n, n = w.heap.size := ⟨_, rfl⟩
  rw [← hg0] at HRW ⊢
  clear hg0
  generalize w.alloc (.cells #[.int .u8 (s0.kind : Int), .int .u8 (s0.train : Int), .int .u8 (s0.dir : Int), .int .u32 (s0.time : Int), .int .u16 (s0.ahead : Int), .bool s0.whole, .slice A0 l0 c0] 26) = W0 at *
  go_wp2_with fail
  refine (open_any W0).mono ?_; rintro e WA ⟨rfl, hbA⟩
  have HBA := Lib.hid (HB0.out.trans (hbA.mono HB0.out.size))
  have HRA := Lib.hid (HRD.out.up hbA)
  have HRWA := Lib.hid (Below.row hbA HRW.out HRW.out.lt)
  clear hbA HB0 HRD HRW
  have f0 := HRWA.out.cell 0
  have f1 := HRWA.out.cell 1
  have f2 := HRWA.out.cell 2
  have f3 := HRWA.out.cell 3
  have f4 := HRWA.out.cell 4
  have f5 := HRWA.out.cell 5
  have f6 := HRWA.out.cell 6
  simp only [List.getElem?_toArray, List.getElem?_cons_zero, List.getElem?_cons_succ] at f0 f1 f2 f3 f4 f5 f6
  go_wp2_with fail
  refine (ofSay_any WA s0 _ HOK0.out HRA.out).mono ?_; rintro e W1 ⟨V1, rfl, hv1, hb1⟩
  have HF := Lib.hid (of_fits s0)
  obtain ⟨m, hm⟩ : ∃ m, ofL s0 = m := ⟨_, rfl⟩
  rw [hm] at hv1 HF
  clear hm
  have HB1 := Lib.hid (HBA.out.trans (hb1.mono HBA.out.size))
  have HV1 := Lib.hid hv1
  clear f0 f1 f2 f3 f4 f5 f6
  clear hb1 hv1 HBA HRA HRWA
  go_wp2_with fail
  refine (refEncode_any W1 V1 m HV1.out (by have := HF.out.kind; omega) (by have := HF.out.trail; omega)).mono ?_; rintro e wD ⟨vp, rfl, hop, hbD⟩
  have HD := Lib.hid (HB1.out.trans (hbD.mono HB1.out.size))
  clear hbD HB1 HV1
  obtain ⟨Q, hQ⟩ : ∃ Q, Q = pack (enc m) := ⟨_, rfl⟩
  rw [← hQ] at hop
  have HQ := Lib.hid hQ
  obtain ⟨M, hm⟩ : ∃ M, Q.length = M := ⟨_, rfl⟩
  have HM := Lib.hid hm
  have hm1 : M ≤ 20 := by rw [← hm, hQ]; exact fits_len HF.out
  have hm2 : 5 ≤ M := by rw [← hm, hQ]; exact pack_pos m
  have hop2 := hop
  rw [closed_length, hm] at hop2
  obtain ⟨Ap, cp, hvp⟩ := own_slice hop2
  subst hvp
  have hcap : M + 2 ≤ cp := own_cap hop2
  have HRP := Lib.hid (Rd.of_own hop)
  clear hop hop2 hQ hm
  obtain ⟨k, HK⟩ : ∃ k, Hid (n1 % M = k ∧ k < M) := ⟨_, rfl, Nat.mod_lt _ (by omega)⟩
  have hk : k < M := HK.out.2
  have hk1 : (n1 : Int).tmod (M : Int) = (k : Int) := by rw [Int.tmod_eq_emod_of_nonneg (by omega)]; have := HK.out.1; rw [← this]; simp
  have hk2 : (n1 : Int) % (M : Int) = (k : Int) := by have := HK.out.1; rw [← this]; simp
  go_wp2_with fail
  clear hk1 hk2
  have HRK : Hid (Rd wD wD.heap.size (.slice Ap k cp) (bvals (Q.take k))) := by
    have h := HRP.out.take k (by rw [bvals_length, closed_length, HM.out]; omega)
    have e : (bvals (closed Q)).take k = bvals (Q.take k) := by unfold bvals; rw [← List.map_take, take_closed Q k (by have := HM.out; omega)]
    rwa [e] at h
  have HSM : Hid (∀ x ∈ Q.take k, x < 256) := fun x hx => by have h := List.mem_of_mem_take hx; rw [HQ.out] at h; exact pack_small _ x h
  have HTL : Hid ((Q.take k).length ≤ 20) := by show _ ≤ _; rw [List.length_take, HM.out]; omega
  have HDC : Hid (dec (closed (Q.take k)) = (M0, 4)) := by
    show _ = _
    have h1 := dec_cut m HF.out.kind (fun _ => HF.out.trail) k (by rw [← HQ.out, HM.out]; exact hk)
    rw [← HQ.out] at h1; exact h1
  refine (refClose_any wD wD.heap.size _ (Q.take k) HRK.out (Nat.le_refl _) HSM.out (by have := HTL.out; omega)).mono ?_; rintro e wE ⟨vc, rfl, hoc, hbE⟩
  have HE := Lib.hid (HD.out.trans (hbE.mono HD.out.size))
  have HOC := Lib.hid (Rd.of_own hoc)
  clear hbE hoc HD HRP HRK
  go_wp2_with fail
  refine (decode_any wE vc (closed (Q.take k)) HOC.out (closed_small HSM.out) (by have := HTL.out; rw [closed_length]; omega)).mono ?_; rintro e wF ⟨v1, rfl, hv1, hbF⟩
  rw [HDC.out] at hv1 ⊢
  have HFF := Lib.hid (HE.out.trans (hbF.mono HE.out.size))
  have HV1 := Lib.hid hv1
  obtain ⟨pA, pl, pc, hva⟩ := hv1.agg
  subst hva
  clear hbF hv1 HE HOC HTL HDC HSM HQ HM
  have HM0 : Hid (MsgV wF wF.heap.size (.agg #[.int .u8 (M0.kind : Int), .int .i64 M0.train, .int .i64 M0.time, .int .i64 M0.dir, .int .i64 M0.ahead, .bool M0.whole, .slice pA pl pc]) M0) := HV1.out
  clear HV1
  obtain ⟨z, hz⟩ : ∃ z, z = M0 := ⟨_, rfl⟩
  have HZ := Lib.hid hz
  simp only
  rw [← hz] at HM0 ⊢
  clear hz
  have hb2 := (Below.refl wF.heap.size wF).alloc (Nat.le_refl _) (.cells #[.int .u8 (z.kind : Int), .int .i64 z.train, .int .i64 z.time, .int .i64 z.dir, .int .i64 z.ahead, .bool z.whole, .slice pA pl pc] 29)
  have HB2 := Lib.hid (HFF.out.trans (hb2.mono HFF.out.size))
  have HV2 := Lib.hid (HM0.out.up hb2)
  have HR2 := Lib.hid (Row.new wF 29 #[.int .u8 (z.kind : Int), .int .i64 z.train, .int .i64 z.time, .int .i64 z.dir, .int .i64 z.ahead, .bool z.whole, .slice pA pl pc])
  clear hb2 HFF HM0
  go_upto_region 6 with (fail)
  obtain ⟨n3, hn3⟩ : ∃ n, n = wF.heap.size := ⟨_, rfl⟩
  rw [← hn3] at HR2 ⊢
  clear hn3
  generalize wF.alloc (.cells #[.int .u8 (z.kind : Int), .int .i64 z.train, .int .i64 z.time, .int .i64 z.dir, .int .i64 z.ahead, .bool z.whole, .slice pA pl pc] 29) = wG at *
  have f0 := HR2.out.cell 0
  have f1 := HR2.out.cell 1
  have f2 := HR2.out.cell 2
  have f3 := HR2.out.cell 3
  have f4 := HR2.out.cell 4
  have f5 := HR2.out.cell 5
  have f6 := HR2.out.cell 6
  simp only [List.getElem?_toArray, List.getElem?_cons_zero, List.getElem?_cons_succ] at f0 f1 f2 f3 f4 f5 f6
  go_wp2_with fail
  refine (refSame_any wG _ _ z z HV2.out (by rw [HZ.out]; exact msg0 wG _) (by rw [HZ.out]; decide)).mono ?_; rintro e wH ⟨rfl, hbH⟩
  rw [decide_eq_true (alike_refl z)]
  have HH := Lib.hid (HB2.out.trans (hbH.mono HB2.out.size))
  clear hbH
  go_wp2_with fail
  go_ret
  exact ⟨rfl, HH.out⟩

theorem lifted (os : Os) (started : os.Started) (H : Type) (enc : TypeId × Value → H) :
    ReturnsInHanded {} Try.checked os 8 .any (Rows.messageCutSpec.pre6 enc Try.prog Try.f8 Rows.messageCutRow.domain false) (Rows.messageCutSpec.post enc Try.prog Try.f8 false true false false) := by
  refine returnsInHanded_of_change (C := Try.checked) own started (by kernel_rfl) Try.func8
    (ChangeSpec.witness6 (enc := enc) (C := Try.checked) false ⟨#[], #[.agg #[.int .u8 0, .int .u8 0, .int .u8 0, .int .u32 0, .int .u16 0, .bool false, .slice none 0 0], .int .u8 0], []⟩ 8 (by kernel_rfl) (by kernel_rfl) (by kernel_rfl) (by kernel_rfl)) ?_
  intro W base args ds gs before hval0 hW hcnd _
  have hval : ∀ (j : Nat) t v, Try.f8.params[j]? = some t → args[j]? = some v → Value.okWide Try.prog W .any base t v := hval0
  have hW' := hW
  obtain ⟨p, q, hA0, hV, rfl, hfz, hnd⟩ := hW
  have hA : DataW.TrodAll enc Try.prog W 0 (fun _ => true) true Try.f8.params.toList args.toList ds p := hA0
  rw [Try.params8] at hA hval
  obtain ⟨v0, vs0, d0, ds0, p0, q0, hargs, rfl, rfl, h0, r0⟩ := trodAll_cons hA
  obtain ⟨v1, vs1, d1, ds1, p1, q1, rfl, rfl, rfl, h1, r1⟩ := trodAll_cons r0
  obtain ⟨rfl, rfl, rfl⟩ := trodAll_nil r1
  obtain rfl : args = #[v0, v1] := by cases args; simp_all
  obtain ⟨rfl, rfl⟩ := trodVars_none hV
  have k0 := h0
  have lt0 : ∀ x ∈ p0, x.block < W.heap.size := by obtain ⟨m, hm⟩ := k0; exact DataW.trod_lt m _ _ _ hm
  obtain ⟨e0, vr0, hv0, w0⟩ := say_of_trod (hval 0 26 v0 rfl rfl) h0
  subst hv0
  obtain ⟨a1, rfl, rfl, rfl, w1⟩ := open_int Try.underlying5 (hval 1 5 v1 rfl rfl) h1
  clear hA0 hval0
  refine (walk e0 vr0 a1 W w0 w1).mono fun e W' ⟨he, bel⟩ => ?_
  subst he
  exact ⟨_, rfl, _, _, _, [], _, [], hW', trodAll_mk1 (shut_bool Try.underlying4 _), (trodAll_cons_mk (Below.trod laidOut (by kernel_rfl) (of_decide_eq_true (by kernel_rfl)) k0 bel lt0) (trodAll_cons_mk (shut_int Try.underlying5 w1) trodAll_mk0)), rfl, bel.frame _, fun h => by cases h⟩

theorem over : Rows.messageCutRow.holds Try.pinned (OpenSpec.ofChange Rows.messageCutSpec) :=
  OpenClaim.holds_of_wide 8 Try.f8 rfl rfl rfl rfl rfl rfl rfl ⟨rfl, rfl, rfl, rfl, rfl⟩ rfl rfl rfl rfl rfl (by kernel_rfl) Try.func8 (by kernel_rfl)
    (of_decide_eq_true (by kernel_rfl)) (by unfold Func.isWrapper; first | (rw [if_pos (by decide +kernel)]; kernel_rfl) | (rw [if_neg (by decide +kernel)]; exact ⟨rfl, rfl⟩))
    (fun os started H enc _ => lifted os started H enc)

theorem proved : Rows.MessageCutSaid := over
#print axioms proved
end Go.Proofs.Ytcfnaajnkloobaa.messageCut
