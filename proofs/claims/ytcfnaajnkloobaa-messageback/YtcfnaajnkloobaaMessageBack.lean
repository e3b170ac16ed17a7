/-
  PROVED: for every input the law MessageBack returns true and leaves its argument as it was: a message that may be is laid as the document lays it, and read as it was written. No condition.
-/
import Derived.Test.YtcfnaajnkloobaaRows
import Derived.Test.YtcfnaajnkloobaaM12
import Derived.WalkKit
import Derived.ProofKit
import Derived.OpenShut
import Derived.ShutString
import Derived.ChangeOld
import Derived.Below
namespace Go.Proofs.Ytcfnaajnkloobaa.messageBack
open Go.ChangeShapes Go.WideShapes Go.ChangeAt Go.RowKit
open Go.ChangeMaps (open_string shut_string)
set_option linter.unusedVariables false
set_option maxRecDepth 100000

theorem own : ownKnob Try.prog.godebug = none := by kernel_rfl
theorem laidOut : laidOutB Try.prog = true := by kernel_rfl

set_option maxHeartbeats 8000000 in
theorem walk (s0 : Sy) (vr0 : Value) (w : World) (w0 : SyOk s0 ∧ Rd w w.heap.size vr0 (bvals s0.trail)) :
    Calls Try.prog 3 #[sayV s0 vr0] w fun e w' => e = .returned (.bool true) ∧ Below w.heap.size w w' := by
  obtain ⟨hok0, hrd0⟩ := w0
  obtain ⟨A0, l0, c0, hvr0⟩ : ∃ A l c, vr0 = .slice A l c := by obtain ⟨A, c, e, _⟩ := hrd0; exact ⟨A, _, c, e⟩
  subst hvr0
  have HOK0 := Lib.hid hok0
  clear hok0
  have hb0 := (Below.refl w.heap.size w).alloc (Nat.le_refl _) (.cells #[.int .u8 (s0.kind : Int), .int .u8 (s0.train : Int), .int .u8 (s0.dir : Int), .int .u32 (s0.time : Int), .int .u16 (s0.ahead : Int), .bool s0.whole, .slice A0 l0 c0] 26)
  have HB0 := Lib.hid hb0
  have HRD := Lib.hid (hrd0.up hb0)
  have HRW := Lib.hid (Row.new w 26 #[.int .u8 (s0.kind : Int), .int .u8 (s0.train : Int), .int .u8 (s0.dir : Int), .int .u32 (s0.time : Int), .int .u16 (s0.ahead : Int), .bool s0.whole, .slice A0 l0 c0])
  clear hb0 hrd0
  unfold sayV
  go_enter Try.func3, Try.ntmps3
  go_upto_region 1 with (fail)
  obtain ⟨g0, hg0⟩ : ∃ n, n = w.heap.size := ⟨_, rfl⟩
  rw [← hg0] at HRW ⊢
  clear hg0
  generalize w.alloc (.cells #[.int .u8 (s0.kind : Int), .int .u8 (s0.train : Int), .int .u8 (s0.dir : Int), .int .u32 (s0.time : Int), .int .u16 (s0.ahead : Int), .bool s0.whole, .slice A0 l0 c0] 26) = W0 at *
  have f0 := HRW.out.cell 0
  have f1 := HRW.out.cell 1
  have f2 := HRW.out.cell 2
  have f3 := HRW.out.cell 3
  have f4 := HRW.out.cell 4
  have f5 := HRW.out.cell 5
  have f6 := HRW.out.cell 6
  simp only [List.getElem?_toArray, List.getElem?_cons_zero, List.getElem?_cons_succ] at f0 f1 f2 f3 f4 f5 f6
  go_wp2_with fail
  refine (ofSay_any W0 s0 _ HOK0.out HRD.out).mono ?_; rintro e W1 ⟨V1, rfl, hv1, hb1⟩
  have HF := Lib.hid (of_fits s0)
  obtain ⟨m, hm⟩ : ∃ m, ofL s0 = m := ⟨_, rfl⟩
  rw [hm] at hv1 HF
  clear hm
  have HB1 := Lib.hid (HB0.out.trans (hb1.mono HB0.out.size))
  have HV1 := Lib.hid hv1
  obtain ⟨pA, pl, pc, rfl⟩ := hv1.agg
  clear f0 f1 f2 f3 f4 f5 f6
  clear hb1 hv1 HB0 HRD HRW
  have hb2 := (Below.refl W1.heap.size W1).alloc (Nat.le_refl _) (.cells #[.int .u8 (m.kind : Int), .int .i64 m.train, .int .i64 m.time, .int .i64 m.dir, .int .i64 m.ahead, .bool m.whole, .slice pA pl pc] 29)
  have HB2 := Lib.hid (HB1.out.trans (hb2.mono HB1.out.size))
  have HV2 := Lib.hid (HV1.out.up hb2)
  have HR2 := Lib.hid (Row.new W1 29 #[.int .u8 (m.kind : Int), .int .i64 m.train, .int .i64 m.time, .int .i64 m.dir, .int .i64 m.ahead, .bool m.whole, .slice pA pl pc])
  clear hb2 HV1 HB1
  go_upto_region 2 with (fail)
  obtain ⟨n3, hn3⟩ : ∃ n, n = W1.heap.size := ⟨_, rfl⟩
  rw [← hn3] at HR2 ⊢
  clear hn3
  generalize W1.alloc (.cells #[.int .u8 (m.kind : Int), .int .i64 m.train, .int .i64 m.time, .int .i64 m.dir, .int .i64 m.ahead, .bool m.whole, .slice pA pl pc] 29) = W2 at *
  have f0 := HR2.out.cell 0
  have f1 := HR2.out.cell 1
  have f2 := HR2.out.cell 2
  have f3 := HR2.out.cell 3
  have f4 := HR2.out.cell 4
  have f5 := HR2.out.cell 5
  have f6 := HR2.out.cell 6
  simp only [List.getElem?_toArray, List.getElem?_cons_zero, List.getElem?_cons_succ] at f0 f1 f2 f3 f4 f5 f6
  go_wp2_with fail
  refine (encode_any W2 _ m HV2.out (by have := HF.out.kind; omega) (by have := HF.out.trail; omega)).mono ?_; rintro e W3 ⟨v3, rfl, ho3, hb3⟩
  have HD := Lib.hid (dec_fits HF.out)
  have HQ : Hid (∀ x ∈ closed (pack (enc m)), x < 256) := closed_small (pack_small _)
  have HQL : Hid ((closed (pack (enc m))).length ≤ 40) := by show _ ≤ _; rw [closed_length]; have := fits_len HF.out; omega
  obtain ⟨q, hq⟩ : ∃ q, closed (pack (enc m)) = q := ⟨_, rfl⟩
  rw [hq] at HD HQ HQL ho3
  have HQE := Lib.hid hq
  clear hq
  have HO3 := Lib.hid (Rd.of_own ho3)
  have HB3 := Lib.hid (HB2.out.trans (hb3.mono HB2.out.size))
  have HV3 := Lib.hid (HV2.out.up hb3)
  have HR3 := Lib.hid (Below.row hb3 HR2.out HR2.out.lt)
  obtain ⟨A3, c3, hv3⟩ := own_slice ho3
  subst hv3
  clear f0 f1 f2 f3 f4 f5 f6
  clear ho3 hb3 HB2 HV2 HR2
  obtain ⟨ql, hql⟩ : ∃ n, q.length = n := ⟨_, rfl⟩
  rw [hql] at HO3 ⊢
  have HQN := Lib.hid hql; clear hql
  go_wp2_with fail
  refine (decode_any W3 _ q HO3.out HQ.out (by have := HQL.out; omega)).mono ?_; rintro e W4 ⟨V4, rfl, hv4, hb4⟩
  rw [HD.out] at hv4 ⊢
  have HB4 := Lib.hid (HB3.out.trans (hb4.mono HB3.out.size))
  have HV34 := Lib.hid (HV3.out.up hb4)
  have HR4 := Lib.hid (Below.row hb4 HR3.out HR3.out.lt)
  have HO4 := Lib.hid (HO3.out.up hb4)
  have HV4 := Lib.hid hv4
  obtain ⟨sA, sl, sc, rfl⟩ := hv4.agg
  clear hb4 hv4 HB3 HV3 HR3 HO3
  have hb5 := (Below.refl W4.heap.size W4).alloc (Nat.le_refl _) (.cells #[.int .u8 (m.kind : Int), .int .i64 m.train, .int .i64 m.time, .int .i64 m.dir, .int .i64 m.ahead, .bool m.whole, .slice sA sl sc] 29)
  have HB5 := Lib.hid (HB4.out.trans (hb5.mono HB4.out.size))
  have HV35 := Lib.hid (HV34.out.up hb5); have HV45 := Lib.hid (HV4.out.up hb5)
  have HR5 := Lib.hid (HR4.out.alloc (.cells #[.int .u8 (m.kind : Int), .int .i64 m.train, .int .i64 m.time, .int .i64 m.dir, .int .i64 m.ahead, .bool m.whole, .slice sA sl sc] 29)); have HS5 := Lib.hid (Row.new W4 29 #[.int .u8 (m.kind : Int), .int .i64 m.train, .int .i64 m.time, .int .i64 m.dir, .int .i64 m.ahead, .bool m.whole, .slice sA sl sc])
  have HO5 := Lib.hid (HO4.out.up hb5)
  clear hb5 HB4 HV34 HR4 HO4 HV4
  go_upto_region 4 with (fail)
  obtain ⟨n5, hn5⟩ : ∃ n, n = W4.heap.size := ⟨_, rfl⟩
  rw [← hn5] at HS5 ⊢
  clear hn5
  generalize W4.alloc (.cells #[.int .u8 (m.kind : Int), .int .i64 m.train, .int .i64 m.time, .int .i64 m.dir, .int .i64 m.ahead, .bool m.whole, .slice sA sl sc] 29) = W5 at *
  go_wp2_with fail
  refine (open_any W5).mono ?_; rintro e W6 ⟨rfl, hb6⟩
  have HB6 := Lib.hid (HB5.out.trans (hb6.mono HB5.out.size))
  have HV36 := Lib.hid (HV35.out.up hb6); have HV46 := Lib.hid (HV45.out.up hb6)
  have HR6 := Lib.hid (Below.row hb6 HR5.out HR5.out.lt); have HS6 := Lib.hid (Below.row hb6 HS5.out HS5.out.lt)
  have HO6 := Lib.hid (HO5.out.up hb6)
  clear hb6 HB5 HV35 HV45 HR5 HS5 HO5
  have f0 := HR6.out.cell 0
  have f1 := HR6.out.cell 1
  have f2 := HR6.out.cell 2
  have f3 := HR6.out.cell 3
  have f4 := HR6.out.cell 4
  have f5 := HR6.out.cell 5
  have f6 := HR6.out.cell 6
  simp only [List.getElem?_toArray, List.getElem?_cons_zero, List.getElem?_cons_succ] at f0 f1 f2 f3 f4 f5 f6
  go_wp2_with fail
  refine (refEncode_any W6 _ m HV36.out (by have := HF.out.kind; omega) (by have := HF.out.trail; omega)).mono ?_; rintro e W7 ⟨v7, rfl, ho7, hb7⟩
  rw [HQE.out] at ho7
  have HB7 := Lib.hid (HB6.out.trans (hb7.mono HB6.out.size))
  have HV37 := Lib.hid (HV36.out.up hb7); have HV47 := Lib.hid (HV46.out.up hb7)
  have HR7 := Lib.hid (Below.row hb7 HR6.out HR6.out.lt); have HS7 := Lib.hid (Below.row hb7 HS6.out HS6.out.lt)
  have HO7 := Lib.hid (HO6.out.up hb7)
  have HP7 := Lib.hid (Rd.of_own ho7)
  clear f0 f1 f2 f3 f4 f5 f6
  clear hb7 ho7 HB6 HV36 HV46 HR6 HS6 HO6
  go_wp2_with fail
  refine (refBytes_true W7 W7.heap.size _ v7 q HO7.out HP7.out (by have := HQL.out; omega)).mono ?_; rintro e W8 ⟨rfl, n8, hw8⟩
  have hb8 := below_drew hw8
  have HB8 := Lib.hid (HB7.out.trans (hb8.mono HB7.out.size))
  have HV38 := Lib.hid (HV37.out.up hb8); have HV48 := Lib.hid (HV47.out.up hb8)
  have HR8 := Lib.hid (Below.row hb8 HR7.out HR7.out.lt); have HS8 := Lib.hid (Below.row hb8 HS7.out HS7.out.lt)
  clear hw8 hb8 HB7 HV37 HV47 HR7 HS7 HO7 HP7
  have f0 := HR8.out.cell 0
  have f1 := HR8.out.cell 1
  have f2 := HR8.out.cell 2
  have f3 := HR8.out.cell 3
  have f4 := HR8.out.cell 4
  have f5 := HR8.out.cell 5
  have f6 := HR8.out.cell 6
  simp only [List.getElem?_toArray, List.getElem?_cons_zero, List.getElem?_cons_succ] at f0 f1 f2 f3 f4 f5 f6
  have g0 := HS8.out.cell 0
  have g1 := HS8.out.cell 1
  have g2 := HS8.out.cell 2
  have g3 := HS8.out.cell 3
  have g4 := HS8.out.cell 4
  have g5 := HS8.out.cell 5
  have g6 := HS8.out.cell 6
  simp only [List.getElem?_toArray, List.getElem?_cons_zero, List.getElem?_cons_succ] at g0 g1 g2 g3 g4 g5 g6
  go_wp2_with fail
  refine (refSame_any _ _ _ m m HV48.out HV38.out (by have := HF.out.trail; omega)).mono ?_; rintro e W9 ⟨rfl, hb9⟩
  rw [decide_eq_true (alike_refl m)]
  have HB9 := Lib.hid (HB8.out.trans (hb9.mono HB8.out.size))
  have HV39 := Lib.hid (HV38.out.up hb9); have HV49 := Lib.hid (HV48.out.up hb9)
  have HR9 := Lib.hid (Below.row hb9 HR8.out HR8.out.lt); have HS9 := Lib.hid (Below.row hb9 HS8.out HS8.out.lt)
  clear f0 f1 f2 f3 f4 f5 f6
  clear g0 g1 g2 g3 g4 g5 g6
  clear hb9 HB8 HV38 HV48 HR8 HS8
  have f0 := HR9.out.cell 0
  have f1 := HR9.out.cell 1
  have f2 := HR9.out.cell 2
  have f3 := HR9.out.cell 3
  have f4 := HR9.out.cell 4
  have f5 := HR9.out.cell 5
  have f6 := HR9.out.cell 6
  simp only [List.getElem?_toArray, List.getElem?_cons_zero, List.getElem?_cons_succ] at f0 f1 f2 f3 f4 f5 f6
  have g0 := HS9.out.cell 0
  have g1 := HS9.out.cell 1
  have g2 := HS9.out.cell 2
  have g3 := HS9.out.cell 3
  have g4 := HS9.out.cell 4
  have g5 := HS9.out.cell 5
  have g6 := HS9.out.cell 6
  simp only [List.getElem?_toArray, List.getElem?_cons_zero, List.getElem?_cons_succ] at g0 g1 g2 g3 g4 g5 g6
  go_wp2_with fail
  refine (same_any _ _ _ m m HV49.out HV39.out (by have := HF.out.trail; omega)).mono ?_; rintro e WX ⟨rfl, hbX⟩
  rw [decide_eq_true (alike_refl m)]
  have HBX := Lib.hid (HB9.out.trans (hbX.mono HB9.out.size))
  clear f0 f1 f2 f3 f4 f5 f6
  clear g0 g1 g2 g3 g4 g5 g6
  clear hbX
  go_wp2_with fail
  go_ret
  exact ⟨rfl, HBX.out⟩

theorem lifted (os : Os) (started : os.Started) (H : Type) (enc : TypeId × Value → H) :
    ReturnsInHanded {} Try.checked os 3 .any (Rows.messageBackSpec.pre6 enc Try.prog Try.f3 Rows.messageBackRow.domain false) (Rows.messageBackSpec.post enc Try.prog Try.f3 false true false false) := by
  refine returnsInHanded_of_change (C := Try.checked) own started (by kernel_rfl) Try.func3
    (ChangeSpec.witness6 (enc := enc) (C := Try.checked) false ⟨#[], #[.agg #[.int .u8 0, .int .u8 0, .int .u8 0, .int .u32 0, .int .u16 0, .bool false, .slice none 0 0]], []⟩ 8 (by kernel_rfl) (by kernel_rfl) (by kernel_rfl) (by kernel_rfl)) ?_
  intro W base args ds gs before hval0 hW hcnd _
  have hval : ∀ (j : Nat) t v, Try.f3.params[j]? = some t → args[j]? = some v → Value.okWide Try.prog W .any base t v := hval0
  have hW' := hW
  obtain ⟨p, q, hA0, hV, rfl, hfz, hnd⟩ := hW
  have hA : DataW.TrodAll enc Try.prog W 0 (fun _ => true) true Try.f3.params.toList args.toList ds p := hA0
  rw [Try.params3] at hA hval
  obtain ⟨v0, vs0, d0, ds0, p0, q0, hargs, rfl, rfl, h0, r0⟩ := trodAll_cons hA
  obtain ⟨rfl, rfl, rfl⟩ := trodAll_nil r0
  obtain rfl : args = #[v0] := by cases args; simp_all
  obtain ⟨rfl, rfl⟩ := trodVars_none hV
  have k0 := h0
  have lt0 : ∀ x ∈ p0, x.block < W.heap.size := by obtain ⟨m, hm⟩ := k0; exact DataW.trod_lt m _ _ _ hm
  obtain ⟨e0, vr0, hv0, w0⟩ := say_of_trod (hval 0 26 v0 rfl rfl) h0
  subst hv0
  clear hA0 hval0
  refine (walk e0 vr0 W w0).mono fun e W' ⟨he, bel⟩ => ?_
  subst he
  exact ⟨_, rfl, _, _, _, [], _, [], hW', trodAll_mk1 (shut_bool Try.underlying4 _), (trodAll_cons_mk (Below.trod laidOut (by kernel_rfl) (of_decide_eq_true (by kernel_rfl)) k0 bel lt0) trodAll_mk0), rfl, bel.frame _, fun h => by cases h⟩

theorem over : Rows.messageBackRow.holds Try.pinned (OpenSpec.ofChange Rows.messageBackSpec) :=
  OpenClaim.holds_of_wide 3 Try.f3 rfl rfl rfl rfl rfl rfl rfl ⟨rfl, rfl, rfl, rfl, rfl⟩ rfl rfl rfl rfl rfl (by kernel_rfl) Try.func3 (by kernel_rfl)
    (of_decide_eq_true (by kernel_rfl)) (by unfold Func.isWrapper; first | (rw [if_pos (by decide +kernel)]; kernel_rfl) | (rw [if_neg (by decide +kernel)]; exact ⟨rfl, rfl⟩))
    (fun os started H enc _ => lifted os started H enc)

theorem proved : Rows.MessageBackSaid := over
#print axioms proved
end Go.Proofs.Ytcfnaajnkloobaa.messageBack
