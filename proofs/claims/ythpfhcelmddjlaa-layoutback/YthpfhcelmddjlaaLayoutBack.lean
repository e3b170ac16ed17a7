/-
  PROVED: for every input the law LayoutBack returns true and leaves its argument as it was: a layout is read as it was written. No condition.
-/
import Derived.Test.YthpfhcelmddjlaaRows
import Derived.Test.YthpfhcelmddjlaaRm
import Derived.WalkKit
import Derived.ProofKit
import Derived.OpenShut
import Derived.ShutString
import Derived.ChangeOld
import Derived.Below
namespace Go.Proofs.Ythpfhcelmddjlaa.layoutBack
open Go.ChangeShapes Go.WideShapes Go.ChangeAt Go.RowKit
open Go.ChangeMaps (open_string shut_string)
set_option linter.unusedVariables false
set_option maxRecDepth 100000

theorem own : ownKnob Try.prog.godebug = none := by kernel_rfl
theorem laidOut : laidOutB Try.prog = true := by kernel_rfl

set_option maxHeartbeats 8000000 in
theorem walk (d0 : Dr) (vr0 : Value) (w : World) (w0 : DrOk d0 ∧ BRows w w.heap.size vr0 d0.routes ∧ d0.routes.length ≤ 9223372036854775807 ∧ ∀ r ∈ d0.routes, r.length ≤ 9223372036854775807) :
    Calls Try.prog 3 #[drV d0 vr0] w fun e w' => e = .returned (.bool true) ∧ Below w.heap.size w w' := by
  obtain ⟨hd, hbr, hl, hrl⟩ := w0
  obtain ⟨Ar, kr, cr, hvr⟩ : ∃ A k c, vr0 = .slice A k c := by obtain ⟨vs, ⟨A, c, e, _⟩, _⟩ := hbr; exact ⟨A, _, c, e⟩
  subst hvr
  have HDK := Lib.hid hd
  have HL : Hid (d0.routes.length ≤ 9223372036854775807 ∧ ∀ r ∈ d0.routes, r.length ≤ 9223372036854775807) := ⟨hl, hrl⟩
  clear hd hl hrl
  have hb0 := (Below.refl w.heap.size w).alloc (Nat.le_refl _) (.cells #[.int .u8 (d0.form : Int), .int .u8 (d0.len : Int), .int .u8 (d0.speed : Int), .int .u16 (d0.mute : Int), .int .u16 (d0.wait : Int), .int .u8 (d0.cancel : Int), .int .u8 (d0.stay : Int), .int .u8 (d0.join : Int), .slice Ar kr cr] 25)
  have HB0 := Lib.hid hb0
  have HBR := Lib.hid (hbr.up hb0)
  have HRW := Lib.hid (Row.new w 25 #[.int .u8 (d0.form : Int), .int .u8 (d0.len : Int), .int .u8 (d0.speed : Int), .int .u16 (d0.mute : Int), .int .u16 (d0.wait : Int), .int .u8 (d0.cancel : Int), .int .u8 (d0.stay : Int), .int .u8 (d0.join : Int), .slice Ar kr cr])
  clear hb0 hbr
  unfold drV
  cases hs : small d0 with
  | false =>
    go_enter Try.func3, Try.ntmps3
    go_upto_region 1 with (fail)
    obtain ⟨g0, hg0⟩ : ∃ n, n = w.heap.size := ⟨_, rfl⟩
    rw [← hg0] at HRW ⊢
    have HG0 : Hid (g0 = w.heap.size) := hg0
    generalize w.alloc (.cells #[.int .u8 (d0.form : Int), .int .u8 (d0.len : Int), .int .u8 (d0.speed : Int), .int .u16 (d0.mute : Int), .int .u16 (d0.wait : Int), .int .u8 (d0.cancel : Int), .int .u8 (d0.stay : Int), .int .u8 (d0.join : Int), .slice Ar kr cr] 25) = W0 at *
    clear hg0
    go_wp2_with fail
    refine (bare_any _).mono ?_; rintro e wA ⟨rfl, hbA⟩
    have HA := Lib.hid (HB0.out.trans (hbA.mono HB0.out.size))
    have HRA := Lib.hid (Below.row hbA HRW.out HRW.out.lt)
    have HBA := Lib.hid (HBR.out.up hbA)
    clear hbA HB0 HRW HBR
    have f0 := HRA.out.cell 0
    have f1 := HRA.out.cell 1
    have f2 := HRA.out.cell 2
    have f3 := HRA.out.cell 3
    have f4 := HRA.out.cell 4
    have f5 := HRA.out.cell 5
    have f6 := HRA.out.cell 6
    have f7 := HRA.out.cell 7
    have f8 := HRA.out.cell 8
    simp only [List.getElem?_toArray, List.getElem?_cons_zero, List.getElem?_cons_succ] at f0 f1 f2 f3 f4 f5 f6 f7 f8
    go_wp2_with fail
    refine (small_any wA d0 (.slice Ar kr cr) HBA.out HL.out.1 HL.out.2).mono ?_; rintro e wB ⟨rfl, hbB⟩
    clear f0 f1 f2 f3 f4 f5 f6 f7 f8
    rw [hs]
    have HB := Lib.hid (HA.out.trans (hbB.mono HA.out.size))
    have HRB := Lib.hid (Below.row hbB HRA.out HRA.out.lt)
    have HBB := Lib.hid (HBA.out.up hbB)
    clear hbB HA HRA HBA
    go_wp2_with fail
    refine (bare_any _).mono ?_; rintro e wZ ⟨rfl, hbZ⟩
    have HZ := Lib.hid (HB.out.trans (hbZ.mono HB.out.size))
    clear hbZ
    go_wp2_with fail
    go_ret
    exact ⟨rfl, by rw [← HG0.out] at HZ ⊢; exact HZ.out⟩
  | true =>
    have HS := Lib.hid hs
    go_enter Try.func3, Try.ntmps3
    go_upto_region 1 with (fail)
    obtain ⟨g0, hg0⟩ : ∃ n, n = w.heap.size := ⟨_, rfl⟩
    rw [← hg0] at HRW ⊢
    have HG0 : Hid (g0 = w.heap.size) := hg0
    generalize w.alloc (.cells #[.int .u8 (d0.form : Int), .int .u8 (d0.len : Int), .int .u8 (d0.speed : Int), .int .u16 (d0.mute : Int), .int .u16 (d0.wait : Int), .int .u8 (d0.cancel : Int), .int .u8 (d0.stay : Int), .int .u8 (d0.join : Int), .slice Ar kr cr] 25) = W0 at *
    clear hg0
    go_wp2_with fail
    refine (bare_any _).mono ?_; rintro e wA ⟨rfl, hbA⟩
    have HA := Lib.hid (HB0.out.trans (hbA.mono HB0.out.size))
    have HRA := Lib.hid (Below.row hbA HRW.out HRW.out.lt)
    have HBA := Lib.hid (HBR.out.up hbA)
    clear hbA HB0 HRW HBR
    have f0 := HRA.out.cell 0
    have f1 := HRA.out.cell 1
    have f2 := HRA.out.cell 2
    have f3 := HRA.out.cell 3
    have f4 := HRA.out.cell 4
    have f5 := HRA.out.cell 5
    have f6 := HRA.out.cell 6
    have f7 := HRA.out.cell 7
    have f8 := HRA.out.cell 8
    simp only [List.getElem?_toArray, List.getElem?_cons_zero, List.getElem?_cons_succ] at f0 f1 f2 f3 f4 f5 f6 f7 f8
    go_wp2_with fail
    refine (small_any wA d0 (.slice Ar kr cr) HBA.out HL.out.1 HL.out.2).mono ?_; rintro e wB ⟨rfl, hbB⟩
    clear f0 f1 f2 f3 f4 f5 f6 f7 f8
    rw [hs]
    have HB := Lib.hid (HA.out.trans (hbB.mono HA.out.size))
    have HRB := Lib.hid (Below.row hbB HRA.out HRA.out.lt)
    have HBB := Lib.hid (HBA.out.up hbB)
    clear hbB HA HRA HBA
    have f0 := HRB.out.cell 0
    have f1 := HRB.out.cell 1
    have f2 := HRB.out.cell 2
    have f3 := HRB.out.cell 3
    have f4 := HRB.out.cell 4
    have f5 := HRB.out.cell 5
    have f6 := HRB.out.cell 6
    have f7 := HRB.out.cell 7
    have f8 := HRB.out.cell 8
    simp only [List.getElem?_toArray, List.getElem?_cons_zero, List.getElem?_cons_succ] at f0 f1 f2 f3 f4 f5 f6 f7 f8
    go_wp2_with fail
    refine (rough_any wB d0 (.slice Ar kr cr) HDK.out HBB.out hs).mono ?_; rintro e wC ⟨vL, rfl, hvL, hbvL⟩
    clear f0 f1 f2 f3 f4 f5 f6 f7 f8
    have HC := Lib.hid (HB.out.trans (hbvL.mono HB.out.size))
    clear hbvL HB HRB HBB
    obtain ⟨L, hL⟩ : ∃ L, L = roughL d0 := ⟨_, rfl⟩
    have HMO : Hid (Modest L) := by rw [hL]; exact rough_modest HS.out
    have HFE : Hid (Few L) := HMO.out.few
    have HDC : Hid (dec (closed (pack (enc L))) = (L, 0)) := by show _ = _; rw [dec_enc L (by rw [hL]; exact rough_room HS.out), hL, rough_lows HDK.out]
    have HQL : Hid ((pack (enc L)).length ≤ 500) := by rw [hL]; exact rough_bytes HS.out
    rw [← hL] at hvL
    clear hL
    have HVL := Lib.hid hvL
    obtain ⟨A0, k0, c0, A1, k1, c1, A2, k2, c2, A3, k3, c3, A4, k4, c4, havL⟩ := hvL.agg
    subst havL
    clear hvL
    obtain ⟨t0, ht0⟩ : ∃ t, L.speed = t := ⟨_, rfl⟩
    obtain ⟨t1, ht1⟩ : ∃ t, L.mute = t := ⟨_, rfl⟩
    obtain ⟨t2, ht2⟩ : ∃ t, L.wait = t := ⟨_, rfl⟩
    obtain ⟨t3, ht3⟩ : ∃ t, L.cancel = t := ⟨_, rfl⟩
    obtain ⟨t4, ht4⟩ : ∃ t, L.stay = t := ⟨_, rfl⟩
    have HT : Hid (L.speed = t0 ∧ L.mute = t1 ∧ L.wait = t2 ∧ L.cancel = t3 ∧ L.stay = t4) := ⟨ht0, ht1, ht2, ht3, ht4⟩
    rw [ht0, ht1, ht2, ht3, ht4] at HVL ⊢
    clear ht0 ht1 ht2 ht3 ht4
    have hb2 := (Below.refl wC.heap.size wC).alloc (Nat.le_refl _) (.cells #[.slice A0 k0 c0, .slice A1 k1 c1, .slice A2 k2 c2, .slice A3 k3 c3, .slice A4 k4 c4, .int .i64 t0, .int .i64 t1, .int .i64 t2, .int .i64 t3, .int .i64 t4] 33)
    have HD := Lib.hid (HC.out.trans (hb2.mono HC.out.size))
    have HV2 := Lib.hid (HVL.out.up hb2)
    have HR2 := Lib.hid (Row.new wC 33 #[.slice A0 k0 c0, .slice A1 k1 c1, .slice A2 k2 c2, .slice A3 k3 c3, .slice A4 k4 c4, .int .i64 t0, .int .i64 t1, .int .i64 t2, .int .i64 t3, .int .i64 t4])
    clear hb2 HC HVL
    go_upto_region 4 with (fail)
    obtain ⟨n3, hn3⟩ : ∃ n, n = wC.heap.size := ⟨_, rfl⟩
    rw [← hn3] at HR2 ⊢
    clear hn3
    generalize wC.alloc (.cells #[.slice A0 k0 c0, .slice A1 k1 c1, .slice A2 k2 c2, .slice A3 k3 c3, .slice A4 k4 c4, .int .i64 t0, .int .i64 t1, .int .i64 t2, .int .i64 t3, .int .i64 t4] 33) = wD at *
    have p0 := HR2.out.cell 0
    have p1 := HR2.out.cell 1
    have p2 := HR2.out.cell 2
    have p3 := HR2.out.cell 3
    have p4 := HR2.out.cell 4
    have p5 := HR2.out.cell 5
    have p6 := HR2.out.cell 6
    have p7 := HR2.out.cell 7
    have p8 := HR2.out.cell 8
    have p9 := HR2.out.cell 9
    simp only [List.getElem?_toArray, List.getElem?_cons_zero, List.getElem?_cons_succ] at p0 p1 p2 p3 p4 p5 p6 p7 p8 p9
    go_wp2_with fail
    refine (encode_any wD _ L HV2.out HMO.out).mono ?_; rintro e wE ⟨vp, rfl, hop, hbE⟩
    clear p0 p1 p2 p3 p4 p5 p6 p7 p8 p9
    obtain ⟨Q, hQ⟩ : ∃ Q, Q = pack (enc L) := ⟨_, rfl⟩
    rw [← hQ] at hop HQL HDC
    have HQS : Hid (∀ x ∈ Q, x < 256) := by rw [hQ]; exact pack_small _
    have HQ := Lib.hid hQ
    clear hQ
    have HE := Lib.hid (HD.out.trans (hbE.mono HD.out.size))
    have HVE := Lib.hid (HV2.out.up hbE)
    have HRE := Lib.hid (Below.row hbE HR2.out HR2.out.lt)
    have HOP := Lib.hid (Rd.of_own hop)
    clear hbE hop HD HV2 HR2
    go_wp2_with fail
    refine (decode_any wE vp (closed Q) HOP.out (closed_small HQS.out) (by have := HQL.out; rw [closed_length]; omega)).mono ?_; rintro e wF ⟨v1, rfl, hv1, hbF⟩
    rw [HDC.out] at hv1 ⊢
    have HF := Lib.hid (HE.out.trans (hbF.mono HE.out.size))
    have HVF := Lib.hid (HVE.out.up hbF)
    have HRF := Lib.hid (Below.row hbF HRE.out HRE.out.lt)
    have HOF := Lib.hid (HOP.out.up hbF)
    have HV1 := Lib.hid hv1
    obtain ⟨B0, j0, d0, B1, j1, d1, B2, j2, d2, B3, j3, d3, B4, j4, d4, hav1⟩ := hv1.agg
    subst hav1
    clear hbF hv1 HE HVE HRE HOP
    simp only at HV1 ⊢
    rw [HT.out.1, HT.out.2.1, HT.out.2.2.1, HT.out.2.2.2.1, HT.out.2.2.2.2] at HV1 ⊢
    have hb4 := (Below.refl wF.heap.size wF).alloc (Nat.le_refl _) (.cells #[.slice B0 j0 d0, .slice B1 j1 d1, .slice B2 j2 d2, .slice B3 j3 d3, .slice B4 j4 d4, .int .i64 t0, .int .i64 t1, .int .i64 t2, .int .i64 t3, .int .i64 t4] 33)
    have HG := Lib.hid (HF.out.trans (hb4.mono HF.out.size))
    have HVG := Lib.hid (HVF.out.up hb4)
    have HMG := Lib.hid (HV1.out.up hb4)
    have HRG := Lib.hid (HRF.out.alloc (.cells #[.slice B0 j0 d0, .slice B1 j1 d1, .slice B2 j2 d2, .slice B3 j3 d3, .slice B4 j4 d4, .int .i64 t0, .int .i64 t1, .int .i64 t2, .int .i64 t3, .int .i64 t4] 33))
    have HSG := Lib.hid (Row.new wF 33 #[.slice B0 j0 d0, .slice B1 j1 d1, .slice B2 j2 d2, .slice B3 j3 d3, .slice B4 j4 d4, .int .i64 t0, .int .i64 t1, .int .i64 t2, .int .i64 t3, .int .i64 t4])
    have HOG := Lib.hid (HOF.out.up hb4)
    clear hb4 HF HVF HV1 HRF HOF
    go_upto_region 6 with (fail)
    obtain ⟨n4, hn4⟩ : ∃ n, n = wF.heap.size := ⟨_, rfl⟩
    rw [← hn4] at HSG ⊢
    clear hn4
    generalize wF.alloc (.cells #[.slice B0 j0 d0, .slice B1 j1 d1, .slice B2 j2 d2, .slice B3 j3 d3, .slice B4 j4 d4, .int .i64 t0, .int .i64 t1, .int .i64 t2, .int .i64 t3, .int .i64 t4] 33) = wG at *
    have p0 := HRG.out.cell 0
    have p1 := HRG.out.cell 1
    have p2 := HRG.out.cell 2
    have p3 := HRG.out.cell 3
    have p4 := HRG.out.cell 4
    have p5 := HRG.out.cell 5
    have p6 := HRG.out.cell 6
    have p7 := HRG.out.cell 7
    have p8 := HRG.out.cell 8
    have p9 := HRG.out.cell 9
    simp only [List.getElem?_toArray, List.getElem?_cons_zero, List.getElem?_cons_succ] at p0 p1 p2 p3 p4 p5 p6 p7 p8 p9
    go_wp2_with fail
    refine (refEncode_any wG _ L HVG.out HMO.out).mono ?_; rintro e wH ⟨vq, rfl, hoq, hbH⟩
    clear p0 p1 p2 p3 p4 p5 p6 p7 p8 p9
    rw [← HQ.out] at hoq
    have HH := Lib.hid (HG.out.trans (hbH.mono HG.out.size))
    have HVH := Lib.hid (HVG.out.up hbH)
    have HMH := Lib.hid (HMG.out.up hbH)
    have HRH := Lib.hid (Below.row hbH HRG.out HRG.out.lt)
    have HSH := Lib.hid (Below.row hbH HSG.out HSG.out.lt)
    have HOH := Lib.hid (HOG.out.up hbH)
    have HOQ := Lib.hid (Rd.of_own hoq)
    clear hbH hoq HG HVG HMG HRG HSG HOG
    go_wp2_with fail
    refine (refBytes_true wH wH.heap.size vp vq (closed Q) HOH.out HOQ.out (by have := HQL.out; rw [closed_length]; omega)).mono ?_; rintro e wI ⟨rfl, nd, hwI⟩
    have HI : Hid (Below w.heap.size w wI) := by rw [hwI]; exact ⟨HH.out.os, HH.out.tape, HH.out.output, HH.out.size, HH.out.block⟩
    have HVI : Hid (LayV wI wI.heap.size (.agg #[.slice A0 k0 c0, .slice A1 k1 c1, .slice A2 k2 c2, .slice A3 k3 c3, .slice A4 k4 c4, .int .i64 t0, .int .i64 t1, .int .i64 t2, .int .i64 t3, .int .i64 t4]) L) := by rw [hwI]; exact HVH.out.mono (Nat.le_refl _) (fun _ _ => rfl)
    have HMI : Hid (LayV wI wI.heap.size (.agg #[.slice B0 j0 d0, .slice B1 j1 d1, .slice B2 j2 d2, .slice B3 j3 d3, .slice B4 j4 d4, .int .i64 t0, .int .i64 t1, .int .i64 t2, .int .i64 t3, .int .i64 t4]) L) := by rw [hwI]; exact HMH.out.mono (Nat.le_refl _) (fun _ _ => rfl)
    have HRI : Hid (Row wI n3 33 #[.slice A0 k0 c0, .slice A1 k1 c1, .slice A2 k2 c2, .slice A3 k3 c3, .slice A4 k4 c4, .int .i64 t0, .int .i64 t1, .int .i64 t2, .int .i64 t3, .int .i64 t4]) := by rw [hwI]; exact HRH.out
    have HSI : Hid (Row wI n4 33 #[.slice B0 j0 d0, .slice B1 j1 d1, .slice B2 j2 d2, .slice B3 j3 d3, .slice B4 j4 d4, .int .i64 t0, .int .i64 t1, .int .i64 t2, .int .i64 t3, .int .i64 t4]) := by rw [hwI]; exact HSH.out
    clear hwI HH HVH HMH HRH HSH HOH HOQ
    have p0 := HRI.out.cell 0
    have p1 := HRI.out.cell 1
    have p2 := HRI.out.cell 2
    have p3 := HRI.out.cell 3
    have p4 := HRI.out.cell 4
    have p5 := HRI.out.cell 5
    have p6 := HRI.out.cell 6
    have p7 := HRI.out.cell 7
    have p8 := HRI.out.cell 8
    have p9 := HRI.out.cell 9
    simp only [List.getElem?_toArray, List.getElem?_cons_zero, List.getElem?_cons_succ] at p0 p1 p2 p3 p4 p5 p6 p7 p8 p9
    have q0 := HSI.out.cell 0
    have q1 := HSI.out.cell 1
    have q2 := HSI.out.cell 2
    have q3 := HSI.out.cell 3
    have q4 := HSI.out.cell 4
    have q5 := HSI.out.cell 5
    have q6 := HSI.out.cell 6
    have q7 := HSI.out.cell 7
    have q8 := HSI.out.cell 8
    have q9 := HSI.out.cell 9
    simp only [List.getElem?_toArray, List.getElem?_cons_zero, List.getElem?_cons_succ] at q0 q1 q2 q3 q4 q5 q6 q7 q8 q9
    go_wp2_with fail
    refine (same_any wI _ _ L L HVI.out HMI.out HMO.out).mono ?_; rintro e wJ ⟨rfl, hbJ⟩
    clear p0 p1 p2 p3 p4 p5 p6 p7 p8 p9
    clear q0 q1 q2 q3 q4 q5 q6 q7 q8 q9
    rw [decide_eq_true (alike_refl L)]
    have HJ := Lib.hid (HI.out.trans (hbJ.mono HI.out.size))
    have HVJ := Lib.hid (HVI.out.up hbJ)
    have HMJ := Lib.hid (HMI.out.up hbJ)
    have HRJ := Lib.hid (Below.row hbJ HRI.out HRI.out.lt)
    have HSJ := Lib.hid (Below.row hbJ HSI.out HSI.out.lt)
    clear hbJ HI HVI HMI HRI HSI
    have p0 := HRJ.out.cell 0
    have p1 := HRJ.out.cell 1
    have p2 := HRJ.out.cell 2
    have p3 := HRJ.out.cell 3
    have p4 := HRJ.out.cell 4
    have p5 := HRJ.out.cell 5
    have p6 := HRJ.out.cell 6
    have p7 := HRJ.out.cell 7
    have p8 := HRJ.out.cell 8
    have p9 := HRJ.out.cell 9
    simp only [List.getElem?_toArray, List.getElem?_cons_zero, List.getElem?_cons_succ] at p0 p1 p2 p3 p4 p5 p6 p7 p8 p9
    have q0 := HSJ.out.cell 0
    have q1 := HSJ.out.cell 1
    have q2 := HSJ.out.cell 2
    have q3 := HSJ.out.cell 3
    have q4 := HSJ.out.cell 4
    have q5 := HSJ.out.cell 5
    have q6 := HSJ.out.cell 6
    have q7 := HSJ.out.cell 7
    have q8 := HSJ.out.cell 8
    have q9 := HSJ.out.cell 9
    simp only [List.getElem?_toArray, List.getElem?_cons_zero, List.getElem?_cons_succ] at q0 q1 q2 q3 q4 q5 q6 q7 q8 q9
    go_wp2_with fail
    refine (refSame_any wJ _ _ L L HVJ.out HMJ.out HFE.out).mono ?_; rintro e wK ⟨rfl, hbK⟩
    rw [decide_eq_true (alike_refl L)]
    have HK := Lib.hid (HJ.out.trans (hbK.mono HJ.out.size))
    clear hbK
    go_wp2_with fail
    go_ret
    exact ⟨rfl, by rw [← HG0.out] at HK ⊢; exact HK.out⟩

theorem lifted (os : Os) (started : os.Started) (H : Type) (enc : TypeId × Value → H) :
    ReturnsInHanded {} Try.checked os 3 .any (Rows.layoutBackSpec.pre6 enc Try.prog Try.f3 Rows.layoutBackRow.domain false) (Rows.layoutBackSpec.post enc Try.prog Try.f3 false true false false) := by
  refine returnsInHanded_of_change (C := Try.checked) own started (by kernel_rfl) Try.func3
    (ChangeSpec.witness6 (enc := enc) (C := Try.checked) false ⟨#[], #[.agg #[.int .u8 0, .int .u8 0, .int .u8 0, .int .u16 0, .int .u16 0, .int .u8 0, .int .u8 0, .int .u8 0, .slice none 0 0]], []⟩ 8 (by kernel_rfl) (by kernel_rfl) (by kernel_rfl) (by kernel_rfl)) ?_
  intro W base args ds gs before hval0 hW hcnd _
  have hval : ∀ (j : Nat) t v, Try.f3.params[j]? = some t → args[j]? = some v → Value.okWide Try.prog W .any base t v := hval0
  have hW' := hW
  obtain ⟨p, q, hA0, hV, rfl, hfz, hnd⟩ := hW
  have hA : DataW.TrodAll enc Try.prog W 0 (fun _ => true) true Try.f3.params.toList args.toList ds p := hA0
  rw [Try.params3] at hA hval
  obtain ⟨v0, vs0, d0, ds0, p0, q0, hargs, rfl, rfl, h0, r0⟩ := trodAll_cons hA
  obtain ⟨rfl, rfl, rfl⟩ := trodAll_nil r0
  obtain rfl : args = #[v0] := by cases args; simp_all
  obtain ⟨rfl, rfl⟩ := trodVars_none hV
  have k0 := h0
  have lt0 : ∀ x ∈ p0, x.block < W.heap.size := by obtain ⟨m, hm⟩ := k0; exact DataW.trod_lt m _ _ _ hm
  obtain ⟨e0, vr0, hv0, w0⟩ := draft_of_trod (hval 0 25 v0 rfl rfl) h0
  subst hv0
  clear hA0 hval0
  refine (walk e0 vr0 W w0).mono fun e W' ⟨he, bel⟩ => ?_
  subst he
  exact ⟨_, rfl, _, _, _, [], _, [], hW', trodAll_mk1 (shut_bool Try.underlying4 _), (trodAll_cons_mk (Below.trod laidOut (by kernel_rfl) (of_decide_eq_true (by kernel_rfl)) k0 bel lt0) trodAll_mk0), rfl, bel.frame _, fun h => by cases h⟩

theorem over : Rows.layoutBackRow.holds Try.pinned (OpenSpec.ofChange Rows.layoutBackSpec) :=
  OpenClaim.holds_of_wide 3 Try.f3 rfl rfl rfl rfl rfl rfl rfl ⟨rfl, rfl, rfl, rfl, rfl⟩ rfl rfl rfl rfl rfl (by kernel_rfl) Try.func3 (by kernel_rfl)
    (of_decide_eq_true (by kernel_rfl)) (by unfold Func.isWrapper; first | (rw [if_pos (by decide +kernel)]; kernel_rfl) | (rw [if_neg (by decide +kernel)]; exact ⟨rfl, rfl⟩))
    (fun os started H enc _ => lifted os started H enc)

theorem proved : Rows.LayoutBackSaid := over
#print axioms proved
end Go.Proofs.Ythpfhcelmddjlaa.layoutBack
