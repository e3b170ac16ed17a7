/-
  PROVED: for every input the law GraphBack returns true and leaves its argument as it was: where a train may come from one section into another one it may also come back. No condition.
-/
import Derived.Test.YtpipkbdkkbcooaaRows
import Derived.Test.YtpipkbdkkbcooaaLHead
import Derived.WalkKit
import Derived.ProofKit
import Derived.OpenShut
import Derived.ShutString
import Derived.ChangeOld
import Derived.Below
import Derived.Deep.RegionHeld3
namespace Go.Proofs.Ytpipkbdkkbcooaa.graphBack
open Go.ChangeShapes Go.WideShapes Go.ChangeAt Go.RowKit
open Go.ChangeMaps (open_string shut_string)
set_option linter.unusedVariables false
set_option maxRecDepth 100000

theorem own : ownKnob Try.prog.godebug = none := by kernel_rfl
theorem laidOut : laidOutB Try.prog = true := by kernel_rfl

set_option maxHeartbeats 8000000 in
theorem walk (d0 : Dr) (vr0 : Value) (w : World) (w0 : DrOk d0 ∧ BRows w w.heap.size vr0 d0.routes ∧ d0.routes.length ≤ 9223372036854775807 ∧ ∀ r ∈ d0.routes, r.length ≤ 9223372036854775807) :
    Calls Try.prog 4 #[drV d0 vr0] w fun e w' => e = .returned (.bool true) ∧ Below w.heap.size w w' := by
  obtain ⟨hd, hbr, hl, hrl⟩ := w0
  obtain ⟨Ar, kr, cr, hvr⟩ : ∃ A k c, vr0 = .slice A k c := by obtain ⟨vs, ⟨A, c, e, _⟩, _⟩ := hbr; exact ⟨A, _, c, e⟩
  subst hvr
  have HDK := Lib.hid hd
  have HL : Hid (d0.routes.length ≤ 9223372036854775807 ∧ ∀ r ∈ d0.routes, r.length ≤ 9223372036854775807) := ⟨hl, hrl⟩
  clear hd hl hrl
  have hb0 := (Below.refl w.heap.size w).alloc (Nat.le_refl _) (.cells #[.int .u8 (d0.form : Int), .int .u8 (d0.len : Int), .int .u8 (d0.speed : Int), .int .u16 (d0.mute : Int), .int .u16 (d0.wait : Int), .int .u8 (d0.cancel : Int), .int .u8 (d0.stay : Int), .int .u8 (d0.join : Int), .slice Ar kr cr] 25)
  have HB0 := Lib.hid hb0
  have HBR := Lib.hid (hbr.up hb0)
  have HRW := Lib.hid (Row.new w 25 #[.int .u8 (d0.form : Int), .int .u8 (d0.len : Int), .int .u8 (d0.speed : Int), .int .u16 (d0.mute : Int), .int .u16 (d0.wait : Int), .int .u8 (d0.cancel : Int), .int .u8 (d0.stay : Int), .int .u8 (d0.join : Int), .slice Ar kr cr])
  clear hb0 hbr
  unfold drV
  cases hs : small d0 with
  | false =>
    go_enter Try.func4, Try.ntmps4
    go_upto_region 1 with (fail)
    obtain ⟨g0, hg0⟩ : ∃ n, n = w.heap.size := ⟨_, rfl⟩
    rw [← hg0] at HRW ⊢
    have HG0 : Hid (g0 = w.heap.size) := hg0
    generalize w.alloc (.cells #[.int .u8 (d0.form : Int), .int .u8 (d0.len : Int), .int .u8 (d0.speed : Int), .int .u16 (d0.mute : Int), .int .u16 (d0.wait : Int), .int .u8 (d0.cancel : Int), .int .u8 (d0.stay : Int), .int .u8 (d0.join : Int), .slice Ar kr cr] 25) = W0 at *
    clear hg0
    go_wp2_with fail
    refine (joins_any _).mono ?_; rintro e wA ⟨rfl, hbA⟩
    have HA := Lib.hid (HB0.out.trans (hbA.mono HB0.out.size))
    have HRA := Lib.hid (Below.row hbA HRW.out HRW.out.lt)
    have HBA := Lib.hid (HBR.out.up hbA)
    clear hbA HB0 HRW HBR
    have f0 := HRA.out.cell 0
    have f1 := HRA.out.cell 1
    have f2 := HRA.out.cell 2
    have f3 := HRA.out.cell 3
    have f4 := HRA.out.cell 4
    have f5 := HRA.out.cell 5
    have f6 := HRA.out.cell 6
    have f7 := HRA.out.cell 7
    have f8 := HRA.out.cell 8
    simp only [List.getElem?_toArray, List.getElem?_cons_zero, List.getElem?_cons_succ] at f0 f1 f2 f3 f4 f5 f6 f7 f8
    go_wp2_with fail
    refine (small_any wA d0 (.slice Ar kr cr) HBA.out HL.out.1 HL.out.2).mono ?_; rintro e wB ⟨rfl, hbB⟩
    clear f0 f1 f2 f3 f4 f5 f6 f7 f8
    rw [hs]
    have HB := Lib.hid (HA.out.trans (hbB.mono HA.out.size))
    have HRB := Lib.hid (Below.row hbB HRA.out HRA.out.lt)
    have HBB := Lib.hid (HBA.out.up hbB)
    clear hbB HA HRA HBA
    go_wp2_with fail
    refine (joins_any _).mono ?_; rintro e wZ ⟨rfl, hbZ⟩
    have HZ := Lib.hid (HB.out.trans (hbZ.mono HB.out.size))
    clear hbZ
    go_wp2_with fail
    go_ret
    exact ⟨rfl, by rw [← HG0.out] at HZ ⊢; exact HZ.out⟩
  | true =>
    have HS := Lib.hid hs
    go_enter Try.func4, Try.ntmps4
    go_upto_region 1 with (fail)
    obtain ⟨g0, hg0⟩ : ∃ n, n = w.heap.size := ⟨_, rfl⟩
    rw [← hg0] at HRW ⊢
    have HG0 : Hid (g0 = w.heap.size) := hg0
    generalize w.alloc (.cells #[.int .u8 (d0.form : Int), .int .u8 (d0.len : Int), .int .u8 (d0.speed : Int), .int .u16 (d0.mute : Int), .int .u16 (d0.wait : Int), .int .u8 (d0.cancel : Int), .int .u8 (d0.stay : Int), .int .u8 (d0.join : Int), .slice Ar kr cr] 25) = W0 at *
    clear hg0
    go_wp2_with fail
    refine (joins_any _).mono ?_; rintro e wA ⟨rfl, hbA⟩
    have HA := Lib.hid (HB0.out.trans (hbA.mono HB0.out.size))
    have HRA := Lib.hid (Below.row hbA HRW.out HRW.out.lt)
    have HBA := Lib.hid (HBR.out.up hbA)
    clear hbA HB0 HRW HBR
    have f0 := HRA.out.cell 0
    have f1 := HRA.out.cell 1
    have f2 := HRA.out.cell 2
    have f3 := HRA.out.cell 3
    have f4 := HRA.out.cell 4
    have f5 := HRA.out.cell 5
    have f6 := HRA.out.cell 6
    have f7 := HRA.out.cell 7
    have f8 := HRA.out.cell 8
    simp only [List.getElem?_toArray, List.getElem?_cons_zero, List.getElem?_cons_succ] at f0 f1 f2 f3 f4 f5 f6 f7 f8
    go_wp2_with fail
    refine (small_any wA d0 (.slice Ar kr cr) HBA.out HL.out.1 HL.out.2).mono ?_; rintro e wB ⟨rfl, hbB⟩
    clear f0 f1 f2 f3 f4 f5 f6 f7 f8
    rw [hs]
    have HB := Lib.hid (HA.out.trans (hbB.mono HA.out.size))
    have HRB := Lib.hid (Below.row hbB HRA.out HRA.out.lt)
    have HBB := Lib.hid (HBA.out.up hbB)
    clear hbB HA HRA HBA
    have f0 := HRB.out.cell 0
    have f1 := HRB.out.cell 1
    have f2 := HRB.out.cell 2
    have f3 := HRB.out.cell 3
    have f4 := HRB.out.cell 4
    have f5 := HRB.out.cell 5
    have f6 := HRB.out.cell 6
    have f7 := HRB.out.cell 7
    have f8 := HRB.out.cell 8
    simp only [List.getElem?_toArray, List.getElem?_cons_zero, List.getElem?_cons_succ] at f0 f1 f2 f3 f4 f5 f6 f7 f8
    go_wp2_with fail
    refine (full_any wB d0 (.slice Ar kr cr) HDK.out HBB.out hs).mono ?_; rintro e wC ⟨vL, rfl, hvL, hbL⟩
    clear f0 f1 f2 f3 f4 f5 f6 f7 f8
    have HC := Lib.hid (HB.out.trans (hbL.mono HB.out.size))
    clear hbL HB HRB HBB
    have HFT : Hid (Fits (fullL d0)) := fullL_fits d0
    have HBK : Hid (∀ (s : Nat) (_ : s < (fullL d0).secs.length) (k : Int) (_ : k = 0 ∨ k = 1) (x : Int × Int) (_ : x ∈ aroundL (fullL d0) ((s : Int), k)), ((s : Int), k) ∈ aroundL (fullL d0) x ∧ (nearL (fullL d0) (s : Int)).contains x.1 = true ∧ (nearL (fullL d0) x.1).contains (s : Int) = true) := back_any d0
    have HSL : Hid ((fullL d0).secs.length ≤ 8) := by have := (makeEnds_len d0).2; show (makeSecs d0 (makeEnds d0) (makeEnds d0).length).length ≤ 8; rw [makeSecs_len]; exact this
    generalize fullL d0 = L at *
    have HVL := Lib.hid hvL
    obtain ⟨A0, k0, c0, A1, k1, c1, A2, k2, c2, A3, k3, c3, A4, k4, c4, t0, t1, t2, t3, t4, hv, hk0, hk1, hk2, hk3⟩ := hvL.lens
    subst hv
    have HK : Hid (L.nodes.length = k0 ∧ L.secs.length = k1 ∧ L.parts.length = k2 ∧ L.points.length = k3) := ⟨hk0, hk1, hk2, hk3⟩
    clear hvL hk0 hk1 hk2 hk3
    have hb2 := (Below.refl wC.heap.size wC).alloc (Nat.le_refl _) (.cells #[.slice A0 k0 c0, .slice A1 k1 c1, .slice A2 k2 c2, .slice A3 k3 c3, .slice A4 k4 c4, .int .i64 t0, .int .i64 t1, .int .i64 t2, .int .i64 t3, .int .i64 t4] 35)
    have HD := Lib.hid (HC.out.trans (hb2.mono HC.out.size))
    have HV2 := Lib.hid (HVL.out.up hb2)
    have HR2 := Lib.hid (Row.new wC 35 #[.slice A0 k0 c0, .slice A1 k1 c1, .slice A2 k2 c2, .slice A3 k3 c3, .slice A4 k4 c4, .int .i64 t0, .int .i64 t1, .int .i64 t2, .int .i64 t3, .int .i64 t4])
    clear hb2 HC HVL
    go_upto_region 4 with (fail)
    obtain ⟨nL, hnL⟩ : ∃ n, n = wC.heap.size := ⟨_, rfl⟩
    rw [← hnL] at HR2 ⊢
    clear hnL
    generalize wC.alloc (.cells #[.slice A0 k0 c0, .slice A1 k1 c1, .slice A2 k2 c2, .slice A3 k3 c3, .slice A4 k4 c4, .int .i64 t0, .int .i64 t1, .int .i64 t2, .int .i64 t3, .int .i64 t4] 35) = wD at *
    have p0 := HR2.out.cell 0
    have p1 := HR2.out.cell 1
    have p2 := HR2.out.cell 2
    have p3 := HR2.out.cell 3
    have p4 := HR2.out.cell 4
    have p5 := HR2.out.cell 5
    have p6 := HR2.out.cell 6
    have p7 := HR2.out.cell 7
    have p8 := HR2.out.cell 8
    have p9 := HR2.out.cell 9
    simp only [List.getElem?_toArray, List.getElem?_cons_zero, List.getElem?_cons_succ] at p0 p1 p2 p3 p4 p5 p6 p7 p8 p9
    go_wp2_with fail
    refine (new_any wD _ L HV2.out HFT.out).mono ?_; rintro e wE ⟨vg, rfl, hg, hbE⟩
    clear p0 p1 p2 p3 p4 p5 p6 p7 p8 p9
    have HST : Hid (GSt w g0 nL wE.heap.size #[.slice A0 k0 c0, .slice A1 k1 c1, .slice A2 k2 c2, .slice A3 k3 c3, .slice A4 k4 c4, .int .i64 t0, .int .i64 t1, .int .i64 t2, .int .i64 t3, .int .i64 t4] vg L wE) := by
      have hDs := HD.out.size; have hEs := hbE.size; have hgl := HG0.out; have hnl := HR2.out.lt
      refine ⟨by rw [hgl]; exact HD.out.trans (hbE.mono HD.out.size), Below.row hbE HR2.out HR2.out.lt, hg, Nat.le_refl _, by omega, by omega⟩
    have HVE := Lib.hid (HV2.out.up hbE)
    obtain ⟨DG, hDG⟩ : ∃ n, n = wE.heap.size := ⟨_, rfl⟩
    rw [← hDG] at HST HVE
    clear hg hbE HD HV2 HR2 hDG
    go_wp2_with fail
    have hk8 : k1 ≤ 8 := by have h1 := HSL.out; have h2 := HK.out.2.1; omega
    go_loopw [5] (fun k wr => ∃ s : Nat, s ≤ k1 ∧ k = .int .i64 s ∧ Hid (GSt w g0 nL DG #[.slice A0 k0 c0, .slice A1 k1 c1, .slice A2 k2 c2, .slice A3 k3 c3, .slice A4 k4 c4, .int .i64 t0, .int .i64 t1, .int .i64 t2, .int .i64 t3, .int .i64 t4] vg L wr)) (fun k _ => k1 - (intOf k).toNat)
    case atStart => exact ⟨0, Nat.zero_le _, rfl, HST⟩
    case round =>
      obtain ⟨s, hs1, rfl, HS1⟩ := hrel
      have f1 := HS1.out.row.cell 1
      simp only [List.getElem?_toArray, List.getElem?_cons_zero, List.getElem?_cons_succ] at f1
      by_cases hlt : s < k1
      · obtain ⟨wS, hwS⟩ : ∃ x, x = wr := ⟨_, rfl⟩
        subst hwS
        go_wp2_with fail
        clear f1
        go_loopw [6] (fun k wr => ∃ q : Nat, q ≤ 2 ∧ k = .int .i64 q ∧ Hid (GSt w g0 nL DG #[.slice A0 k0 c0, .slice A1 k1 c1, .slice A2 k2 c2, .slice A3 k3 c3, .slice A4 k4 c4, .int .i64 t0, .int .i64 t1, .int .i64 t2, .int .i64 t3, .int .i64 t4] vg L wr)) (fun k _ => 2 - (intOf k).toNat)
        case atStart => exact ⟨0, Nat.zero_le _, rfl, HS1⟩
        case round =>
          obtain ⟨q, hq, rfl, HQ⟩ := hrel
          by_cases hlt2 : q < 2
          · have HBQ : Hid (∀ x ∈ aroundL L ((s : Int), (q : Int)), ((s : Int), (q : Int)) ∈ aroundL L x ∧ (nearL L (s : Int)).contains x.1 = true ∧ (nearL L x.1).contains (s : Int) = true) := fun x hx => HBK.out s (by have := HK.out.2.1; omega) (q : Int) (by omega) x hx
            obtain ⟨wQ, hwQ⟩ : ∃ x, x = wr := ⟨_, rfl⟩
            subst hwQ
            have HQ2 := Lib.hid (HQ.out.alloc (.cells #[.int .i64 (s : Int), .int .i64 (q : Int)] 41))
            have HRE := Lib.hid (Row.new wQ 41 #[.int .i64 (s : Int), .int .i64 (q : Int)])
            clear HQ
            go_upto_region 12 with (fail)
            obtain ⟨ne, hne⟩ : ∃ n, n = wQ.heap.size := ⟨_, rfl⟩
            rw [← hne] at HRE ⊢
            clear hne
            generalize wQ.alloc (.cells #[.int .i64 (s : Int), .int .i64 (q : Int)] 41) = wR at *
            have e0 := HRE.out.cell 0; have e1 := HRE.out.cell 1
            simp only [List.getElem?_toArray, List.getElem?_cons_zero, List.getElem?_cons_succ] at e0 e1
            go_wp2_with fail
            refine (around_any wR DG _ L (s : Int) (q : Int) HQ2.out.gr HQ2.out.sz HFT.out).mono ?_; rintro e wX ⟨vX, rfl, hpX, hbX⟩
            obtain ⟨Ax, cx, hvx, -⟩ := id hpX
            subst hvx
            have HX0 : Hid (GSt w g0 nL DG #[.slice A0 k0 c0, .slice A1 k1 c1, .slice A2 k2 c2, .slice A3 k3 c3, .slice A4 k4 c4, .int .i64 t0, .int .i64 t1, .int .i64 t2, .int .i64 t3, .int .i64 t4] vg L wX ∧ Row wX ne 41 #[.int .i64 (s : Int), .int .i64 (q : Int)] ∧ Prs wX wX.heap.size (.slice Ax (aroundL L ((s : Int), (q : Int))).length cx) (aroundL L ((s : Int), (q : Int)))) := ⟨HQ2.out.call hbX, Below.row hbX HRE.out HRE.out.lt, hpX⟩
            have hxl := aroundL_le L ((s : Int), (q : Int))
            generalize aroundL L ((s : Int), (q : Int)) = xs at *
            clear hpX hbX HQ2 HRE e0 e1
            go_wp2_with fail
            go_loopw [9] (fun k wr => ∃ i : Nat, i ≤ xs.length ∧ k = .int .i64 i ∧ Hid (GSt w g0 nL DG #[.slice A0 k0 c0, .slice A1 k1 c1, .slice A2 k2 c2, .slice A3 k3 c3, .slice A4 k4 c4, .int .i64 t0, .int .i64 t1, .int .i64 t2, .int .i64 t3, .int .i64 t4] vg L wr ∧ Row wr ne 41 #[.int .i64 (s : Int), .int .i64 (q : Int)] ∧ Prs wr wr.heap.size (.slice Ax xs.length cx) xs)) (fun k _ => xs.length - (intOf k).toNat)
            case atStart => exact ⟨0, Nat.zero_le _, rfl, HX0.out⟩
            case round =>
              obtain ⟨i, hi3, rfl, HI⟩ := hrel
              by_cases hlt3 : i < xs.length
              · have HBX := Lib.hid (HBQ.out xs[i] (List.getElem_mem _))
                obtain ⟨b, o, rfl, -, u0, u1⟩ := HI.out.2.2.at i hlt3
                obtain ⟨x, hxe⟩ : ∃ x, xs[i] = x := ⟨_, rfl⟩
                rw [hxe] at u0 u1 HBX
                have HXI := Lib.hid hxe
                clear hxe
                obtain ⟨x0, x1⟩ := x
                simp only at u0 u1
                have hnl1 : (nearL L (s : Int)).length ≤ 100000 := by have := riseL_le (nearTo L (s : Int) 2); have := nearTo_le L (s : Int) 2; show (riseL (nearTo L (s : Int) 2)).length ≤ 100000; omega
                have hnl2 : (nearL L x0).length ≤ 100000 := by have := riseL_le (nearTo L x0 2); have := nearTo_le L x0 2; show (riseL (nearTo L x0 2)).length ≤ 100000; omega
                have HC1 : Hid ((nearL L (s : Int)).contains x0 = true) := HBX.out.2.1
                have HC2 : Hid ((nearL L x0).contains (s : Int) = true) := HBX.out.2.2
                have HYC0 : Hid ((aroundL L (x0, x1)).contains ((s : Int), (q : Int)) = true) := List.contains_iff_mem.2 HBX.out.1
                have hyl := aroundL_le L (x0, x1)
                clear HBX
                obtain ⟨wI, hwI⟩ : ∃ x, x = wr := ⟨_, rfl⟩
                subst hwI
                go_wp2_with fail
                refine (around_any wI DG _ L x0 x1 HI.out.1.gr HI.out.1.sz HFT.out).mono ?_; rintro e wY ⟨vY, rfl, hpY, hbY⟩
                obtain ⟨Ay, cy, hvy, -⟩ := id hpY
                subst hvy
                have HY1 : Hid (GSt w g0 nL DG #[.slice A0 k0 c0, .slice A1 k1 c1, .slice A2 k2 c2, .slice A3 k3 c3, .slice A4 k4 c4, .int .i64 t0, .int .i64 t1, .int .i64 t2, .int .i64 t3, .int .i64 t4] vg L wY ∧ Row wY ne 41 #[.int .i64 (s : Int), .int .i64 (q : Int)] ∧ Prs wY wI.heap.size (.slice (some ⟨b, o, none⟩) xs.length cx) xs ∧ wI.heap.size ≤ wY.heap.size ∧ Prs wY wY.heap.size (.slice Ay (aroundL L (x0, x1)).length cy) (aroundL L (x0, x1))) := ⟨HI.out.1.call hbY, Below.row hbY HI.out.2.1 HI.out.2.1.lt, HI.out.2.2.mono (Nat.le_refl _) (fun k hk => hbY.block k hk), hbY.size, hpY⟩
                obtain ⟨ys, hys⟩ : ∃ ys, ys = aroundL L (x0, x1) := ⟨_, rfl⟩
                rw [← hys] at HY1 HYC0 hyl ⊢
                have HYC := Lib.hid HYC0.out
                clear hpY hbY HI u0 u1 hys HYC0
                obtain ⟨DX, hDX⟩ : ∃ n, n = wI.heap.size := ⟨_, rfl⟩
                obtain ⟨DY, hDY⟩ : ∃ n, n = wY.heap.size := ⟨_, rfl⟩
                have HY0 : Hid (GSt w g0 nL DG #[.slice A0 k0 c0, .slice A1 k1 c1, .slice A2 k2 c2, .slice A3 k3 c3, .slice A4 k4 c4, .int .i64 t0, .int .i64 t1, .int .i64 t2, .int .i64 t3, .int .i64 t4] vg L wY ∧ Row wY ne 41 #[.int .i64 (s : Int), .int .i64 (q : Int)] ∧ Prs wY DX (.slice (some ⟨b, o, none⟩) xs.length cx) xs ∧ DX ≤ wY.heap.size ∧ Prs wY DY (.slice Ay ys.length cy) ys) := by rw [hDX, hDY]; exact HY1.out
                clear HY1 hDX hDY
                go_wp2_with fail
                go_loopw [10, 12] (fun f k wr => ∃ j : Nat, j ≤ ys.length ∧ k = .int .i64 j ∧ f = .bool ((ys.take j).contains ((s : Int), (q : Int))) ∧ Hid (GSt w g0 nL DG #[.slice A0 k0 c0, .slice A1 k1 c1, .slice A2 k2 c2, .slice A3 k3 c3, .slice A4 k4 c4, .int .i64 t0, .int .i64 t1, .int .i64 t2, .int .i64 t3, .int .i64 t4] vg L wr ∧ Row wr ne 41 #[.int .i64 (s : Int), .int .i64 (q : Int)] ∧ Prs wr DX (.slice (some ⟨b, o, none⟩) xs.length cx) xs ∧ DX ≤ wr.heap.size ∧ Prs wr DY (.slice Ay ys.length cy) ys)) (fun _ k _ => ys.length - (intOf k).toNat)
                case atStart => exact ⟨0, Nat.zero_le _, rfl, rfl, HY0.out⟩
                case round =>
                  obtain ⟨j, hj, rfl, rfl, HJ⟩ := hrel
                  by_cases hlt4 : j < ys.length
                  · have HCT := Lib.hid (contains_take_succ ys ((s : Int), (q : Int)) j hlt4)
                    obtain ⟨b2, o2, rfl, -, v0, v1⟩ := HJ.out.2.2.2.2.at j hlt4
                    have e0 := HJ.out.2.1.cell 0; have e1 := HJ.out.2.1.cell 1
                    simp only [List.getElem?_toArray, List.getElem?_cons_zero, List.getElem?_cons_succ] at e0 e1
                    generalize ys[j] = z at *
                    obtain ⟨z0, z1⟩ := z
                    simp only at v0 v1 HCT
                    have qe := eql_end z0 z1 (s : Int) (q : Int)
                    have HZB : Hid (((z0, z1) == ((s : Int), (q : Int))) = (z0 == (s : Int) && z1 == (q : Int))) := rfl
                    cases hc : (ys.take j).contains ((s : Int), (q : Int)) with
                    | true =>
                      have HCN : Hid ((ys.take (j + 1)).contains ((s : Int), (q : Int)) = true) := by show _ = _; rw [HCT.out, hc]; rfl
                      clear HCT hc HZB qe
                      go_upto_region 21 with (fail)
                      go_quiet (fail)
                      have HN4 : Hid (∀ n, GSt w g0 nL DG #[.slice A0 k0 c0, .slice A1 k1 c1, .slice A2 k2 c2, .slice A3 k3 c3, .slice A4 k4 c4, .int .i64 t0, .int .i64 t1, .int .i64 t2, .int .i64 t3, .int .i64 t4] vg L (wr.drewN n) ∧ Row (wr.drewN n) ne 41 #[.int .i64 (s : Int), .int .i64 (q : Int)] ∧ Prs (wr.drewN n) DX (.slice (some ⟨b, o, none⟩) xs.length cx) xs ∧ DX ≤ (wr.drewN n).heap.size ∧ Prs (wr.drewN n) DY (.slice (some ⟨b2, o2, none⟩) ys.length cy) ys) := fun n => ⟨HJ.out.1.drewN n, HJ.out.2.1, HJ.out.2.2.1.drewN n, HJ.out.2.2.2.1, HJ.out.2.2.2.2.drewN n⟩
                      clear v0 v1 e0 e1
                      go_wp2_with fail
                      go_roundw
                      case rel => exact ⟨j + 1, by omega, by go_num, by rw [HCN.out], HN4.out _⟩
                      case measure => simp [intOf]; omega
                    | false =>
                      have HCN : Hid ((ys.take (j + 1)).contains ((s : Int), (q : Int)) = (z0 == (s : Int) && z1 == (q : Int))) := by show _ = _; rw [HCT.out, hc, HZB.out]; rfl
                      clear HCT hc HZB
                      generalize (z0 == (s : Int) && z1 == (q : Int)) = zb at *
                      go_upto_region 21 with (fail)
                      go_quiet (fail)
                      have HN4 : Hid (∀ n, GSt w g0 nL DG #[.slice A0 k0 c0, .slice A1 k1 c1, .slice A2 k2 c2, .slice A3 k3 c3, .slice A4 k4 c4, .int .i64 t0, .int .i64 t1, .int .i64 t2, .int .i64 t3, .int .i64 t4] vg L (wr.drewN n) ∧ Row (wr.drewN n) ne 41 #[.int .i64 (s : Int), .int .i64 (q : Int)] ∧ Prs (wr.drewN n) DX (.slice (some ⟨b, o, none⟩) xs.length cx) xs ∧ DX ≤ (wr.drewN n).heap.size ∧ Prs (wr.drewN n) DY (.slice (some ⟨b2, o2, none⟩) ys.length cy) ys) := fun n => ⟨HJ.out.1.drewN n, HJ.out.2.1, HJ.out.2.2.1.drewN n, HJ.out.2.2.2.1, HJ.out.2.2.2.2.drewN n⟩
                      clear v0 v1 e0 e1 qe
                      go_wp2_with fail
                      go_roundw
                      case rel => exact ⟨j + 1, by omega, by go_num, by rw [HCN.out], HN4.out _⟩
                      case measure => simp [intOf]; omega
                  · have HCE : Hid ((ys.take j).contains ((s : Int), (q : Int)) = true) := by show _ = _; rw [List.take_of_length_le (by omega)]; exact HYC.out
                    obtain ⟨b5, o5, hA5, -, u0, u1⟩ := HJ.out.2.2.1.at i hlt3
                    injection hA5 with hA5
                    injection hA5 with q5 r5
                    subst q5 r5
                    rw [HXI.out] at u0 u1
                    simp only at u0 u1
                    rw [HCE.out]
                    have HX1 : Hid (GSt w g0 nL DG #[.slice A0 k0 c0, .slice A1 k1 c1, .slice A2 k2 c2, .slice A3 k3 c3, .slice A4 k4 c4, .int .i64 t0, .int .i64 t1, .int .i64 t2, .int .i64 t3, .int .i64 t4] vg L wr.drew ∧ Row wr.drew ne 41 #[.int .i64 (s : Int), .int .i64 (q : Int)] ∧ Prs wr.drew DX (.slice (some ⟨b, o, none⟩) xs.length cx) xs ∧ DX ≤ wr.drew.heap.size) := ⟨HJ.out.1.drewN 1, HJ.out.2.1, HJ.out.2.2.1.drewN 1, HJ.out.2.2.2.1⟩
                    clear HJ HCE
                    go_upto_region 22 with (fail)
                    have d1 : wr.drew.cell? ⟨b, o + i * 2, none⟩ = some (.int .i64 x0) := u0
                    have HDL : Hid (b < wr.drew.heap.size) := cell_lt (w := wr.drew) d1
                    go_region_held3 (fun w' => w'.cell? ⟨b, o + i * 2, none⟩ = some (.int .i64 x0)) (first | assumption | go_keep) (first | (go_at_call 16; (with_reducible refine (near_any wr.drew DG vg L (s : Int) HX1.out.1.gr HX1.out.1.sz HFT.out).mono ?_); rintro e wN ⟨vN, rfl, hoN, hbN⟩; have HX2 : Hid (GSt w g0 nL DG #[.slice A0 k0 c0, .slice A1 k1 c1, .slice A2 k2 c2, .slice A3 k3 c3, .slice A4 k4 c4, .int .i64 t0, .int .i64 t1, .int .i64 t2, .int .i64 t3, .int .i64 t4] vg L wN ∧ Row wN ne 41 #[.int .i64 (s : Int), .int .i64 (q : Int)] ∧ Prs wN wN.heap.size (.slice (some ⟨b, o, none⟩) xs.length cx) xs ∧ DX ≤ wN.heap.size) := ⟨HX1.out.1.call hbN, Below.row hbN HX1.out.2.1 HX1.out.2.1.lt, (HX1.out.2.2.1.mono HX1.out.2.2.2 (fun _ _ => rfl)).up hbN, Nat.le_trans HX1.out.2.2.2 hbN.size⟩; have d2 : wN.cell? ⟨b, o + i * 2, none⟩ = some (.int .i64 x0) := (hbN.cell (p := ⟨b, o + i * 2, none⟩) HDL.out).trans d1; have HDN : Hid (b < wN.heap.size) := Nat.lt_of_lt_of_le HDL.out hbN.size; have HON := Lib.hid (Rd.of_own hoN); clear hbN hoN) | (go_at_call 15; (with_reducible refine (refHas_any wN wN.heap.size vN (nearL L (s : Int)) x0 HON.out hnl1).mono ?_); rintro e w' ⟨rfl, rfl⟩; rw [HC1.out]) | (go_at_call 16; (with_reducible refine (near_any wN DG vg L x0 HX2.out.1.gr HX2.out.1.sz HFT.out).mono ?_); rintro e wM ⟨vM, rfl, hoM, hbM⟩; have HX3 : Hid (GSt w g0 nL DG #[.slice A0 k0 c0, .slice A1 k1 c1, .slice A2 k2 c2, .slice A3 k3 c3, .slice A4 k4 c4, .int .i64 t0, .int .i64 t1, .int .i64 t2, .int .i64 t3, .int .i64 t4] vg L wM ∧ Row wM ne 41 #[.int .i64 (s : Int), .int .i64 (q : Int)] ∧ Prs wM wM.heap.size (.slice (some ⟨b, o, none⟩) xs.length cx) xs) := ⟨HX2.out.1.call hbM, Below.row hbM HX2.out.2.1 HX2.out.2.1.lt, HX2.out.2.2.1.up hbM⟩; have d3 : wM.cell? ⟨b, o + i * 2, none⟩ = some (.int .i64 x0) := (hbM.cell (p := ⟨b, o + i * 2, none⟩) HDN.out).trans d2; have HOM := Lib.hid (Rd.of_own hoM); clear hbM hoM) | (go_at_call 15; (with_reducible refine (refHas_any wM wM.heap.size vM (nearL L x0) (s : Int) HOM.out hnl2).mono ?_); rintro e w' ⟨rfl, rfl⟩; rw [HC2.out]))
                    clear d1 d2 d3 u0 u1 HX1 HX2 HON HOM
                    go_wp2_with fail
                    go_roundw
                    case rel => exact ⟨i + 1, by omega, by go_num, HX3.out.1, HX3.out.2.1, HX3.out.2.2⟩
                    case measure => simp [intOf]; omega
              · have HIS := Lib.hid HI.out.1
                clear HI
                go_wp2_with fail
                go_roundw
                case rel => exact ⟨q + 1, by omega, by go_num, HIS⟩
                case measure => simp [intOf]; omega
          · go_wp2_with fail
            go_roundw
            case rel => exact ⟨s + 1, by omega, by go_num, HQ⟩
            case measure => simp [intOf]; omega
      · go_wp2_with fail
        go_ret
        exact ⟨rfl, by rw [← HG0.out]; exact HS1.out.bel⟩

theorem lifted (os : Os) (started : os.Started) (H : Type) (enc : TypeId × Value → H) :
    ReturnsInHanded {} Try.checked os 4 .any (Rows.graphBackSpec.pre6 enc Try.prog Try.f4 Rows.graphBackRow.domain false) (Rows.graphBackSpec.post enc Try.prog Try.f4 false true false false) := by
  refine returnsInHanded_of_change (C := Try.checked) own started (by kernel_rfl) Try.func4
    (ChangeSpec.witness6 (enc := enc) (C := Try.checked) false ⟨#[], #[.agg #[.int .u8 0, .int .u8 0, .int .u8 0, .int .u16 0, .int .u16 0, .int .u8 0, .int .u8 0, .int .u8 0, .slice none 0 0]], []⟩ 8 (by kernel_rfl) (by kernel_rfl) (by kernel_rfl) (by kernel_rfl)) ?_
  intro W base args ds gs before hval0 hW hcnd _
  have hval : ∀ (j : Nat) t v, Try.f4.params[j]? = some t → args[j]? = some v → Value.okWide Try.prog W .any base t v := hval0
  have hW' := hW
  obtain ⟨p, q, hA0, hV, rfl, hfz, hnd⟩ := hW
  have hA : DataW.TrodAll enc Try.prog W 0 (fun _ => true) true Try.f4.params.toList args.toList ds p := hA0
  rw [Try.params4] at hA hval
  obtain ⟨v0, vs0, d0, ds0, p0, q0, hargs, rfl, rfl, h0, r0⟩ := trodAll_cons hA
  obtain ⟨rfl, rfl, rfl⟩ := trodAll_nil r0
  obtain rfl : args = #[v0] := by cases args; simp_all
  obtain ⟨rfl, rfl⟩ := trodVars_none hV
  have k0 := h0
  have lt0 : ∀ x ∈ p0, x.block < W.heap.size := by obtain ⟨m, hm⟩ := k0; exact DataW.trod_lt m _ _ _ hm
  obtain ⟨e0, vr0, hv0, w0⟩ := draft_of_trod (hval 0 25 v0 rfl rfl) h0
  subst hv0
  clear hA0 hval0
  refine (walk e0 vr0 W w0).mono fun e W' ⟨he, bel⟩ => ?_
  subst he
  exact ⟨_, rfl, _, _, _, [], _, [], hW', trodAll_mk1 (shut_bool Try.underlying4 _), (trodAll_cons_mk (Below.trod laidOut (by kernel_rfl) (of_decide_eq_true (by kernel_rfl)) k0 bel lt0) trodAll_mk0), rfl, bel.frame _, fun h => by cases h⟩

theorem over : Rows.graphBackRow.holds Try.pinned (OpenSpec.ofChange Rows.graphBackSpec) :=
  OpenClaim.holds_of_wide 4 Try.f4 rfl rfl rfl rfl rfl rfl rfl ⟨rfl, rfl, rfl, rfl, rfl⟩ rfl rfl rfl rfl rfl (by kernel_rfl) Try.func4 (by kernel_rfl)
    (of_decide_eq_true (by kernel_rfl)) (by unfold Func.isWrapper; first | (rw [if_pos (by decide +kernel)]; kernel_rfl) | (rw [if_neg (by decide +kernel)]; exact ⟨rfl, rfl⟩))
    (fun os started H enc _ => lifted os started H enc)

theorem proved : Rows.GraphBackSaid := over
#print axioms proved
end Go.Proofs.Ytpipkbdkkbcooaa.graphBack
