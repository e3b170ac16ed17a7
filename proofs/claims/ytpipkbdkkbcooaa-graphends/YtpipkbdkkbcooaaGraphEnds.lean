/-
  PROVED: for every input the law GraphEnds returns true and leaves its argument as it was: each end of each section is at one node; a part is beside another one, if that one is beside it. No condition.
-/
import Derived.Test.YtpipkbdkkbcooaaRows
import Derived.Test.YtpipkbdkkbcooaaLHead2
import Derived.WalkKit
import Derived.ProofKit
import Derived.OpenShut
import Derived.ShutString
import Derived.ChangeOld
import Derived.Below
import Derived.Deep.RegionHeld3
namespace Go.Proofs.Ytpipkbdkkbcooaa.graphEnds
open Go.ChangeShapes Go.WideShapes Go.ChangeAt Go.RowKit
open Go.ChangeMaps (open_string shut_string)
set_option linter.unusedVariables false
set_option maxRecDepth 100000

theorem own : ownKnob Try.prog.godebug = none := by kernel_rfl
theorem laidOut : laidOutB Try.prog = true := by kernel_rfl

set_option maxHeartbeats 8000000 in
theorem walk (d0 : Dr) (vr0 : Value) (w : World) (w0 : DrOk d0 ∧ BRows w w.heap.size vr0 d0.routes ∧ d0.routes.length ≤ 9223372036854775807 ∧ ∀ r ∈ d0.routes, r.length ≤ 9223372036854775807) :
    Calls Try.prog 8 #[drV d0 vr0] w fun e w' => e = .returned (.bool true) ∧ Below w.heap.size w w' := by
  obtain ⟨hd, hbr, hl, hrl⟩ := w0
  obtain ⟨Ar, kr, cr, hvr⟩ : ∃ A k c, vr0 = .slice A k c := by obtain ⟨vs, ⟨A, c, e, _⟩, _⟩ := hbr; exact ⟨A, _, c, e⟩
  subst hvr
  have HDK := Lib.hid hd
  have HL : Hid (d0.routes.length ≤ 9223372036854775807 ∧ ∀ r ∈ d0.routes, r.length ≤ 9223372036854775807) := ⟨hl, hrl⟩
  clear hd hl hrl
  have hb0 := (Below.refl w.heap.size w).alloc (Nat.le_refl _) (.cells #[.int .u8 (d0.form : Int), .int .u8 (d0.len : Int), .int .u8 (d0.speed : Int), .int .u16 (d0.mute : Int), .int .u16 (d0.wait : Int), .int .u8 (d0.cancel : Int), .int .u8 (d0.stay : Int), .int .u8 (d0.join : Int), .slice Ar kr cr] 25)
  have HB0 := Lib.hid hb0
  have HBR := Lib.hid (hbr.up hb0)
  have HRW := Lib.hid (Row.new w 25 #[.int .u8 (d0.form : Int), .int .u8 (d0.len : Int), .int .u8 (d0.speed : Int), .int .u16 (d0.mute : Int), .int .u16 (d0.wait : Int), .int .u8 (d0.cancel : Int), .int .u8 (d0.stay : Int), .int .u8 (d0.join : Int), .slice Ar kr cr])
  clear hb0 hbr
  unfold drV
  cases hs : small d0 with
  | false =>
    go_enter Try.func8, Try.ntmps8
    go_upto_region 1 with (fail)
    obtain ⟨g0, hg0⟩ : ∃ n, n = w.heap.size := ⟨_, rfl⟩
    rw [← hg0] at HRW ⊢
    have HG0 : Hid (g0 = w.heap.size) := hg0
    generalize w.alloc (.cells #[.int .u8 (d0.form : Int), .int .u8 (d0.len : Int), .int .u8 (d0.speed : Int), .int .u16 (d0.mute : Int), .int .u16 (d0.wait : Int), .int .u8 (d0.cancel : Int), .int .u8 (d0.stay : Int), .int .u8 (d0.join : Int), .slice Ar kr cr] 25) = W0 at *
    clear hg0
    go_wp2_with fail
    refine (joins_any _).mono ?_; rintro e wA ⟨rfl, hbA⟩
    have HA := Lib.hid (HB0.out.trans (hbA.mono HB0.out.size))
    have HRA := Lib.hid (Below.row hbA HRW.out HRW.out.lt)
    have HBA := Lib.hid (HBR.out.up hbA)
    clear hbA HB0 HRW HBR
    have f0 := HRA.out.cell 0
    have f1 := HRA.out.cell 1
    have f2 := HRA.out.cell 2
    have f3 := HRA.out.cell 3
    have f4 := HRA.out.cell 4
    have f5 := HRA.out.cell 5
    have f6 := HRA.out.cell 6
    have f7 := HRA.out.cell 7
    have f8 := HRA.out.cell 8
    simp only [List.getElem?_toArray, List.getElem?_cons_zero, List.getElem?_cons_succ] at f0 f1 f2 f3 f4 f5 f6 f7 f8
    go_wp2_with fail
    refine (small_any wA d0 (.slice Ar kr cr) HBA.out HL.out.1 HL.out.2).mono ?_; rintro e wB ⟨rfl, hbB⟩
    clear f0 f1 f2 f3 f4 f5 f6 f7 f8
    rw [hs]
    have HB := Lib.hid (HA.out.trans (hbB.mono HA.out.size))
    have HRB := Lib.hid (Below.row hbB HRA.out HRA.out.lt)
    have HBB := Lib.hid (HBA.out.up hbB)
    clear hbB HA HRA HBA
    go_wp2_with fail
    refine (joins_any _).mono ?_; rintro e wZ ⟨rfl, hbZ⟩
    have HZ := Lib.hid (HB.out.trans (hbZ.mono HB.out.size))
    clear hbZ
    go_wp2_with fail
    go_ret
    exact ⟨rfl, by rw [← HG0.out] at HZ ⊢; exact HZ.out⟩
  | true =>
    have HS := Lib.hid hs
    go_enter Try.func8, Try.ntmps8
    go_upto_region 1 with (fail)
    obtain ⟨g0, hg0⟩ : ∃ n, n = w.heap.size := ⟨_, rfl⟩
    rw [← hg0] at HRW ⊢
    have HG0 : Hid (g0 = w.heap.size) := hg0
    generalize w.alloc (.cells #[.int .u8 (d0.form : Int), .int .u8 (d0.len : Int), .int .u8 (d0.speed : Int), .int .u16 (d0.mute : Int), .int .u16 (d0.wait : Int), .int .u8 (d0.cancel : Int), .int .u8 (d0.stay : Int), .int .u8 (d0.join : Int), .slice Ar kr cr] 25) = W0 at *
    clear hg0
    go_wp2_with fail
    refine (joins_any _).mono ?_; rintro e wA ⟨rfl, hbA⟩
    have HA := Lib.hid (HB0.out.trans (hbA.mono HB0.out.size))
    have HRA := Lib.hid (Below.row hbA HRW.out HRW.out.lt)
    have HBA := Lib.hid (HBR.out.up hbA)
    clear hbA HB0 HRW HBR
    have f0 := HRA.out.cell 0
    have f1 := HRA.out.cell 1
    have f2 := HRA.out.cell 2
    have f3 := HRA.out.cell 3
    have f4 := HRA.out.cell 4
    have f5 := HRA.out.cell 5
    have f6 := HRA.out.cell 6
    have f7 := HRA.out.cell 7
    have f8 := HRA.out.cell 8
    simp only [List.getElem?_toArray, List.getElem?_cons_zero, List.getElem?_cons_succ] at f0 f1 f2 f3 f4 f5 f6 f7 f8
    go_wp2_with fail
    refine (small_any wA d0 (.slice Ar kr cr) HBA.out HL.out.1 HL.out.2).mono ?_; rintro e wB ⟨rfl, hbB⟩
    clear f0 f1 f2 f3 f4 f5 f6 f7 f8
    rw [hs]
    have HB := Lib.hid (HA.out.trans (hbB.mono HA.out.size))
    have HRB := Lib.hid (Below.row hbB HRA.out HRA.out.lt)
    have HBB := Lib.hid (HBA.out.up hbB)
    clear hbB HA HRA HBA
    have f0 := HRB.out.cell 0
    have f1 := HRB.out.cell 1
    have f2 := HRB.out.cell 2
    have f3 := HRB.out.cell 3
    have f4 := HRB.out.cell 4
    have f5 := HRB.out.cell 5
    have f6 := HRB.out.cell 6
    have f7 := HRB.out.cell 7
    have f8 := HRB.out.cell 8
    simp only [List.getElem?_toArray, List.getElem?_cons_zero, List.getElem?_cons_succ] at f0 f1 f2 f3 f4 f5 f6 f7 f8
    go_wp2_with fail
    refine (full_any wB d0 (.slice Ar kr cr) HDK.out HBB.out hs).mono ?_; rintro e wC ⟨vL, rfl, hvL, hbL⟩
    clear f0 f1 f2 f3 f4 f5 f6 f7 f8
    have HC := Lib.hid (HB.out.trans (hbL.mono HB.out.size))
    clear hbL HB HRB HBB
    have HFT : Hid (Fits (fullL d0)) := fullL_fits d0
    have HBS : Hid (∀ (i : Nat) (_ : i < (fullL d0).parts.length) (b : Int) (_ : b ∈ besideL (fullL d0) (i : Int)), b ≠ (i : Int) ∧ (besideL (fullL d0) b).contains (i : Int) = true) := beside_back d0
    have HPA : Hid (∀ (n : Nat) (_ : n < (fullL d0).secs.length), ∃ i : Nat, ∃ hi : i < (fullL d0).parts.length, partL (fullL d0).parts (n : Int) = (i : Int) ∧ ((fullL d0).parts[i]).contains (n : Int) = true) := part_all d0
    have HEA : Hid (endsSum (fullL d0).secs (fullL d0).nodes.length = 2 * (fullL d0).secs.length) := ends_all d0
    have HSL : Hid ((fullL d0).secs.length ≤ 8 ∧ (fullL d0).nodes.length ≤ 9 ∧ (fullL d0).parts.length ≤ 8) := by
      have h1 := (makeEnds_len d0).2
      refine ⟨?_, makeNodes_len d0, ?_⟩
      · show (makeSecs d0 (makeEnds d0) (makeEnds d0).length).length ≤ 8; rw [makeSecs_len]; exact h1
      · exact Nat.le_trans (makeParts_le d0 (makeEnds d0).length).1 h1
    generalize fullL d0 = L at *
    have HVL := Lib.hid hvL
    obtain ⟨A0, k0, c0, A1, k1, c1, A2, k2, c2, A3, k3, c3, A4, k4, c4, t0, t1, t2, t3, t4, hv, hk0, hk1, hk2, hk3⟩ := hvL.lens
    subst hv
    have HK : Hid (L.nodes.length = k0 ∧ L.secs.length = k1 ∧ L.parts.length = k2 ∧ L.points.length = k3) := ⟨hk0, hk1, hk2, hk3⟩
    clear hvL hk0 hk1 hk2 hk3
    have hb2 := (Below.refl wC.heap.size wC).alloc (Nat.le_refl _) (.cells #[.slice A0 k0 c0, .slice A1 k1 c1, .slice A2 k2 c2, .slice A3 k3 c3, .slice A4 k4 c4, .int .i64 t0, .int .i64 t1, .int .i64 t2, .int .i64 t3, .int .i64 t4] 35)
    have HD := Lib.hid (HC.out.trans (hb2.mono HC.out.size))
    have HV2 := Lib.hid (HVL.out.up hb2)
    have HR2 := Lib.hid (Row.new wC 35 #[.slice A0 k0 c0, .slice A1 k1 c1, .slice A2 k2 c2, .slice A3 k3 c3, .slice A4 k4 c4, .int .i64 t0, .int .i64 t1, .int .i64 t2, .int .i64 t3, .int .i64 t4])
    clear hb2 HC HVL
    go_upto_region 4 with (fail)
    obtain ⟨nL, hnL⟩ : ∃ n, n = wC.heap.size := ⟨_, rfl⟩
    rw [← hnL] at HR2 ⊢
    clear hnL
    generalize wC.alloc (.cells #[.slice A0 k0 c0, .slice A1 k1 c1, .slice A2 k2 c2, .slice A3 k3 c3, .slice A4 k4 c4, .int .i64 t0, .int .i64 t1, .int .i64 t2, .int .i64 t3, .int .i64 t4] 35) = wD at *
    have p0 := HR2.out.cell 0
    have p1 := HR2.out.cell 1
    have p2 := HR2.out.cell 2
    have p3 := HR2.out.cell 3
    have p4 := HR2.out.cell 4
    have p5 := HR2.out.cell 5
    have p6 := HR2.out.cell 6
    have p7 := HR2.out.cell 7
    have p8 := HR2.out.cell 8
    have p9 := HR2.out.cell 9
    simp only [List.getElem?_toArray, List.getElem?_cons_zero, List.getElem?_cons_succ] at p0 p1 p2 p3 p4 p5 p6 p7 p8 p9
    go_wp2_with fail
    refine (new_any wD _ L HV2.out HFT.out).mono ?_; rintro e wE ⟨vg, rfl, hg, hbE⟩
    clear p0 p1 p2 p3 p4 p5 p6 p7 p8 p9
    have HST : Hid (GSt w g0 nL wE.heap.size #[.slice A0 k0 c0, .slice A1 k1 c1, .slice A2 k2 c2, .slice A3 k3 c3, .slice A4 k4 c4, .int .i64 t0, .int .i64 t1, .int .i64 t2, .int .i64 t3, .int .i64 t4] vg L wE) := by
      have hDs := HD.out.size; have hEs := hbE.size; have hgl := HG0.out; have hnl := HR2.out.lt
      refine ⟨by rw [hgl]; exact HD.out.trans (hbE.mono HD.out.size), Below.row hbE HR2.out HR2.out.lt, hg, Nat.le_refl _, by omega, by omega⟩
    have HVE := Lib.hid (HV2.out.up hbE)
    obtain ⟨DG, hDG⟩ : ∃ n, n = wE.heap.size := ⟨_, rfl⟩
    rw [← hDG] at HST HVE
    clear hg hbE HD HV2 HR2 hDG
    have HGV : Hid (GSv w g0 nL DG #[.slice A0 k0 c0, .slice A1 k1 c1, .slice A2 k2 c2, .slice A3 k3 c3, .slice A4 k4 c4, .int .i64 t0, .int .i64 t1, .int .i64 t2, .int .i64 t3, .int .i64 t4] vg L wE) := ⟨HST.out, HVE.out⟩
    clear HST HVE
    go_wp2_with fail
    have hk9 : k0 ≤ 9 ∧ k1 ≤ 8 ∧ k2 ≤ 8 := by have h1 := HSL.out; have h2 := HK.out; omega
    go_loopw [5, 6] (fun t k wr => ∃ (i E : Nat), i ≤ k0 ∧ E ≤ 16 * i ∧ k = .int .i64 i ∧ t = .int .i64 (E : Int) ∧ Hid (E = endsSum L.secs i) ∧ Hid (GSv w g0 nL DG #[.slice A0 k0 c0, .slice A1 k1 c1, .slice A2 k2 c2, .slice A3 k3 c3, .slice A4 k4 c4, .int .i64 t0, .int .i64 t1, .int .i64 t2, .int .i64 t3, .int .i64 t4] vg L wr)) (fun _ k _ => k0 - (intOf k).toNat)
    case atStart => exact ⟨0, 0, Nat.zero_le _, Nat.zero_le _, rfl, rfl, rfl, HGV⟩
    case round =>
      obtain ⟨i, E, hi1, hE1, rfl, rfl, HE0, HG1⟩ := hrel
      have f0 := HG1.out.1.row.cell 0
      simp only [List.getElem?_toArray, List.getElem?_cons_zero] at f0
      by_cases hlt : i < k0
      · have hel : (endsL L.secs (i : Int)).length ≤ 16 := by have h1 := endsTo_le L.secs (i : Int) L.secs.length; have h2 := HK.out.2.1; show (endsTo L.secs (i : Int) L.secs.length).length ≤ 16; omega
        have HE1 : Hid (E + (endsL L.secs (i : Int)).length = endsSum L.secs (i + 1)) := by show _ = _; rw [HE0.out]; rfl
        obtain ⟨wS, hwS⟩ : ∃ x, x = wr := ⟨_, rfl⟩
        subst hwS
        go_wp2_with fail
        refine (ends_any wS DG _ L (i : Int) HG1.out.1.gr HG1.out.1.sz HFT.out).mono ?_; rintro e w1 ⟨v1, rfl, ho1, hb1⟩
        obtain ⟨A9, c9, hv9⟩ := own_slice ho1
        subst hv9
        have HG2 := Lib.hid (HG1.out.call hb1)
        clear ho1 hb1 HG1 f0
        generalize (endsL L.secs (i : Int)).length = el at *
        go_wp2_with fail
        go_roundw
        case rel => exact ⟨i + 1, E + el, by omega, by omega, by go_num, by go_num, HE1, HG2⟩
        case measure => simp [intOf]; omega
      · have HIE : Hid (i = k0) := by show _ = _; omega
        rw [HIE.out] at HE0
        obtain ⟨wS, hwS⟩ : ∃ x, x = wr := ⟨_, rfl⟩
        subst hwS
        go_wp2_with fail
        clear f0
        go_loopw [7] (fun k wr => ∃ i : Nat, i ≤ k2 ∧ k = .int .i64 i ∧ Hid (GSv w g0 nL DG #[.slice A0 k0 c0, .slice A1 k1 c1, .slice A2 k2 c2, .slice A3 k3 c3, .slice A4 k4 c4, .int .i64 t0, .int .i64 t1, .int .i64 t2, .int .i64 t3, .int .i64 t4] vg L wr)) (fun k _ => k2 - (intOf k).toNat)
        case atStart => exact ⟨0, Nat.zero_le _, rfl, HG1⟩
        case round =>
          obtain ⟨i, hi2, rfl, HG2⟩ := hrel
          have f2 := HG2.out.1.row.cell 2
          simp only [List.getElem?_toArray, List.getElem?_cons_zero, List.getElem?_cons_succ] at f2
          by_cases hlt2 : i < k2
          · have HBI : Hid (∀ b ∈ besideL L (i : Int), b ≠ (i : Int) ∧ (besideL L b).contains (i : Int) = true) := fun b hb => HBS.out i (by have := HK.out.2.2.1; omega) b hb
            obtain ⟨wI, hwI⟩ : ∃ x, x = wr := ⟨_, rfl⟩
            subst hwI
            go_wp2_with fail
            refine (beside_any wI DG _ L (i : Int) HG2.out.1.gr HG2.out.1.sz HFT.out).mono ?_; rintro e w2 ⟨v2, rfl, ho2, hb2⟩
            obtain ⟨Ab, cb, hv2⟩ := own_slice ho2
            subst hv2
            have HB3 : Hid (GSv w g0 nL DG #[.slice A0 k0 c0, .slice A1 k1 c1, .slice A2 k2 c2, .slice A3 k3 c3, .slice A4 k4 c4, .int .i64 t0, .int .i64 t1, .int .i64 t2, .int .i64 t3, .int .i64 t4] vg L w2 ∧ w2.ownsRow 0 3 1 (.slice Ab (besideL L (i : Int)).length cb) (besideL L (i : Int)).length (ivals (besideL L (i : Int)))) := ⟨HG2.out.call hb2, own_base ho2 (Nat.zero_le _)⟩
            have hbl := besideL_le L HFT.out (i : Int)
            clear ho2 hb2 HG2 f2
            generalize besideL L (i : Int) = bs at *
            go_wp2_with fail
            go_loopw [9] (fun k wr => ∃ j : Nat, j ≤ bs.length ∧ k = .int .i64 j ∧ Hid (GSv w g0 nL DG #[.slice A0 k0 c0, .slice A1 k1 c1, .slice A2 k2 c2, .slice A3 k3 c3, .slice A4 k4 c4, .int .i64 t0, .int .i64 t1, .int .i64 t2, .int .i64 t3, .int .i64 t4] vg L wr ∧ wr.ownsRow 0 3 1 (.slice Ab bs.length cb) bs.length (ivals bs))) (fun k _ => bs.length - (intOf k).toNat)
            case atStart => exact ⟨0, Nat.zero_le _, rfl, HB3⟩
            case round =>
              obtain ⟨j, hj, rfl, HB4⟩ := hrel
              by_cases hlt3 : j < bs.length
              · have HBB := Lib.hid (HBI.out bs[j] (List.getElem_mem _))
                obtain ⟨bb, oo, hA, -, q0⟩ := (Rd.of_own HB4.out.2).at (i := j) (u := .int .i64 bs[j]) (by simp [ivals, hlt3])
                subst hA
                generalize bs[j] = y at *
                have hy1 : ¬ y = (i : Int) := HBB.out.1
                have HYC : Hid ((besideL L y).contains (i : Int) = true) := HBB.out.2
                have hyl := besideL_le L HFT.out y
                clear HBB
                obtain ⟨wJ, hwJ⟩ : ∃ x, x = wr := ⟨_, rfl⟩
                subst hwJ
                go_wp2_with fail
                refine (beside_any wJ DG _ L y HB4.out.1.1.gr HB4.out.1.1.sz HFT.out).mono ?_; rintro e w5 ⟨v5, rfl, ho5, hb5⟩
                have HB5 : Hid (GSv w g0 nL DG #[.slice A0 k0 c0, .slice A1 k1 c1, .slice A2 k2 c2, .slice A3 k3 c3, .slice A4 k4 c4, .int .i64 t0, .int .i64 t1, .int .i64 t2, .int .i64 t3, .int .i64 t4] vg L w5 ∧ w5.ownsRow 0 3 1 (.slice (some ⟨bb, oo, none⟩) bs.length cb) bs.length (ivals bs)) := ⟨HB4.out.1.call hb5, own_below HB4.out.2 hb5⟩
                have HO5 := Lib.hid (Rd.of_own ho5)
                clear ho5 hb5 HB4 q0
                go_wp2_with fail
                refine (refHas_any w5 w5.heap.size v5 (besideL L y) (i : Int) HO5.out (by omega)).mono ?_; rintro e w' ⟨rfl, rfl⟩
                rw [HYC.out]
                go_wp2_with fail
                go_roundw
                case rel => exact ⟨j + 1, by omega, by go_num, HB5⟩
                case measure => simp [intOf]; omega
              · have HB5 := Lib.hid HB4.out.1
                clear HB4
                go_wp2_with fail
                go_roundw
                case rel => exact ⟨i + 1, by omega, by go_num, HB5⟩
                case measure => simp [intOf]; omega
          · obtain ⟨wI, hwI⟩ : ∃ x, x = wr := ⟨_, rfl⟩
            subst hwI
            go_wp2_with fail
            clear f2
            go_loopw [10] (fun k wr => ∃ s : Nat, s ≤ k1 ∧ k = .int .i64 s ∧ Hid (GSv w g0 nL DG #[.slice A0 k0 c0, .slice A1 k1 c1, .slice A2 k2 c2, .slice A3 k3 c3, .slice A4 k4 c4, .int .i64 t0, .int .i64 t1, .int .i64 t2, .int .i64 t3, .int .i64 t4] vg L wr)) (fun k _ => k1 - (intOf k).toNat)
            case atStart => exact ⟨0, Nat.zero_le _, rfl, HG2⟩
            case round =>
              obtain ⟨s, hs4, rfl, HG4⟩ := hrel
              have f1 := HG4.out.1.row.cell 1
              simp only [List.getElem?_toArray, List.getElem?_cons_zero, List.getElem?_cons_succ] at f1
              by_cases hlt4 : s < k1
              · obtain ⟨i, hi, hpi, hpc⟩ := HPA.out s (by have := HK.out.2.1; omega)
                obtain ⟨wS, hwS⟩ : ∃ x, x = wr := ⟨_, rfl⟩
                subst hwS
                go_wp2_with fail
                refine (part_any wS DG _ L (s : Int) HG4.out.1.gr HG4.out.1.sz HFT.out).mono ?_; rintro e w3 ⟨rfl, hb3⟩
                rw [hpi]
                have HG5 := Lib.hid (HG4.out.call hb3)
                have hik : i < k2 := by have := HK.out.2.2.1; omega
                clear hb3 HG4 hpi f1
                have f1 := HG5.out.1.row.cell 1; have f2 := HG5.out.1.row.cell 2
                simp only [List.getElem?_toArray, List.getElem?_cons_zero, List.getElem?_cons_succ] at f1 f2
                have hsl : s < L.secs.length := by have := HK.out.2.1; omega
                obtain ⟨b1, o1, hA1, q1⟩ := HG5.out.2.sec_at s hsl
                obtain ⟨b2, o2, u, hA2, q2, hru⟩ := HG5.out.2.part_at i hi
                have HHAS : Hid (∀ n, Calls Try.prog 15 #[u, .int .i64 (s : Int)] (w3.drewN n) fun e w' => e = .returned (.bool true) ∧ w' = w3.drewN n) := fun n => by
                  refine (refHas_any (w3.drewN n) DG u L.parts[i] (s : Int) (hru.mono (Nat.le_refl _) (fun _ _ => rfl)) (by have := HFT.out.r L.parts[i] (List.getElem_mem _); omega)).mono ?_
                  rintro e w' ⟨rfl, rfl⟩
                  rw [hpc]
                  exact ⟨rfl, rfl⟩
                have hll := lenL_at L.secs s hsl
                have HLEN : Hid (∀ n, Calls Try.prog 23 #[vg, .int .i64 (s : Int)] (w3.drewN n) fun e w' => e = .returned (.int .i64 L.secs[s].1) ∧ w' = w3.drewN n) := fun n => by
                  refine (len_any (w3.drewN n) DG vg L (s : Int) (HG5.out.drewN n).1.gr HFT.out).mono ?_
                  rintro e w' ⟨rfl, rfl⟩
                  rw [hll]
                  exact ⟨rfl, rfl⟩
                clear hru hpc hll
                subst hA1 hA2
                generalize L.secs[s] = sc at *
                obtain ⟨y0, y1, y2⟩ := sc
                simp only at q1 HLEN
                have hg1 : ¬ (i : Int) < 0 := by omega
                have hg2 : ¬ (k2 : Int) ≤ (i : Int) := by omega
                have hg3 : ¬ k2 ≤ i := by omega
                have hd1 : decide ((i : Int) < 0) = false := decide_eq_false hg1
                have hd2 : decide ((k2 : Int) ≤ (i : Int)) = false := decide_eq_false hg2
                have hd3 : decide (k2 ≤ i) = false := decide_eq_false hg3
                clear hi hsl
                go_upto_region 23 with (fail)
                go_quiet (first | (go_at_call 15; exact Calls.quiet_of_same (HHAS.out _)) | (go_at_call 23; exact Calls.quiet_of_same (HLEN.out _)))
                have HG6 : Hid (∀ n, GSv w g0 nL DG #[.slice A0 k0 c0, .slice (some ⟨b1, o1, none⟩) k1 c1, .slice (some ⟨b2, o2, none⟩) k2 c2, .slice A3 k3 c3, .slice A4 k4 c4, .int .i64 t0, .int .i64 t1, .int .i64 t2, .int .i64 t3, .int .i64 t4] vg L (w3.drewN n)) := fun n => HG5.out.drewN n
                clear HHAS HLEN q1 q2 f1 f2 HG5 hd1 hd2 hd3
                go_wp2_with fail
                go_roundw
                case rel => exact ⟨s + 1, by omega, by go_num, HG6.out _⟩
                case measure => simp [intOf]; omega
              · have hee : (E : Int) = 2 * (k1 : Int) := by have h1 := HEA.out; have h2 := HK.out.2.1; have h3 := HK.out.1; have h4 := HE0.out; rw [← h3, h1] at h4; omega
                go_wp2_with fail
                go_ret
                exact ⟨by rw [hee]; simp, by rw [← HG0.out]; exact HG4.out.1.bel⟩

theorem lifted (os : Os) (started : os.Started) (H : Type) (enc : TypeId × Value → H) :
    ReturnsInHanded {} Try.checked os 8 .any (Rows.graphEndsSpec.pre6 enc Try.prog Try.f8 Rows.graphEndsRow.domain false) (Rows.graphEndsSpec.post enc Try.prog Try.f8 false true false false) := by
  refine returnsInHanded_of_change (C := Try.checked) own started (by kernel_rfl) Try.func8
    (ChangeSpec.witness6 (enc := enc) (C := Try.checked) false ⟨#[], #[.agg #[.int .u8 0, .int .u8 0, .int .u8 0, .int .u16 0, .int .u16 0, .int .u8 0, .int .u8 0, .int .u8 0, .slice none 0 0]], []⟩ 8 (by kernel_rfl) (by kernel_rfl) (by kernel_rfl) (by kernel_rfl)) ?_
  intro W base args ds gs before hval0 hW hcnd _
  have hval : ∀ (j : Nat) t v, Try.f8.params[j]? = some t → args[j]? = some v → Value.okWide Try.prog W .any base t v := hval0
  have hW' := hW
  obtain ⟨p, q, hA0, hV, rfl, hfz, hnd⟩ := hW
  have hA : DataW.TrodAll enc Try.prog W 0 (fun _ => true) true Try.f8.params.toList args.toList ds p := hA0
  rw [Try.params8] at hA hval
  obtain ⟨v0, vs0, d0, ds0, p0, q0, hargs, rfl, rfl, h0, r0⟩ := trodAll_cons hA
  obtain ⟨rfl, rfl, rfl⟩ := trodAll_nil r0
  obtain rfl : args = #[v0] := by cases args; simp_all
  obtain ⟨rfl, rfl⟩ := trodVars_none hV
  have k0 := h0
  have lt0 : ∀ x ∈ p0, x.block < W.heap.size := by obtain ⟨m, hm⟩ := k0; exact DataW.trod_lt m _ _ _ hm
  obtain ⟨e0, vr0, hv0, w0⟩ := draft_of_trod (hval 0 25 v0 rfl rfl) h0
  subst hv0
  clear hA0 hval0
  refine (walk e0 vr0 W w0).mono fun e W' ⟨he, bel⟩ => ?_
  subst he
  exact ⟨_, rfl, _, _, _, [], _, [], hW', trodAll_mk1 (shut_bool Try.underlying4 _), (trodAll_cons_mk (Below.trod laidOut (by kernel_rfl) (of_decide_eq_true (by kernel_rfl)) k0 bel lt0) trodAll_mk0), rfl, bel.frame _, fun h => by cases h⟩

theorem over : Rows.graphEndsRow.holds Try.pinned (OpenSpec.ofChange Rows.graphEndsSpec) :=
  OpenClaim.holds_of_wide 8 Try.f8 rfl rfl rfl rfl rfl rfl rfl ⟨rfl, rfl, rfl, rfl, rfl⟩ rfl rfl rfl rfl rfl (by kernel_rfl) Try.func8 (by kernel_rfl)
    (of_decide_eq_true (by kernel_rfl)) (by unfold Func.isWrapper; first | (rw [if_pos (by decide +kernel)]; kernel_rfl) | (rw [if_neg (by decide +kernel)]; exact ⟨rfl, rfl⟩))
    (fun os started H enc _ => lifted os started H enc)

theorem proved : Rows.GraphEndsSaid := over
#print axioms proved
end Go.Proofs.Ytpipkbdkkbcooaa.graphEnds
