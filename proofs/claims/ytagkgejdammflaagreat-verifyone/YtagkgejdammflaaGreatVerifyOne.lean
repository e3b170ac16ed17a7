/-
  PROVED: for every input the law VerifyOne returns true and leaves its arguments as they were: a layout in which something is another thing: the program and the document name the same rule first, at the same place. No condition.
-/
import Derived.Test.YtagkgejdammflaaGreatRows
import Derived.Test.YtagkgejdammflaaGreatV42
import Derived.Test.YtagkgejdammflaaGreatFull
import Derived.WalkKit
import Derived.ProofKit
import Derived.OpenShut
import Derived.ShutString
import Derived.ChangeOld
import Derived.Below
import Derived.StillTailTactics
import Derived.BigRegion
import Derived.RegionTactic
import Derived.ChangeAlike
namespace Go.Proofs.YtagkgejdammflaaGreat.verifyOne
open Go.ChangeShapes Go.WideShapes Go.ChangeAt Go.RowKit
open Go.ChangeMaps (open_string shut_string)
open Fl Go.Deep
set_option linter.unusedVariables false
set_option maxRecDepth 100000

theorem own : ownKnob Tryz.prog.godebug = none := by kernel_rfl
theorem laidOut : laidOutB Tryz.prog = true := by kernel_rfl

set_option maxHeartbeats 64000000 in
theorem walk (d0 : Dr) (vr0 : Value) (a1 : Int) (a2 : Int) (a3 : Int) (w : World) (w0 : DrOk d0 ∧ BRows w w.heap.size vr0 d0.routes ∧ d0.routes.length ≤ 9223372036854775807 ∧ ∀ r ∈ d0.routes, r.length ≤ 9223372036854775807) (w1 : (Lit.int .u8 a1).wf = true) (w2 : (Lit.int .u8 a2).wf = true) (w3 : (Lit.int .i64 a3).wf = true) :
    Calls Tryz.prog 4 #[drV d0 vr0, .int .u8 a1, .int .u8 a2, .int .i64 a3] w fun e w' => e = .returned (.bool true) ∧ Below w.heap.size w w' := by
  obtain ⟨wh, hwh, hwh2⟩ := u8_nat w1
  subst hwh
  obtain ⟨nat, hnat, hnat2⟩ := u8_nat w2
  subst hnat
  have ha3 := i64_bd w3
  clear w1 w2 w3
  obtain ⟨hd, hbr, hl, hrl⟩ := w0
  obtain ⟨Ar, kr, cr, hvr⟩ : ∃ A k c, vr0 = .slice A k c := by obtain ⟨vs, ⟨A, c, e, _⟩, _⟩ := hbr; exact ⟨A, _, c, e⟩
  subst hvr
  have HDK := Lib.hid hd
  have HL : Hid (d0.routes.length ≤ 9223372036854775807 ∧ ∀ r ∈ d0.routes, r.length ≤ 9223372036854775807) := ⟨hl, hrl⟩
  clear hd hl hrl
  have hb0 := (Below.refl w.heap.size w).alloc (Nat.le_refl _) (.cells #[.int .u8 (d0.form : Int), .int .u8 (d0.len : Int), .int .u8 (d0.speed : Int), .int .u16 (d0.mute : Int), .int .u16 (d0.wait : Int), .int .u8 (d0.cancel : Int), .int .u8 (d0.stay : Int), .int .u8 (d0.join : Int), .slice Ar kr cr] 25)
  have HB0 := Lib.hid hb0
  have HBR := Lib.hid (hbr.up hb0)
  have HRW := Lib.hid (Row.new w 25 #[.int .u8 (d0.form : Int), .int .u8 (d0.len : Int), .int .u8 (d0.speed : Int), .int .u16 (d0.mute : Int), .int .u16 (d0.wait : Int), .int .u8 (d0.cancel : Int), .int .u8 (d0.stay : Int), .int .u8 (d0.join : Int), .slice Ar kr cr])
  clear hb0 hbr
  unfold drV
  cases hs : small d0 with
  | false =>
    go_enter Tryz.func4, Tryz.ntmps4
    go_upto_region 1 with (fail)
    obtain ⟨g0, hg0⟩ : ∃ n, n = w.heap.size := ⟨_, rfl⟩
    rw [← hg0] at HRW ⊢
    have HG0 : Hid (g0 = w.heap.size) := hg0
    generalize w.alloc (.cells #[.int .u8 (d0.form : Int), .int .u8 (d0.len : Int), .int .u8 (d0.speed : Int), .int .u16 (d0.mute : Int), .int .u16 (d0.wait : Int), .int .u8 (d0.cancel : Int), .int .u8 (d0.stay : Int), .int .u8 (d0.join : Int), .slice Ar kr cr] 25) = W0 at *
    clear hg0
    go_wp2_with fail
    refine (nothing_any _).mono ?_; rintro e wA ⟨rfl, hbA⟩
    have HA := Lib.hid (HB0.out.trans (hbA.mono HB0.out.size))
    have HRA := Lib.hid (Below.row hbA HRW.out HRW.out.lt)
    have HBA := Lib.hid (HBR.out.up hbA)
    clear hbA HB0 HRW HBR
    have f0 := HRA.out.cell 0
    have f1 := HRA.out.cell 1
    have f2 := HRA.out.cell 2
    have f3 := HRA.out.cell 3
    have f4 := HRA.out.cell 4
    have f5 := HRA.out.cell 5
    have f6 := HRA.out.cell 6
    have f7 := HRA.out.cell 7
    have f8 := HRA.out.cell 8
    simp only [List.getElem?_toArray, List.getElem?_cons_zero, List.getElem?_cons_succ] at f0 f1 f2 f3 f4 f5 f6 f7 f8
    go_wp2_with fail
    refine (small_any wA d0 (.slice Ar kr cr) HBA.out HL.out.1 HL.out.2).mono ?_; rintro e wB ⟨rfl, hbB⟩
    clear f0 f1 f2 f3 f4 f5 f6 f7 f8
    rw [hs]
    have HB := Lib.hid (HA.out.trans (hbB.mono HA.out.size))
    have HRB := Lib.hid (Below.row hbB HRA.out HRA.out.lt)
    have HBB := Lib.hid (HBA.out.up hbB)
    clear hbB HA HRA HBA
    go_wp2_with fail
    refine (nothing_any _).mono ?_; rintro e wZ ⟨rfl, hbZ⟩
    have HZ := Lib.hid (HB.out.trans (hbZ.mono HB.out.size))
    clear hbZ
    go_wp2_with fail
    go_ret
    exact ⟨rfl, by rw [← HG0.out] at HZ ⊢; exact HZ.out⟩
  | true =>
    have HS := Lib.hid hs
    go_enter Tryz.func4, Tryz.ntmps4
    go_upto_region 1 with (fail)
    obtain ⟨g0, hg0⟩ : ∃ n, n = w.heap.size := ⟨_, rfl⟩
    rw [← hg0] at HRW ⊢
    have HG0 : Hid (g0 = w.heap.size) := hg0
    generalize w.alloc (.cells #[.int .u8 (d0.form : Int), .int .u8 (d0.len : Int), .int .u8 (d0.speed : Int), .int .u16 (d0.mute : Int), .int .u16 (d0.wait : Int), .int .u8 (d0.cancel : Int), .int .u8 (d0.stay : Int), .int .u8 (d0.join : Int), .slice Ar kr cr] 25) = W0 at *
    clear hg0
    go_wp2_with fail
    refine (nothing_any _).mono ?_; rintro e wA ⟨rfl, hbA⟩
    have HA := Lib.hid (HB0.out.trans (hbA.mono HB0.out.size))
    have HRA := Lib.hid (Below.row hbA HRW.out HRW.out.lt)
    have HBA := Lib.hid (HBR.out.up hbA)
    clear hbA HB0 HRW HBR
    have f0 := HRA.out.cell 0
    have f1 := HRA.out.cell 1
    have f2 := HRA.out.cell 2
    have f3 := HRA.out.cell 3
    have f4 := HRA.out.cell 4
    have f5 := HRA.out.cell 5
    have f6 := HRA.out.cell 6
    have f7 := HRA.out.cell 7
    have f8 := HRA.out.cell 8
    simp only [List.getElem?_toArray, List.getElem?_cons_zero, List.getElem?_cons_succ] at f0 f1 f2 f3 f4 f5 f6 f7 f8
    go_wp2_with fail
    refine (small_any wA d0 (.slice Ar kr cr) HBA.out HL.out.1 HL.out.2).mono ?_; rintro e wB ⟨rfl, hbB⟩
    clear f0 f1 f2 f3 f4 f5 f6 f7 f8
    rw [hs]
    have HB := Lib.hid (HA.out.trans (hbB.mono HA.out.size))
    have HRB := Lib.hid (Below.row hbB HRA.out HRA.out.lt)
    have HBB := Lib.hid (HBA.out.up hbB)
    clear hbB HA HRA HBA
    have f0 := HRB.out.cell 0
    have f1 := HRB.out.cell 1
    have f2 := HRB.out.cell 2
    have f3 := HRB.out.cell 3
    have f4 := HRB.out.cell 4
    have f5 := HRB.out.cell 5
    have f6 := HRB.out.cell 6
    have f7 := HRB.out.cell 7
    have f8 := HRB.out.cell 8
    simp only [List.getElem?_toArray, List.getElem?_cons_zero, List.getElem?_cons_succ] at f0 f1 f2 f3 f4 f5 f6 f7 f8
    go_wp2_with fail
    refine (full_any wB d0 (.slice Ar kr cr) HDK.out HBB.out hs).mono ?_; rintro e wC ⟨vL, rfl, hvL, hbL⟩
    clear f0 f1 f2 f3 f4 f5 f6 f7 f8
    have HC := Lib.hid (HB.out.trans (hbL.mono HB.out.size))
    clear hbL HB HRB HBB
    have HVF : Hid (Vf2 (fullL d0)) := ⟨full_vf d0, fun r hr => by have := (routes_full d0 HDK.out r hr).1; omega⟩
    have HFW : Hid (Few (fullL d0)) := full_few d0 HDK.out
    generalize fullL d0 = L at *
    obtain ⟨vN, vS, vP, vQ, vR, ps, rfl, hd⟩ := hvL
    obtain ⟨⟨A0, c0, rfl⟩, ⟨A1, c1, rfl⟩, ⟨A2, c2, rfl⟩, ⟨A3, c3, rfl⟩, ⟨A4, c4, rfl⟩⟩ := hd.slices
    obtain ⟨n0, hn0⟩ : ∃ n, L.nodes.length = n := ⟨_, rfl⟩
    obtain ⟨n1, hn1⟩ : ∃ n, L.secs.length = n := ⟨_, rfl⟩
    obtain ⟨n2, hn2⟩ : ∃ n, L.parts.length = n := ⟨_, rfl⟩
    obtain ⟨n3, hn3⟩ : ∃ n, L.points.length = n := ⟨_, rfl⟩
    obtain ⟨n4, hn4⟩ : ∃ n, L.routes.length = n := ⟨_, rfl⟩
    have HN : Hid (L.nodes.length = n0 ∧ L.secs.length = n1 ∧ L.parts.length = n2 ∧ L.points.length = n3 ∧ L.routes.length = n4) := ⟨hn0, hn1, hn2, hn3, hn4⟩
    rw [hn0, hn1, hn2, hn3, hn4] at hd ⊢
    clear hn0 hn1 hn2 hn3 hn4
    have hb2 := (Below.refl wC.heap.size wC).alloc (Nat.le_refl _) (.cells #[.slice A0 n0 c0, .slice A1 n1 c1, .slice A2 n2 c2, .slice A3 n3 c3, .slice A4 n4 c4, .int .i64 L.speed, .int .i64 L.mute, .int .i64 L.wait, .int .i64 L.cancel, .int .i64 L.stay] 33)
    have HE0 : Hid (ESt w wC.heap.size (.slice A0 n0 c0) (.slice A1 n1 c1) (.slice A2 n2 c2) (.slice A3 n3 c3) (.slice A4 n4 c4) L (wC.alloc (.cells #[.slice A0 n0 c0, .slice A1 n1 c1, .slice A2 n2 c2, .slice A3 n3 c3, .slice A4 n4 c4, .int .i64 L.speed, .int .i64 L.mute, .int .i64 L.wait, .int .i64 L.cancel, .int .i64 L.stay] 33))) := ESt.of (D := wC.heap.size) (HC.out.trans (hb2.mono HC.out.size)) (Row.new wC 33 #[.slice A0 n0 c0, .slice A1 n1 c1, .slice A2 n2 c2, .slice A3 n3 c3, .slice A4 n4 c4, .int .i64 L.speed, .int .i64 L.mute, .int .i64 L.wait, .int .i64 L.cancel, .int .i64 L.stay]) (hd.mono (Nat.le_refl _) (fun _ hp => hb2.cell hp)) (Nat.le_refl _) HC.out.size
    have HDT0 : Hid (LayData (wC.alloc (.cells #[.slice A0 n0 c0, .slice A1 n1 c1, .slice A2 n2 c2, .slice A3 n3 c3, .slice A4 n4 c4, .int .i64 L.speed, .int .i64 L.mute, .int .i64 L.wait, .int .i64 L.cancel, .int .i64 L.stay] 33)) wC.heap.size (.slice A0 n0 c0) (.slice A1 n1 c1) (.slice A2 n2 c2) (.slice A3 n3 c3) (.slice A4 n4 c4) ps L) := hd.mono (Nat.le_refl _) (fun _ hp => hb2.cell hp)
    clear hb2 HC hd
    go_upto_region 4 with (fail)
    obtain ⟨nL, hnL⟩ : ∃ n, n = wC.heap.size := ⟨_, rfl⟩
    have HE : Hid (ESt w nL (.slice A0 n0 c0) (.slice A1 n1 c1) (.slice A2 n2 c2) (.slice A3 n3 c3) (.slice A4 n4 c4) L (wC.alloc (.cells #[.slice A0 n0 c0, .slice A1 n1 c1, .slice A2 n2 c2, .slice A3 n3 c3, .slice A4 n4 c4, .int .i64 L.speed, .int .i64 L.mute, .int .i64 L.wait, .int .i64 L.cancel, .int .i64 L.stay] 33))) := by rw [hnL]; exact HE0.out
    have HDT : Hid (LayData (wC.alloc (.cells #[.slice A0 n0 c0, .slice A1 n1 c1, .slice A2 n2 c2, .slice A3 n3 c3, .slice A4 n4 c4, .int .i64 L.speed, .int .i64 L.mute, .int .i64 L.wait, .int .i64 L.cancel, .int .i64 L.stay] 33)) nL (.slice A0 n0 c0) (.slice A1 n1 c1) (.slice A2 n2 c2) (.slice A3 n3 c3) (.slice A4 n4 c4) ps L) := by rw [hnL]; exact HDT0.out
    rw [← hnL]
    clear hnL HE0 HDT0
    generalize wC.alloc (.cells #[.slice A0 n0 c0, .slice A1 n1 c1, .slice A2 n2 c2, .slice A3 n3 c3, .slice A4 n4 c4, .int .i64 L.speed, .int .i64 L.mute, .int .i64 L.wait, .int .i64 L.cancel, .int .i64 L.stay] 33) = wD at *
    obtain ⟨i36, hi36, hz0, hz1, hz2⟩ := info_parts Tryz.info36q
    obtain ⟨i39, hi39, hx0, hx1, hx2⟩ := info_parts Tryz.info39q
    obtain ⟨i42, hi42, hv0, hv1, hv2⟩ := info_parts Tryz.info42q
    obtain ⟨i41, hi41, hq0, hq1, hq2⟩ := info_parts Tryz.info41q
    obtain ⟨i3, hi3, hy0, hy1, hy2⟩ := info_parts Tryz.info3q
    have hbd : (2 ≤ n0 ∧ n0 ≤ 40) ∧ (1 ≤ n1 ∧ n1 ≤ 32) ∧ (1 ≤ n2 ∧ n2 ≤ 16) ∧ n3 ≤ 8 ∧ n4 ≤ 16 := by
      have h1 := HN.out; have h2 := HFW.out.n; have h3 := HFW.out.s; have h4 := HFW.out.p; have h5 := HFW.out.q; have h6 := HFW.out.r
      omega
    obtain ⟨vs, hvs⟩ := HDT.out.p.d
    obtain ⟨us, hus⟩ := HDT.out.r.d
    have HVS : Hid (Rd wD nL (.slice A2 n2 c2) vs ∧ RowsD wD nL vs L.parts ∧ (∀ u ∈ vs, u.oneCell' = true)) := hvs
    have HUS : Hid (Rd wD nL (.slice A4 n4 c4) us ∧ RowsD wD nL us L.routes ∧ (∀ u ∈ us, u.oneCell' = true)) := hus
    clear hvs hus
    have HC : Hid (CpSt wD nL (layC (.slice A0 n0 c0) (.slice A1 n1 c1) (.slice A2 n2 c2) (.slice A3 n3 c3) (.slice A4 n4 c4) L) wD) := ⟨Below.refl _ _, HE.out.row⟩
    have HLD := Lib.hid (HDT.out.low HC.out.bel)
    have HSR : Hid (Sr2 wD A0 n0 1 (nvals ps)) := (Sr.rd HLD.out.n (nvals_one ps)).two
    have p0 := HC.out.row.cell 0
    have p1 := HC.out.row.cell 1
    have p2 := HC.out.row.cell 2
    have p3 := HC.out.row.cell 3
    have p4 := HC.out.row.cell 4
    have p5 := HC.out.row.cell 5
    have p6 := HC.out.row.cell 6
    have p7 := HC.out.row.cell 7
    have p8 := HC.out.row.cell 8
    have p9 := HC.out.row.cell 9
    simp only [layC, List.getElem?_toArray, List.getElem?_cons_zero, List.getElem?_cons_succ] at p0 p1 p2 p3 p4 p5 p6 p7 p8 p9
    go_wp2_with (at_builtin; refine wpList_app_new2 rfl (.const (.slice none 0 0)) (.tmp 25) 28 rfl 36 i36 (.complex .f64 0 0) 1 16 Tryz.underlying28 hi36 hz0 hz1 hz2 rfl (by decide) rfl A0 n0 c0 (nvals ps) rfl HSR.out (by omega) (by decide) ?_)
    intro v7 w7 hown7 hb7
    obtain ⟨B0, e0, hv7⟩ := own_slice hown7
    subst hv7
    clear p0 p1 p2 p3 p4 p5 p6 p7 p8 p9
    have hrow := Below.row hb7 HC.out.row HC.out.row.lt
    have q := hrow.cell 0
    simp only [layC, List.getElem?_toArray, List.getElem?_cons_zero] at q
    have fz := hrow.frozen 0
    clear HSR HLD
    go_upto_region 5 with (fail)
    clear q fz hrow
    have HC2 : Hid (CpSt wD nL (layC (.slice B0 n0 e0) (.slice A1 n1 c1) (.slice A2 n2 c2) (.slice A3 n3 c3) (.slice A4 n4 c4) L) (w7.setCell ⟨nL, 0, none⟩ (.slice B0 n0 e0))) := HC.out.cp hb7 0 _ rfl
    have HQ0 : Hid ((w7.setCell ⟨nL, 0, none⟩ (.slice B0 n0 e0)).ownsRow (nL + 1) 36 1 (.slice B0 n0 e0) n0 (nvals ps)) := ownsRow_setCell_below (own_base hown7 HC.out.row.lt) (a := ⟨nL, 0, none⟩) (Nat.lt_succ_self _) _
    clear HC hown7 hb7
    generalize w7.setCell ⟨nL, 0, none⟩ (.slice B0 n0 e0) = wc0 at *
    have HC : Hid (CpSt wD nL (layC (.slice B0 n0 e0) (.slice A1 n1 c1) (.slice A2 n2 c2) (.slice A3 n3 c3) (.slice A4 n4 c4) L) wc0) := HC2.out
    have HO0 := HQ0
    clear HC2 HQ0
    have HLD := Lib.hid (HDT.out.low HC.out.bel)
    have HSR : Hid (Sr2 wc0 A1 n1 3 (scells L.secs)) := Sr2.secs HLD.out.s
    have p0 := HC.out.row.cell 0
    have p1 := HC.out.row.cell 1
    have p2 := HC.out.row.cell 2
    have p3 := HC.out.row.cell 3
    have p4 := HC.out.row.cell 4
    have p5 := HC.out.row.cell 5
    have p6 := HC.out.row.cell 6
    have p7 := HC.out.row.cell 7
    have p8 := HC.out.row.cell 8
    have p9 := HC.out.row.cell 9
    simp only [layC, List.getElem?_toArray, List.getElem?_cons_zero, List.getElem?_cons_succ] at p0 p1 p2 p3 p4 p5 p6 p7 p8 p9
    go_wp2_with (at_builtin; refine wpList_app_new2 rfl (.const (.slice none 0 0)) (.tmp 29) 29 rfl 39 i39 (.agg #[.int .i64 0, .int .i64 0, .int .i64 0]) 3 24 Tryz.underlying29 hi39 hx0 hx1 hx2 rfl (by decide) rfl A1 n1 c1 (scells L.secs) rfl HSR.out (by omega) (by decide) ?_)
    intro v7 w7 hown7 hb7
    obtain ⟨B1, e1, hv7⟩ := own_slice hown7
    subst hv7
    clear p0 p1 p2 p3 p4 p5 p6 p7 p8 p9
    have hrow := Below.row hb7 HC.out.row HC.out.row.lt
    have q := hrow.cell 1
    simp only [layC, List.getElem?_toArray, List.getElem?_cons_zero, List.getElem?_cons_succ] at q
    have fz := hrow.frozen 1
    clear HSR HLD
    go_upto_region 6 with (fail)
    clear q fz hrow
    have HC2 : Hid (CpSt wD nL (layC (.slice B0 n0 e0) (.slice B1 n1 e1) (.slice A2 n2 c2) (.slice A3 n3 c3) (.slice A4 n4 c4) L) (w7.setCell ⟨nL, 1, none⟩ (.slice B1 n1 e1))) := HC.out.cp hb7 1 _ rfl
    have HQ1 : Hid ((w7.setCell ⟨nL, 1, none⟩ (.slice B1 n1 e1)).ownsRow (nL + 1) 39 3 (.slice B1 n1 e1) n1 (scells L.secs)) := ownsRow_setCell_below (own_base hown7 HC.out.row.lt) (a := ⟨nL, 1, none⟩) (Nat.lt_succ_self _) _
    have HQ0 := Lib.hid (own_cp HO0.out hb7 1 (.slice B1 n1 e1))
    clear HC hown7 hb7 HO0
    generalize w7.setCell ⟨nL, 1, none⟩ (.slice B1 n1 e1) = wc1 at *
    have HC : Hid (CpSt wD nL (layC (.slice B0 n0 e0) (.slice B1 n1 e1) (.slice A2 n2 c2) (.slice A3 n3 c3) (.slice A4 n4 c4) L) wc1) := HC2.out
    have HO0 := HQ0
    have HO1 := HQ1
    clear HC2 HQ0 HQ1
    have HLD := Lib.hid (HDT.out.low HC.out.bel)
    have HSR : Hid (Sr2 wc1 A3 n3 4 (pcells L.points)) := Sr2.pts HLD.out.q
    have p0 := HC.out.row.cell 0
    have p1 := HC.out.row.cell 1
    have p2 := HC.out.row.cell 2
    have p3 := HC.out.row.cell 3
    have p4 := HC.out.row.cell 4
    have p5 := HC.out.row.cell 5
    have p6 := HC.out.row.cell 6
    have p7 := HC.out.row.cell 7
    have p8 := HC.out.row.cell 8
    have p9 := HC.out.row.cell 9
    simp only [layC, List.getElem?_toArray, List.getElem?_cons_zero, List.getElem?_cons_succ] at p0 p1 p2 p3 p4 p5 p6 p7 p8 p9
    go_wp2_with (at_builtin; refine wpList_app_new2 rfl (.const (.slice none 0 0)) (.tmp 33) 31 rfl 41 i41 (.agg #[.int .i64 0, .int .i64 0, .int .i64 0, .int .i64 0]) 4 32 Tryz.underlying31 hi41 hq0 hq1 hq2 rfl (by decide) rfl A3 n3 c3 (pcells L.points) rfl HSR.out (by omega) (by decide) ?_)
    intro v7 w7 hown7 hb7
    obtain ⟨B3, e3, hv7⟩ := own_slice hown7
    subst hv7
    clear p0 p1 p2 p3 p4 p5 p6 p7 p8 p9
    have hrow := Below.row hb7 HC.out.row HC.out.row.lt
    have q := hrow.cell 3
    simp only [layC, List.getElem?_toArray, List.getElem?_cons_zero, List.getElem?_cons_succ] at q
    have fz := hrow.frozen 3
    clear HSR HLD
    go_upto_region 7 with (fail)
    clear q fz hrow
    have HC2 : Hid (CpSt wD nL (layC (.slice B0 n0 e0) (.slice B1 n1 e1) (.slice A2 n2 c2) (.slice B3 n3 e3) (.slice A4 n4 c4) L) (w7.setCell ⟨nL, 3, none⟩ (.slice B3 n3 e3))) := HC.out.cp hb7 3 _ rfl
    have HQ3 : Hid ((w7.setCell ⟨nL, 3, none⟩ (.slice B3 n3 e3)).ownsRow (nL + 1) 41 4 (.slice B3 n3 e3) n3 (pcells L.points)) := ownsRow_setCell_below (own_base hown7 HC.out.row.lt) (a := ⟨nL, 3, none⟩) (Nat.lt_succ_self _) _
    have HQ0 := Lib.hid (own_cp HO0.out hb7 3 (.slice B3 n3 e3))
    have HQ1 := Lib.hid (own_cp HO1.out hb7 3 (.slice B3 n3 e3))
    clear HC hown7 hb7 HO0 HO1
    generalize w7.setCell ⟨nL, 3, none⟩ (.slice B3 n3 e3) = wc2 at *
    have HC : Hid (CpSt wD nL (layC (.slice B0 n0 e0) (.slice B1 n1 e1) (.slice A2 n2 c2) (.slice B3 n3 e3) (.slice A4 n4 c4) L) wc2) := HC2.out
    have HO0 := HQ0
    have HO1 := HQ1
    have HO3 := HQ3
    clear HC2 HQ0 HQ1 HQ3
    have HLD := Lib.hid (HDT.out.low HC.out.bel)
    have HSR : Hid (Sr2 wc2 A2 n2 1 (vs)) := (Sr.rd (HVS.out.1.low fun k hk => HC.out.bel.block k hk) HVS.out.2.2).two
    have p0 := HC.out.row.cell 0
    have p1 := HC.out.row.cell 1
    have p2 := HC.out.row.cell 2
    have p3 := HC.out.row.cell 3
    have p4 := HC.out.row.cell 4
    have p5 := HC.out.row.cell 5
    have p6 := HC.out.row.cell 6
    have p7 := HC.out.row.cell 7
    have p8 := HC.out.row.cell 8
    have p9 := HC.out.row.cell 9
    simp only [layC, List.getElem?_toArray, List.getElem?_cons_zero, List.getElem?_cons_succ] at p0 p1 p2 p3 p4 p5 p6 p7 p8 p9
    go_wp2_with (at_builtin; refine wpList_app_new2 rfl (.const (.slice none 0 0)) (.tmp 37) 30 rfl 42 i42 (.slice none 0 0) 1 24 Tryz.underlying30 hi42 hv0 hv1 hv2 rfl (by decide) rfl A2 n2 c2 (vs) rfl HSR.out (by omega) (by decide) ?_)
    intro v7 w7 hown7 hb7
    obtain ⟨B2, e2, hv7⟩ := own_slice hown7
    subst hv7
    clear p0 p1 p2 p3 p4 p5 p6 p7 p8 p9
    have hrow := Below.row hb7 HC.out.row HC.out.row.lt
    have q := hrow.cell 2
    simp only [layC, List.getElem?_toArray, List.getElem?_cons_zero, List.getElem?_cons_succ] at q
    have fz := hrow.frozen 2
    clear HSR HLD
    go_upto_region 8 with (fail)
    clear q fz hrow
    have HC2 : Hid (CpSt wD nL (layC (.slice B0 n0 e0) (.slice B1 n1 e1) (.slice B2 n2 e2) (.slice B3 n3 e3) (.slice A4 n4 c4) L) (w7.setCell ⟨nL, 2, none⟩ (.slice B2 n2 e2))) := HC.out.cp hb7 2 _ rfl
    have HQ2 : Hid ((w7.setCell ⟨nL, 2, none⟩ (.slice B2 n2 e2)).ownsRow (nL + 1) 42 1 (.slice B2 n2 e2) n2 (vs)) := ownsRow_setCell_below (own_base hown7 HC.out.row.lt) (a := ⟨nL, 2, none⟩) (Nat.lt_succ_self _) _
    have HQ0 := Lib.hid (own_cp HO0.out hb7 2 (.slice B2 n2 e2))
    have HQ1 := Lib.hid (own_cp HO1.out hb7 2 (.slice B2 n2 e2))
    have HQ3 := Lib.hid (own_cp HO3.out hb7 2 (.slice B2 n2 e2))
    clear HC hown7 hb7 HO0 HO1 HO3
    generalize w7.setCell ⟨nL, 2, none⟩ (.slice B2 n2 e2) = wc3 at *
    have HC : Hid (CpSt wD nL (layC (.slice B0 n0 e0) (.slice B1 n1 e1) (.slice B2 n2 e2) (.slice B3 n3 e3) (.slice A4 n4 c4) L) wc3) := HC2.out
    have HO0 := HQ0
    have HO1 := HQ1
    have HO3 := HQ3
    have HO2 := HQ2
    clear HC2 HQ0 HQ1 HQ3 HQ2
    have HLD := Lib.hid (HDT.out.low HC.out.bel)
    have HSR : Hid (Sr2 wc3 A4 n4 1 (us)) := (Sr.rd (HUS.out.1.low fun k hk => HC.out.bel.block k hk) HUS.out.2.2).two
    have p0 := HC.out.row.cell 0
    have p1 := HC.out.row.cell 1
    have p2 := HC.out.row.cell 2
    have p3 := HC.out.row.cell 3
    have p4 := HC.out.row.cell 4
    have p5 := HC.out.row.cell 5
    have p6 := HC.out.row.cell 6
    have p7 := HC.out.row.cell 7
    have p8 := HC.out.row.cell 8
    have p9 := HC.out.row.cell 9
    simp only [layC, List.getElem?_toArray, List.getElem?_cons_zero, List.getElem?_cons_succ] at p0 p1 p2 p3 p4 p5 p6 p7 p8 p9
    go_wp2_with (at_builtin; refine wpList_app_new2 rfl (.const (.slice none 0 0)) (.tmp 41) 30 rfl 42 i42 (.slice none 0 0) 1 24 Tryz.underlying30 hi42 hv0 hv1 hv2 rfl (by decide) rfl A4 n4 c4 (us) rfl HSR.out (by omega) (by decide) ?_)
    intro v7 w7 hown7 hb7
    obtain ⟨B4, e4, hv7⟩ := own_slice hown7
    subst hv7
    clear p0 p1 p2 p3 p4 p5 p6 p7 p8 p9
    have hrow := Below.row hb7 HC.out.row HC.out.row.lt
    have q := hrow.cell 4
    simp only [layC, List.getElem?_toArray, List.getElem?_cons_zero, List.getElem?_cons_succ] at q
    have fz := hrow.frozen 4
    clear HSR HLD
    go_upto_region 9 with (fail)
    clear q fz hrow
    have HC2 : Hid (CpSt wD nL (layC (.slice B0 n0 e0) (.slice B1 n1 e1) (.slice B2 n2 e2) (.slice B3 n3 e3) (.slice B4 n4 e4) L) (w7.setCell ⟨nL, 4, none⟩ (.slice B4 n4 e4))) := HC.out.cp hb7 4 _ rfl
    have HAP : Hid ((Value.slice B2 n2 e2).ownBlock = none ∨ (Value.slice B2 n2 e2).ownBlock ≠ (Value.slice B4 n4 e4).ownBlock) := ap_two HO2.out hown7
    have HQ4 : Hid ((w7.setCell ⟨nL, 4, none⟩ (.slice B4 n4 e4)).ownsRow (nL + 1) 42 1 (.slice B4 n4 e4) n4 (us)) := ownsRow_setCell_below (own_base hown7 HC.out.row.lt) (a := ⟨nL, 4, none⟩) (Nat.lt_succ_self _) _
    have HQ0 := Lib.hid (own_cp HO0.out hb7 4 (.slice B4 n4 e4))
    have HQ1 := Lib.hid (own_cp HO1.out hb7 4 (.slice B4 n4 e4))
    have HQ3 := Lib.hid (own_cp HO3.out hb7 4 (.slice B4 n4 e4))
    have HQ2 := Lib.hid (own_cp HO2.out hb7 4 (.slice B4 n4 e4))
    clear HC hown7 hb7 HO0 HO1 HO3 HO2
    generalize w7.setCell ⟨nL, 4, none⟩ (.slice B4 n4 e4) = wc4 at *
    have HC : Hid (CpSt wD nL (layC (.slice B0 n0 e0) (.slice B1 n1 e1) (.slice B2 n2 e2) (.slice B3 n3 e3) (.slice B4 n4 e4) L) wc4) := HC2.out
    have HO0 := HQ0
    have HO1 := HQ1
    have HO3 := HQ3
    have HO2 := HQ2
    have HO4 := HQ4
    clear HC2 HQ0 HQ1 HQ3 HQ2 HQ4
    have HO : Hid (OwL w nL (layC (.slice B0 n0 e0) (.slice B1 n1 e1) (.slice B2 n2 e2) (.slice B3 n3 e3) (.slice B4 n4 e4) L) (.slice B0 n0 e0) (.slice B1 n1 e1) (.slice B2 n2 e2) (.slice B3 n3 e3) (.slice B4 n4 e4) ps vs us L wc4) := by
      refine ⟨HE.out.bel.trans (HC.out.bel.mono HE.out.le), HE.out.le, HC.out.row, ?_, HDT.out.f, ?_, ?_, ?_, ?_, ?_, ?_, HAP.out⟩
      · rw [HN.out.1]; exact HO0.out
      · rw [HN.out.2.1]; exact HO1.out
      · rw [HN.out.2.2.1]; exact HO2.out
      · exact HVS.out.2.1.below HC.out.bel
      · rw [HN.out.2.2.2.1]; exact HO3.out
      · rw [HN.out.2.2.2.2]; exact HO4.out
      · exact HUS.out.2.1.below HC.out.bel
    obtain ⟨g0, y0, hB0, -⟩ := own_at HO0.out (by omega)
    obtain ⟨g1, y1, hB1, -⟩ := own_at HO1.out (by omega)
    obtain ⟨g2, y2, hB2, -⟩ := own_at HO2.out (by omega)
    injection hB0 with z1 z2 z3
    subst z1 z3
    injection hB1 with z1 z2 z3
    subst z1 z3
    injection hB2 with z1 z2 z3
    subst z1 z3
    clear HC HO0 HO1 HO2 HO3 HO4 HAP HVS HUS HE HDT
    obtain ⟨s, hs0⟩ : ∃ x, x = nat % n1 := ⟨_, rfl⟩
    obtain ⟨k, hk0⟩ : ∃ x, x = nat % n0 := ⟨_, rfl⟩
    obtain ⟨p, hp0⟩ : ∃ x, x = nat % n2 := ⟨_, rfl⟩
    obtain ⟨mw, hmw⟩ : ∃ x, x = wh % 20 := ⟨_, rfl⟩
    have hs1 : s < n1 := by rw [hs0]; exact Nat.mod_lt _ (by omega)
    have hk1 : k < n0 := by rw [hk0]; exact Nat.mod_lt _ (by omega)
    have hp1 : p < n2 := by rw [hp0]; exact Nat.mod_lt _ (by omega)
    have hm1 : mw < 20 := by omega
    have fs : ((nat : Int)).tmod (n1 : Int) = (s : Int) := by rw [hs0, Int.tmod_eq_emod_of_nonneg (by omega)]; omega
    have fk : ((nat : Int)).tmod (n0 : Int) = (k : Int) := by rw [hk0, Int.tmod_eq_emod_of_nonneg (by omega)]; omega
    have fp : ((nat : Int)).tmod (n2 : Int) = (p : Int) := by rw [hp0, Int.tmod_eq_emod_of_nonneg (by omega)]; omega
    have fm : ((wh : Int)).tmod 20 = (mw : Int) := by rw [hmw, Int.tmod_eq_emod_of_nonneg (by omega)]; omega
    have fse : (nat : Int) % (n1 : Int) = (s : Int) := by omega
    have fke : (nat : Int) % (n0 : Int) = (k : Int) := by omega
    have fpe : (nat : Int) % (n2 : Int) = (p : Int) := by omega
    have fme : (wh : Int) % 20 = (mw : Int) := by omega
    have q1 : ¬ n1 = 0 := by omega
    have q2 : ¬ (n1 : Int) = 0 := by omega
    have q3 : ¬ n0 = 0 := by omega
    have q4 : ¬ (n0 : Int) = 0 := by omega
    have q5 : ¬ n2 = 0 := by omega
    have q6 : ¬ (n2 : Int) = 0 := by omega
    have w8m : IntKind.u8.wrap (mw : Int) = (mw : Int) := IntWalk.u8_in _ (by omega)
    have w64a : IntKind.i64.wrap (nat : Int) = (nat : Int) := IntWalk.i64_in _ (by omega)
    have w64s : IntKind.i64.wrap (s : Int) = (s : Int) := IntWalk.i64_in _ (by omega)
    have w64k : IntKind.i64.wrap (k : Int) = (k : Int) := IntWalk.i64_in _ (by omega)
    have w64p : IntKind.i64.wrap (p : Int) = (p : Int) := IntWalk.i64_in _ (by omega)
    clear hs0 hk0 hp0 hmw
    have p0 := HO.out.row.cell 0
    have p1 := HO.out.row.cell 1
    have p2 := HO.out.row.cell 2
    have p3 := HO.out.row.cell 3
    have p4 := HO.out.row.cell 4
    have p5 := HO.out.row.cell 5
    have p6 := HO.out.row.cell 6
    have p7 := HO.out.row.cell 7
    have p8 := HO.out.row.cell 8
    have p9 := HO.out.row.cell 9
    simp only [layC, List.getElem?_toArray, List.getElem?_cons_zero, List.getElem?_cons_succ] at p0 p1 p2 p3 p4 p5 p6 p7 p8 p9
    go_upto_region 12 with (fail)
    clear p0 p1 p2 p3 p4 p5 p6 p7 p8 p9
    clear fs fk fp fse fke fpe q1 q2 q3 q4 q5 q6 w64s w64k w64p
    rcases (show mw = 0 ∨ mw = 1 ∨ mw = 2 ∨ mw = 3 ∨ mw = 4 ∨ mw = 5 ∨ mw = 6 ∨ mw = 7 ∨ mw = 8 ∨ mw = 9 ∨ mw = 10 ∨ mw = 11 ∨ mw = 12 ∨ mw = 13 ∨ mw = 14 ∨ mw = 15 ∨ mw = 16 ∨ mw = 17 ∨ mw = 18 ∨ mw = 19 by omega) with rfl | rfl | rfl | rfl | rfl | rfl | rfl | rfl | rfl | rfl | rfl | rfl | rfl | rfl | rfl | rfl | rfl | rfl | rfl | rfl
    · as_aux_lemma =>
      have wr2 : IntKind.i64.wrap (a3.tmod 2000000) = a3.tmod 2000000 := IntWalk.i64_in _ (by have := tm_bd a3 2000000 (by decide); omega)
      obtain ⟨fb, hfb⟩ : ∃ b, floatOfInt .f64 (a3.tmod 2000000) = b := ⟨_, rfl⟩
      have HFB : Hid (Fl 0 fb (a3.tmod 2000000)) := by rw [← hfb]; exact fl_ofInt _ (by have := tm_bd a3 2000000 (by decide); omega)
      go_upto_region 15 with (fail)
      have HQ0 : Hid (OwL w nL (layC (.slice (some ⟨g0, 0, none⟩) n0 e0) (.slice (some ⟨g1, 0, none⟩) n1 e1) (.slice (some ⟨g2, 0, none⟩) n2 e2) (.slice B3 n3 e3) (.slice B4 n4 e4) L) (.slice (some ⟨g0, 0, none⟩) n0 e0) (.slice (some ⟨g1, 0, none⟩) n1 e1) (.slice (some ⟨g2, 0, none⟩) n2 e2) (.slice B3 n3 e3) (.slice B4 n4 e4) ps vs us L wc4.drew) := HO.out.call (Below.drewN (Below.refl _ _) 1)
      refine wp_region_still_tail 14 (by kernel_rfl) (by kernel_rfl) ?_
      change wpStill _ _ wc4.drew (fun a' => wpList _ _ _ _ a' wc4.drew) _ _
      clear HO
      generalize wc4.drew = wq at *
      obtain ⟨x, y, zx, zy, hcn, fz, hfx, hfy, hbx, hby⟩ := HQ0.out.node HN.out.1 HFW.out.z k hk1
      have HQ1 := Lib.hid (HQ0.out.node_put HN.out.1 k (z := (a3.tmod 2000000, zy)) HFB.out hfy)
      have hki : (k : Int) < (n0 : Int) := by omega
      have hk00 : (0 : Int) ≤ (k : Int) := Int.natCast_nonneg _
      have hn00 : (0 : Int) < (n0 : Int) := by omega
      have hn000 : 0 < n0 := by omega
      have p0 := HQ0.out.row.cell 0
      have p1 := HQ0.out.row.cell 1
      have p2 := HQ0.out.row.cell 2
      have p3 := HQ0.out.row.cell 3
      have p4 := HQ0.out.row.cell 4
      have p5 := HQ0.out.row.cell 5
      have p6 := HQ0.out.row.cell 6
      have p7 := HQ0.out.row.cell 7
      have p8 := HQ0.out.row.cell 8
      have p9 := HQ0.out.row.cell 9
      simp only [layC, List.getElem?_toArray, List.getElem?_cons_zero, List.getElem?_cons_succ] at p0 p1 p2 p3 p4 p5 p6 p7 p8 p9
      simp only [List.take_succ_cons, List.take_zero, List.drop_succ_cons, List.drop_zero]
      repeat still_step
      refine wpStill_nil ?_
      have hsc := store_complex
      go_upto_region 55 with (fail)
      clear fz hcn hfx hfy hbx hby hsc
      clear p0 p1 p2 p3 p4 p5 p6 p7 p8 p9
      have HF0 : Hid (FiSt w nL (layC (.slice (some ⟨g0, 0, none⟩) n0 e0) (.slice (some ⟨g1, 0, none⟩) n1 e1) (.slice (some ⟨g2, 0, none⟩) n2 e2) (.slice B3 n3 e3) (.slice B4 n4 e4) ({ L with nodes := L.nodes.set k (a3.tmod 2000000, zy) })) ({ L with nodes := L.nodes.set k (a3.tmod 2000000, zy) }) (wq.setCell ⟨g0, k, none⟩ (.complex .f64 fb y))) := HQ1.out.fi rfl
      have HVA0 : Hid (Vf2 ({ L with nodes := L.nodes.set k (a3.tmod 2000000, zy) })) := vf2_nodes HVF.out (by rw [List.length_set]; have := HN.out.1; omega)
      clear HQ0 HVF HQ1
      generalize wq.setCell ⟨g0, k, none⟩ (.complex .f64 fb y) = wY at *
      obtain ⟨LA, hLA⟩ : ∃ M : Lay, M = { L with nodes := L.nodes.set k (a3.tmod 2000000, zy) } := ⟨_, rfl⟩
      have HF : Hid (FiSt w nL (layC (.slice (some ⟨g0, 0, none⟩) n0 e0) (.slice (some ⟨g1, 0, none⟩) n1 e1) (.slice (some ⟨g2, 0, none⟩) n2 e2) (.slice B3 n3 e3) (.slice B4 n4 e4) LA) LA wY) := by rw [hLA]; exact HF0.out
      have HVA : Hid (Vf2 LA) := by rw [hLA]; exact HVA0.out
      have HSC : Hid (LA.speed = ({ L with nodes := L.nodes.set k (a3.tmod 2000000, zy) }).speed ∧ LA.mute = ({ L with nodes := L.nodes.set k (a3.tmod 2000000, zy) }).mute ∧ LA.wait = ({ L with nodes := L.nodes.set k (a3.tmod 2000000, zy) }).wait ∧ LA.cancel = ({ L with nodes := L.nodes.set k (a3.tmod 2000000, zy) }).cancel ∧ LA.stay = ({ L with nodes := L.nodes.set k (a3.tmod 2000000, zy) }).stay) := by rw [hLA]; exact ⟨rfl, rfl, rfl, rfl, rfl⟩
      clear HF0 HVA0 hLA HSC
      have p0 := HF.out.row.cell 0
      have p1 := HF.out.row.cell 1
      have p2 := HF.out.row.cell 2
      have p3 := HF.out.row.cell 3
      have p4 := HF.out.row.cell 4
      have p5 := HF.out.row.cell 5
      have p6 := HF.out.row.cell 6
      have p7 := HF.out.row.cell 7
      have p8 := HF.out.row.cell 8
      have p9 := HF.out.row.cell 9
      simp only [layC, List.getElem?_toArray, List.getElem?_cons_zero, List.getElem?_cons_succ] at p0 p1 p2 p3 p4 p5 p6 p7 p8 p9
      have hj := judged_any wY _ LA HF.out.lay HVA.out
      unfold layC at hj
      have HJ := Lib.hid hj
      clear hj
      go_wp2_with fail
      refine HJ.out.mono ?_; rintro e wZ ⟨rfl, hbZ⟩
      clear p0 p1 p2 p3 p4 p5 p6 p7 p8 p9
      have HZ : Hid (Below w.heap.size w wZ) := (HF.out.call hbZ).bel
      clear hbZ HJ HF HVA
      go_wp2_with fail
      go_ret
      exact ⟨rfl, HZ.out⟩
    · as_aux_lemma =>
      go_upto_region 17 with (fail)
      have HQ0 : Hid (OwL w nL (layC (.slice (some ⟨g0, 0, none⟩) n0 e0) (.slice (some ⟨g1, 0, none⟩) n1 e1) (.slice (some ⟨g2, 0, none⟩) n2 e2) (.slice B3 n3 e3) (.slice B4 n4 e4) L) (.slice (some ⟨g0, 0, none⟩) n0 e0) (.slice (some ⟨g1, 0, none⟩) n1 e1) (.slice (some ⟨g2, 0, none⟩) n2 e2) (.slice B3 n3 e3) (.slice B4 n4 e4) ps vs us L wc4.drew) := HO.out.call (Below.drewN (Below.refl _ _) 1)
      refine wp_region_still_tail 8 (by kernel_rfl) (by kernel_rfl) ?_
      change wpStill _ _ wc4.drew (fun a' => wpList _ _ _ _ a' wc4.drew) _ _
      clear HO
      generalize wc4.drew = wq at *
      obtain ⟨x, y, zx, zy, hcn, fz, hfx, hfy, hbx, hby⟩ := HQ0.out.node HN.out.1 HFW.out.z k hk1
      obtain ⟨x0, y0, zx0, zy0, hcn0, -, hfx0, hfy0, -, -⟩ := HQ0.out.node HN.out.1 HFW.out.z 0 (by omega)
      have HQ1 := Lib.hid (HQ0.out.node_put HN.out.1 k (z := (zx0, zy0)) hfx0 hfy0)
      have hki : (k : Int) < (n0 : Int) := by omega
      have hk00 : (0 : Int) ≤ (k : Int) := Int.natCast_nonneg _
      have hn00 : (0 : Int) < (n0 : Int) := by omega
      have hn000 : 0 < n0 := by omega
      have p0 := HQ0.out.row.cell 0
      have p1 := HQ0.out.row.cell 1
      have p2 := HQ0.out.row.cell 2
      have p3 := HQ0.out.row.cell 3
      have p4 := HQ0.out.row.cell 4
      have p5 := HQ0.out.row.cell 5
      have p6 := HQ0.out.row.cell 6
      have p7 := HQ0.out.row.cell 7
      have p8 := HQ0.out.row.cell 8
      have p9 := HQ0.out.row.cell 9
      simp only [layC, List.getElem?_toArray, List.getElem?_cons_zero, List.getElem?_cons_succ] at p0 p1 p2 p3 p4 p5 p6 p7 p8 p9
      simp only [List.take_succ_cons, List.take_zero, List.drop_succ_cons, List.drop_zero]
      repeat still_step
      refine wpStill_nil ?_
      have hsc := store_complex
      go_upto_region 55 with (fail)
      clear fz hcn hfx hfy hbx hby hsc
      clear p0 p1 p2 p3 p4 p5 p6 p7 p8 p9
      have HF0 : Hid (FiSt w nL (layC (.slice (some ⟨g0, 0, none⟩) n0 e0) (.slice (some ⟨g1, 0, none⟩) n1 e1) (.slice (some ⟨g2, 0, none⟩) n2 e2) (.slice B3 n3 e3) (.slice B4 n4 e4) ({ L with nodes := L.nodes.set k (zx0, zy0) })) ({ L with nodes := L.nodes.set k (zx0, zy0) }) (wq.setCell ⟨g0, k, none⟩ (.complex .f64 x0 y0))) := HQ1.out.fi rfl
      have HVA0 : Hid (Vf2 ({ L with nodes := L.nodes.set k (zx0, zy0) })) := vf2_nodes HVF.out (by rw [List.length_set]; have := HN.out.1; omega)
      clear HQ0 HVF HQ1
      generalize wq.setCell ⟨g0, k, none⟩ (.complex .f64 x0 y0) = wY at *
      obtain ⟨LA, hLA⟩ : ∃ M : Lay, M = { L with nodes := L.nodes.set k (zx0, zy0) } := ⟨_, rfl⟩
      have HF : Hid (FiSt w nL (layC (.slice (some ⟨g0, 0, none⟩) n0 e0) (.slice (some ⟨g1, 0, none⟩) n1 e1) (.slice (some ⟨g2, 0, none⟩) n2 e2) (.slice B3 n3 e3) (.slice B4 n4 e4) LA) LA wY) := by rw [hLA]; exact HF0.out
      have HVA : Hid (Vf2 LA) := by rw [hLA]; exact HVA0.out
      have HSC : Hid (LA.speed = ({ L with nodes := L.nodes.set k (zx0, zy0) }).speed ∧ LA.mute = ({ L with nodes := L.nodes.set k (zx0, zy0) }).mute ∧ LA.wait = ({ L with nodes := L.nodes.set k (zx0, zy0) }).wait ∧ LA.cancel = ({ L with nodes := L.nodes.set k (zx0, zy0) }).cancel ∧ LA.stay = ({ L with nodes := L.nodes.set k (zx0, zy0) }).stay) := by rw [hLA]; exact ⟨rfl, rfl, rfl, rfl, rfl⟩
      clear HF0 HVA0 hLA HSC
      have p0 := HF.out.row.cell 0
      have p1 := HF.out.row.cell 1
      have p2 := HF.out.row.cell 2
      have p3 := HF.out.row.cell 3
      have p4 := HF.out.row.cell 4
      have p5 := HF.out.row.cell 5
      have p6 := HF.out.row.cell 6
      have p7 := HF.out.row.cell 7
      have p8 := HF.out.row.cell 8
      have p9 := HF.out.row.cell 9
      simp only [layC, List.getElem?_toArray, List.getElem?_cons_zero, List.getElem?_cons_succ] at p0 p1 p2 p3 p4 p5 p6 p7 p8 p9
      have hj := judged_any wY _ LA HF.out.lay HVA.out
      unfold layC at hj
      have HJ := Lib.hid hj
      clear hj
      go_wp2_with fail
      refine HJ.out.mono ?_; rintro e wZ ⟨rfl, hbZ⟩
      clear p0 p1 p2 p3 p4 p5 p6 p7 p8 p9
      have HZ : Hid (Below w.heap.size w wZ) := (HF.out.call hbZ).bel
      clear hbZ HJ HF HVA
      go_wp2_with fail
      go_ret
      exact ⟨rfl, HZ.out⟩
    · as_aux_lemma =>
      have wr2 : IntKind.i64.wrap (a3.tmod 100) = a3.tmod 100 := IntWalk.i64_in _ (by have := tm_bd a3 100 (by decide); omega)
      obtain ⟨fb, hfb⟩ : ∃ b, floatOfInt .f64 (a3.tmod 100) = b := ⟨_, rfl⟩
      have HFB : Hid (Fl 0 fb (a3.tmod 100)) := by rw [← hfb]; exact fl_ofInt _ (by have := tm_bd a3 100 (by decide); omega)
      have HLT : Hid (Sr (wc4.alloc (.cells #[.complex .f64 4617315517961601024 fb] 36)) (some ⟨wc4.heap.size, 0, none⟩) 1 1 1 [.complex .f64 4617315517961601024 fb]) := Sr.lit wc4 #[.complex .f64 4617315517961601024 fb] 36 1 1 rfl (by intro u hu; simp at hu; subst hu; rfl)
      have HO2 := Lib.hid (HO.out.call ((Below.refl wc4.heap.size wc4).alloc (Nat.le_refl _) (.cells #[.complex .f64 4617315517961601024 fb] 36)))
      have HR2 : Hid ((wc4.alloc (.cells #[.complex .f64 4617315517961601024 fb] 36)).ownsRow (nL + 1) 36 1 (.slice (some ⟨g0, 0, none⟩) n0 e0) n0 (nvals ps)) := by
        have h := HO2.out.n
        rw [HN.out.1] at h; exact h
      have hsz2 : nL + 1 ≤ (wc4.alloc (.cells #[.complex .f64 4617315517961601024 fb] 36)).heap.size := HO2.out.lt
      have p0 := HO.out.row.cell 0
      have p1 := HO.out.row.cell 1
      have p2 := HO.out.row.cell 2
      have p3 := HO.out.row.cell 3
      have p4 := HO.out.row.cell 4
      have p5 := HO.out.row.cell 5
      have p6 := HO.out.row.cell 6
      have p7 := HO.out.row.cell 7
      have p8 := HO.out.row.cell 8
      have p9 := HO.out.row.cell 9
      simp only [layC, List.getElem?_toArray, List.getElem?_cons_zero, List.getElem?_cons_succ] at p0 p1 p2 p3 p4 p5 p6 p7 p8 p9
      go_wp2_with (at_builtin; refine wpList_app_src rfl (.tmp 114) (.tmp 119) 28 rfl (nL + 1) 36 i36 (.complex .f64 0 0) 1 16 Tryz.underlying28 hi36 hz0 hz1 hz2 rfl (by decide) (.slice (some ⟨g0, 0, none⟩) n0 e0) n0 (nvals ps) rfl HR2.out (some ⟨wc4.heap.size, 0, none⟩) 1 1 [.complex .f64 4617315517961601024 fb] rfl HLT.out (by omega) (by decide) hsz2 ?_)
      intro v9 w9 hown9 hgr9 _
      clear p0 p1 p2 p3 p4 p5 p6 p7 p8 p9
      obtain ⟨A9, c9, hv9⟩ := own_slice hown9
      subst hv9
      have HO3 : Hid (OwL w nL (layC (.slice (some ⟨g0, 0, none⟩) n0 e0) (.slice (some ⟨g1, 0, none⟩) n1 e1) (.slice (some ⟨g2, 0, none⟩) n2 e2) (.slice B3 n3 e3) (.slice B4 n4 e4) L) (.slice A9 (n0 + 1) c9) (.slice (some ⟨g1, 0, none⟩) n1 e1) (.slice (some ⟨g2, 0, none⟩) n2 e2) (.slice B3 n3 e3) (.slice B4 n4 e4) (ps ++ [(4617315517961601024, fb)]) vs us { L with nodes := L.nodes ++ [(5, a3.tmod 100)] } w9) := by
        rw [nvals_snoc] at hown9
        exact HO2.out.nodes (by rw [List.length_append, HN.out.1]; exact hown9) (HO2.out.f.snoc fl_five HFB.out) hgr9
      have q0 := HO3.out.row.cell 0
      simp only [layC, List.getElem?_toArray, List.getElem?_cons_zero] at q0
      have fz := HO3.out.row.frozen 0
      clear hown9 hgr9 HO2 HR2 HLT hsz2 HO
      go_upto_region 55 with (fail)
      clear q0 fz
      have HF0 : Hid (FiSt w nL (layC (.slice A9 (n0 + 1) c9) (.slice (some ⟨g1, 0, none⟩) n1 e1) (.slice (some ⟨g2, 0, none⟩) n2 e2) (.slice B3 n3 e3) (.slice B4 n4 e4) ({ L with nodes := L.nodes ++ [(5, a3.tmod 100)] })) ({ L with nodes := L.nodes ++ [(5, a3.tmod 100)] }) (w9.setCell ⟨nL, 0, none⟩ (.slice A9 (n0 + 1) c9))) := (HO3.out.put 0 (.slice A9 (n0 + 1) c9)).fi rfl
      have HVA0 : Hid (Vf2 ({ L with nodes := L.nodes ++ [(5, a3.tmod 100)] })) := vf2_nodes HVF.out (by rw [List.length_append]; simp only [List.length_cons, List.length_nil]; have := HN.out.1; omega)
      clear HVF HO3
      generalize w9.setCell ⟨nL, 0, none⟩ (.slice A9 (n0 + 1) c9) = wY at *
      obtain ⟨LA, hLA⟩ : ∃ M : Lay, M = { L with nodes := L.nodes ++ [(5, a3.tmod 100)] } := ⟨_, rfl⟩
      have HF : Hid (FiSt w nL (layC (.slice A9 (n0 + 1) c9) (.slice (some ⟨g1, 0, none⟩) n1 e1) (.slice (some ⟨g2, 0, none⟩) n2 e2) (.slice B3 n3 e3) (.slice B4 n4 e4) LA) LA wY) := by rw [hLA]; exact HF0.out
      have HVA : Hid (Vf2 LA) := by rw [hLA]; exact HVA0.out
      have HSC : Hid (LA.speed = ({ L with nodes := L.nodes ++ [(5, a3.tmod 100)] }).speed ∧ LA.mute = ({ L with nodes := L.nodes ++ [(5, a3.tmod 100)] }).mute ∧ LA.wait = ({ L with nodes := L.nodes ++ [(5, a3.tmod 100)] }).wait ∧ LA.cancel = ({ L with nodes := L.nodes ++ [(5, a3.tmod 100)] }).cancel ∧ LA.stay = ({ L with nodes := L.nodes ++ [(5, a3.tmod 100)] }).stay) := by rw [hLA]; exact ⟨rfl, rfl, rfl, rfl, rfl⟩
      clear HF0 HVA0 hLA HSC
      have p0 := HF.out.row.cell 0
      have p1 := HF.out.row.cell 1
      have p2 := HF.out.row.cell 2
      have p3 := HF.out.row.cell 3
      have p4 := HF.out.row.cell 4
      have p5 := HF.out.row.cell 5
      have p6 := HF.out.row.cell 6
      have p7 := HF.out.row.cell 7
      have p8 := HF.out.row.cell 8
      have p9 := HF.out.row.cell 9
      simp only [layC, List.getElem?_toArray, List.getElem?_cons_zero, List.getElem?_cons_succ] at p0 p1 p2 p3 p4 p5 p6 p7 p8 p9
      have hj := judged_any wY _ LA HF.out.lay HVA.out
      unfold layC at hj
      have HJ := Lib.hid hj
      clear hj
      go_wp2_with fail
      refine HJ.out.mono ?_; rintro e wZ ⟨rfl, hbZ⟩
      clear p0 p1 p2 p3 p4 p5 p6 p7 p8 p9
      have HZ : Hid (Below w.heap.size w wZ) := (HF.out.call hbZ).bel
      clear hbZ HJ HF HVA
      go_wp2_with fail
      go_ret
      exact ⟨rfl, HZ.out⟩
    · as_aux_lemma =>
      obtain ⟨fz, ⟨xo, hx1⟩, ss, hss, hO1⟩ := HO.out.sec_put HN.out.2.1 s 0 hs1 (by decide) (a3)
      rw [Nat.add_zero] at fz hx1 hO1
      have HO1 := Lib.hid hO1
      have hsi : (s : Int) < (n1 : Int) := by omega
      have hs00 : (0 : Int) ≤ (s : Int) := Int.natCast_nonneg _
      clear hO1
      have p0 := HO.out.row.cell 0
      have p1 := HO.out.row.cell 1
      have p2 := HO.out.row.cell 2
      have p3 := HO.out.row.cell 3
      have p4 := HO.out.row.cell 4
      have p5 := HO.out.row.cell 5
      have p6 := HO.out.row.cell 6
      have p7 := HO.out.row.cell 7
      have p8 := HO.out.row.cell 8
      have p9 := HO.out.row.cell 9
      simp only [layC, List.getElem?_toArray, List.getElem?_cons_zero, List.getElem?_cons_succ] at p0 p1 p2 p3 p4 p5 p6 p7 p8 p9
      go_upto_region 55 with (fail)
      clear fz hx1
      clear p0 p1 p2 p3 p4 p5 p6 p7 p8 p9
      have HF0 : Hid (FiSt w nL (layC (.slice (some ⟨g0, 0, none⟩) n0 e0) (.slice (some ⟨g1, 0, none⟩) n1 e1) (.slice (some ⟨g2, 0, none⟩) n2 e2) (.slice B3 n3 e3) (.slice B4 n4 e4) ({ L with secs := ss })) ({ L with secs := ss }) (wc4.setCell ⟨g1, s * 3, none⟩ (.int .i64 (a3)))) := HO1.out.fi rfl
      have HVA0 : Hid (Vf2 ({ L with secs := ss })) := vf2_secs HVF.out (by omega)
      clear HO HVF HO1
      generalize wc4.setCell ⟨g1, s * 3, none⟩ (.int .i64 (a3)) = wY at *
      obtain ⟨LA, hLA⟩ : ∃ M : Lay, M = { L with secs := ss } := ⟨_, rfl⟩
      have HF : Hid (FiSt w nL (layC (.slice (some ⟨g0, 0, none⟩) n0 e0) (.slice (some ⟨g1, 0, none⟩) n1 e1) (.slice (some ⟨g2, 0, none⟩) n2 e2) (.slice B3 n3 e3) (.slice B4 n4 e4) LA) LA wY) := by rw [hLA]; exact HF0.out
      have HVA : Hid (Vf2 LA) := by rw [hLA]; exact HVA0.out
      have HSC : Hid (LA.speed = ({ L with secs := ss }).speed ∧ LA.mute = ({ L with secs := ss }).mute ∧ LA.wait = ({ L with secs := ss }).wait ∧ LA.cancel = ({ L with secs := ss }).cancel ∧ LA.stay = ({ L with secs := ss }).stay) := by rw [hLA]; exact ⟨rfl, rfl, rfl, rfl, rfl⟩
      clear HF0 HVA0 hLA HSC
      have p0 := HF.out.row.cell 0
      have p1 := HF.out.row.cell 1
      have p2 := HF.out.row.cell 2
      have p3 := HF.out.row.cell 3
      have p4 := HF.out.row.cell 4
      have p5 := HF.out.row.cell 5
      have p6 := HF.out.row.cell 6
      have p7 := HF.out.row.cell 7
      have p8 := HF.out.row.cell 8
      have p9 := HF.out.row.cell 9
      simp only [layC, List.getElem?_toArray, List.getElem?_cons_zero, List.getElem?_cons_succ] at p0 p1 p2 p3 p4 p5 p6 p7 p8 p9
      have hj := judged_any wY _ LA HF.out.lay HVA.out
      unfold layC at hj
      have HJ := Lib.hid hj
      clear hj
      go_wp2_with fail
      refine HJ.out.mono ?_; rintro e wZ ⟨rfl, hbZ⟩
      clear p0 p1 p2 p3 p4 p5 p6 p7 p8 p9
      have HZ : Hid (Below w.heap.size w wZ) := (HF.out.call hbZ).bel
      clear hbZ HJ HF HVA
      go_wp2_with fail
      go_ret
      exact ⟨rfl, HZ.out⟩
    · as_aux_lemma =>
      obtain ⟨fz, ⟨xo, hx1⟩, ss, hss, hO1⟩ := HO.out.sec_put HN.out.2.1 s 1 hs1 (by decide) (a3)
      have HO1 := Lib.hid hO1
      have hsi : (s : Int) < (n1 : Int) := by omega
      have hs00 : (0 : Int) ≤ (s : Int) := Int.natCast_nonneg _
      clear hO1
      have p0 := HO.out.row.cell 0
      have p1 := HO.out.row.cell 1
      have p2 := HO.out.row.cell 2
      have p3 := HO.out.row.cell 3
      have p4 := HO.out.row.cell 4
      have p5 := HO.out.row.cell 5
      have p6 := HO.out.row.cell 6
      have p7 := HO.out.row.cell 7
      have p8 := HO.out.row.cell 8
      have p9 := HO.out.row.cell 9
      simp only [layC, List.getElem?_toArray, List.getElem?_cons_zero, List.getElem?_cons_succ] at p0 p1 p2 p3 p4 p5 p6 p7 p8 p9
      go_upto_region 55 with (fail)
      clear fz hx1
      clear p0 p1 p2 p3 p4 p5 p6 p7 p8 p9
      have HF0 : Hid (FiSt w nL (layC (.slice (some ⟨g0, 0, none⟩) n0 e0) (.slice (some ⟨g1, 0, none⟩) n1 e1) (.slice (some ⟨g2, 0, none⟩) n2 e2) (.slice B3 n3 e3) (.slice B4 n4 e4) ({ L with secs := ss })) ({ L with secs := ss }) (wc4.setCell ⟨g1, s * 3 + 1, none⟩ (.int .i64 (a3)))) := HO1.out.fi rfl
      have HVA0 : Hid (Vf2 ({ L with secs := ss })) := vf2_secs HVF.out (by omega)
      clear HO HVF HO1
      generalize wc4.setCell ⟨g1, s * 3 + 1, none⟩ (.int .i64 (a3)) = wY at *
      obtain ⟨LA, hLA⟩ : ∃ M : Lay, M = { L with secs := ss } := ⟨_, rfl⟩
      have HF : Hid (FiSt w nL (layC (.slice (some ⟨g0, 0, none⟩) n0 e0) (.slice (some ⟨g1, 0, none⟩) n1 e1) (.slice (some ⟨g2, 0, none⟩) n2 e2) (.slice B3 n3 e3) (.slice B4 n4 e4) LA) LA wY) := by rw [hLA]; exact HF0.out
      have HVA : Hid (Vf2 LA) := by rw [hLA]; exact HVA0.out
      have HSC : Hid (LA.speed = ({ L with secs := ss }).speed ∧ LA.mute = ({ L with secs := ss }).mute ∧ LA.wait = ({ L with secs := ss }).wait ∧ LA.cancel = ({ L with secs := ss }).cancel ∧ LA.stay = ({ L with secs := ss }).stay) := by rw [hLA]; exact ⟨rfl, rfl, rfl, rfl, rfl⟩
      clear HF0 HVA0 hLA HSC
      have p0 := HF.out.row.cell 0
      have p1 := HF.out.row.cell 1
      have p2 := HF.out.row.cell 2
      have p3 := HF.out.row.cell 3
      have p4 := HF.out.row.cell 4
      have p5 := HF.out.row.cell 5
      have p6 := HF.out.row.cell 6
      have p7 := HF.out.row.cell 7
      have p8 := HF.out.row.cell 8
      have p9 := HF.out.row.cell 9
      simp only [layC, List.getElem?_toArray, List.getElem?_cons_zero, List.getElem?_cons_succ] at p0 p1 p2 p3 p4 p5 p6 p7 p8 p9
      have hj := judged_any wY _ LA HF.out.lay HVA.out
      unfold layC at hj
      have HJ := Lib.hid hj
      clear hj
      go_wp2_with fail
      refine HJ.out.mono ?_; rintro e wZ ⟨rfl, hbZ⟩
      clear p0 p1 p2 p3 p4 p5 p6 p7 p8 p9
      have HZ : Hid (Below w.heap.size w wZ) := (HF.out.call hbZ).bel
      clear hbZ HJ HF HVA
      go_wp2_with fail
      go_ret
      exact ⟨rfl, HZ.out⟩
    · as_aux_lemma =>
      have wr2 : IntKind.i64.wrap (a3.tmod 10) = a3.tmod 10 := IntWalk.i64_in _ (by have := tm_bd a3 10 (by decide); omega)
      obtain ⟨fz, ⟨xo, hx1⟩, ss, hss, hO1⟩ := HO.out.sec_put HN.out.2.1 s 2 hs1 (by decide) (a3.tmod 10)
      have HO1 := Lib.hid hO1
      have hsi : (s : Int) < (n1 : Int) := by omega
      have hs00 : (0 : Int) ≤ (s : Int) := Int.natCast_nonneg _
      clear hO1
      have p0 := HO.out.row.cell 0
      have p1 := HO.out.row.cell 1
      have p2 := HO.out.row.cell 2
      have p3 := HO.out.row.cell 3
      have p4 := HO.out.row.cell 4
      have p5 := HO.out.row.cell 5
      have p6 := HO.out.row.cell 6
      have p7 := HO.out.row.cell 7
      have p8 := HO.out.row.cell 8
      have p9 := HO.out.row.cell 9
      simp only [layC, List.getElem?_toArray, List.getElem?_cons_zero, List.getElem?_cons_succ] at p0 p1 p2 p3 p4 p5 p6 p7 p8 p9
      go_upto_region 55 with (fail)
      clear fz hx1
      clear p0 p1 p2 p3 p4 p5 p6 p7 p8 p9
      have HF0 : Hid (FiSt w nL (layC (.slice (some ⟨g0, 0, none⟩) n0 e0) (.slice (some ⟨g1, 0, none⟩) n1 e1) (.slice (some ⟨g2, 0, none⟩) n2 e2) (.slice B3 n3 e3) (.slice B4 n4 e4) ({ L with secs := ss })) ({ L with secs := ss }) (wc4.setCell ⟨g1, s * 3 + 2, none⟩ (.int .i64 (a3.tmod 10)))) := HO1.out.fi rfl
      have HVA0 : Hid (Vf2 ({ L with secs := ss })) := vf2_secs HVF.out (by omega)
      clear HO HVF HO1
      generalize wc4.setCell ⟨g1, s * 3 + 2, none⟩ (.int .i64 (a3.tmod 10)) = wY at *
      obtain ⟨LA, hLA⟩ : ∃ M : Lay, M = { L with secs := ss } := ⟨_, rfl⟩
      have HF : Hid (FiSt w nL (layC (.slice (some ⟨g0, 0, none⟩) n0 e0) (.slice (some ⟨g1, 0, none⟩) n1 e1) (.slice (some ⟨g2, 0, none⟩) n2 e2) (.slice B3 n3 e3) (.slice B4 n4 e4) LA) LA wY) := by rw [hLA]; exact HF0.out
      have HVA : Hid (Vf2 LA) := by rw [hLA]; exact HVA0.out
      have HSC : Hid (LA.speed = ({ L with secs := ss }).speed ∧ LA.mute = ({ L with secs := ss }).mute ∧ LA.wait = ({ L with secs := ss }).wait ∧ LA.cancel = ({ L with secs := ss }).cancel ∧ LA.stay = ({ L with secs := ss }).stay) := by rw [hLA]; exact ⟨rfl, rfl, rfl, rfl, rfl⟩
      clear HF0 HVA0 hLA HSC
      have p0 := HF.out.row.cell 0
      have p1 := HF.out.row.cell 1
      have p2 := HF.out.row.cell 2
      have p3 := HF.out.row.cell 3
      have p4 := HF.out.row.cell 4
      have p5 := HF.out.row.cell 5
      have p6 := HF.out.row.cell 6
      have p7 := HF.out.row.cell 7
      have p8 := HF.out.row.cell 8
      have p9 := HF.out.row.cell 9
      simp only [layC, List.getElem?_toArray, List.getElem?_cons_zero, List.getElem?_cons_succ] at p0 p1 p2 p3 p4 p5 p6 p7 p8 p9
      have hj := judged_any wY _ LA HF.out.lay HVA.out
      unfold layC at hj
      have HJ := Lib.hid hj
      clear hj
      go_wp2_with fail
      refine HJ.out.mono ?_; rintro e wZ ⟨rfl, hbZ⟩
      clear p0 p1 p2 p3 p4 p5 p6 p7 p8 p9
      have HZ : Hid (Below w.heap.size w wZ) := (HF.out.call hbZ).bel
      clear hbZ HJ HF HVA
      go_wp2_with fail
      go_ret
      exact ⟨rfl, HZ.out⟩
    · as_aux_lemma =>
      have p0 := HO.out.row.cell 0
      have p1 := HO.out.row.cell 1
      have p2 := HO.out.row.cell 2
      have p3 := HO.out.row.cell 3
      have p4 := HO.out.row.cell 4
      have p5 := HO.out.row.cell 5
      have p6 := HO.out.row.cell 6
      have p7 := HO.out.row.cell 7
      have p8 := HO.out.row.cell 8
      have p9 := HO.out.row.cell 9
      simp only [layC, List.getElem?_toArray, List.getElem?_cons_zero, List.getElem?_cons_succ] at p0 p1 p2 p3 p4 p5 p6 p7 p8 p9
      have fz := HO.out.row.frozen 5
      go_upto_region 55 with (fail)
      clear fz
      clear p0 p1 p2 p3 p4 p5 p6 p7 p8 p9
      have HF0 : Hid (FiSt w nL (layC (.slice (some ⟨g0, 0, none⟩) n0 e0) (.slice (some ⟨g1, 0, none⟩) n1 e1) (.slice (some ⟨g2, 0, none⟩) n2 e2) (.slice B3 n3 e3) (.slice B4 n4 e4) ({ L with speed := a3, mute := L.mute, wait := L.wait, cancel := L.cancel, stay := L.stay })) ({ L with speed := a3, mute := L.mute, wait := L.wait, cancel := L.cancel, stay := L.stay }) (wc4.setCell ⟨nL, 5, none⟩ (.int .i64 (a3)))) := ((HO.out.put 5 (.int .i64 (a3))).sc (a3) (L.mute) (L.wait) (L.cancel) (L.stay)).fi rfl
      have HVA0 : Hid (Vf2 ({ L with speed := a3, mute := L.mute, wait := L.wait, cancel := L.cancel, stay := L.stay })) := vf2_sc HVF.out (a3) (L.mute) (L.wait) (L.cancel) (L.stay)
      clear HO HVF
      generalize wc4.setCell ⟨nL, 5, none⟩ (.int .i64 (a3)) = wY at *
      obtain ⟨LA, hLA⟩ : ∃ M : Lay, M = { L with speed := a3, mute := L.mute, wait := L.wait, cancel := L.cancel, stay := L.stay } := ⟨_, rfl⟩
      have HF : Hid (FiSt w nL (layC (.slice (some ⟨g0, 0, none⟩) n0 e0) (.slice (some ⟨g1, 0, none⟩) n1 e1) (.slice (some ⟨g2, 0, none⟩) n2 e2) (.slice B3 n3 e3) (.slice B4 n4 e4) LA) LA wY) := by rw [hLA]; exact HF0.out
      have HVA : Hid (Vf2 LA) := by rw [hLA]; exact HVA0.out
      have HSC : Hid (LA.speed = ({ L with speed := a3, mute := L.mute, wait := L.wait, cancel := L.cancel, stay := L.stay }).speed ∧ LA.mute = ({ L with speed := a3, mute := L.mute, wait := L.wait, cancel := L.cancel, stay := L.stay }).mute ∧ LA.wait = ({ L with speed := a3, mute := L.mute, wait := L.wait, cancel := L.cancel, stay := L.stay }).wait ∧ LA.cancel = ({ L with speed := a3, mute := L.mute, wait := L.wait, cancel := L.cancel, stay := L.stay }).cancel ∧ LA.stay = ({ L with speed := a3, mute := L.mute, wait := L.wait, cancel := L.cancel, stay := L.stay }).stay) := by rw [hLA]; exact ⟨rfl, rfl, rfl, rfl, rfl⟩
      clear HF0 HVA0 hLA HSC
      have p0 := HF.out.row.cell 0
      have p1 := HF.out.row.cell 1
      have p2 := HF.out.row.cell 2
      have p3 := HF.out.row.cell 3
      have p4 := HF.out.row.cell 4
      have p5 := HF.out.row.cell 5
      have p6 := HF.out.row.cell 6
      have p7 := HF.out.row.cell 7
      have p8 := HF.out.row.cell 8
      have p9 := HF.out.row.cell 9
      simp only [layC, List.getElem?_toArray, List.getElem?_cons_zero, List.getElem?_cons_succ] at p0 p1 p2 p3 p4 p5 p6 p7 p8 p9
      have hj := judged_any wY _ LA HF.out.lay HVA.out
      unfold layC at hj
      have HJ := Lib.hid hj
      clear hj
      go_wp2_with fail
      refine HJ.out.mono ?_; rintro e wZ ⟨rfl, hbZ⟩
      clear p0 p1 p2 p3 p4 p5 p6 p7 p8 p9
      have HZ : Hid (Below w.heap.size w wZ) := (HF.out.call hbZ).bel
      clear hbZ HJ HF HVA
      go_wp2_with fail
      go_ret
      exact ⟨rfl, HZ.out⟩
    · as_aux_lemma =>
      have p0 := HO.out.row.cell 0
      have p1 := HO.out.row.cell 1
      have p2 := HO.out.row.cell 2
      have p3 := HO.out.row.cell 3
      have p4 := HO.out.row.cell 4
      have p5 := HO.out.row.cell 5
      have p6 := HO.out.row.cell 6
      have p7 := HO.out.row.cell 7
      have p8 := HO.out.row.cell 8
      have p9 := HO.out.row.cell 9
      simp only [layC, List.getElem?_toArray, List.getElem?_cons_zero, List.getElem?_cons_succ] at p0 p1 p2 p3 p4 p5 p6 p7 p8 p9
      have fz := HO.out.row.frozen 6
      go_upto_region 55 with (fail)
      clear fz
      clear p0 p1 p2 p3 p4 p5 p6 p7 p8 p9
      have HF0 : Hid (FiSt w nL (layC (.slice (some ⟨g0, 0, none⟩) n0 e0) (.slice (some ⟨g1, 0, none⟩) n1 e1) (.slice (some ⟨g2, 0, none⟩) n2 e2) (.slice B3 n3 e3) (.slice B4 n4 e4) ({ L with speed := L.speed, mute := a3, wait := L.wait, cancel := L.cancel, stay := L.stay })) ({ L with speed := L.speed, mute := a3, wait := L.wait, cancel := L.cancel, stay := L.stay }) (wc4.setCell ⟨nL, 6, none⟩ (.int .i64 (a3)))) := ((HO.out.put 6 (.int .i64 (a3))).sc (L.speed) (a3) (L.wait) (L.cancel) (L.stay)).fi rfl
      have HVA0 : Hid (Vf2 ({ L with speed := L.speed, mute := a3, wait := L.wait, cancel := L.cancel, stay := L.stay })) := vf2_sc HVF.out (L.speed) (a3) (L.wait) (L.cancel) (L.stay)
      clear HO HVF
      generalize wc4.setCell ⟨nL, 6, none⟩ (.int .i64 (a3)) = wY at *
      obtain ⟨LA, hLA⟩ : ∃ M : Lay, M = { L with speed := L.speed, mute := a3, wait := L.wait, cancel := L.cancel, stay := L.stay } := ⟨_, rfl⟩
      have HF : Hid (FiSt w nL (layC (.slice (some ⟨g0, 0, none⟩) n0 e0) (.slice (some ⟨g1, 0, none⟩) n1 e1) (.slice (some ⟨g2, 0, none⟩) n2 e2) (.slice B3 n3 e3) (.slice B4 n4 e4) LA) LA wY) := by rw [hLA]; exact HF0.out
      have HVA : Hid (Vf2 LA) := by rw [hLA]; exact HVA0.out
      have HSC : Hid (LA.speed = ({ L with speed := L.speed, mute := a3, wait := L.wait, cancel := L.cancel, stay := L.stay }).speed ∧ LA.mute = ({ L with speed := L.speed, mute := a3, wait := L.wait, cancel := L.cancel, stay := L.stay }).mute ∧ LA.wait = ({ L with speed := L.speed, mute := a3, wait := L.wait, cancel := L.cancel, stay := L.stay }).wait ∧ LA.cancel = ({ L with speed := L.speed, mute := a3, wait := L.wait, cancel := L.cancel, stay := L.stay }).cancel ∧ LA.stay = ({ L with speed := L.speed, mute := a3, wait := L.wait, cancel := L.cancel, stay := L.stay }).stay) := by rw [hLA]; exact ⟨rfl, rfl, rfl, rfl, rfl⟩
      clear HF0 HVA0 hLA HSC
      have p0 := HF.out.row.cell 0
      have p1 := HF.out.row.cell 1
      have p2 := HF.out.row.cell 2
      have p3 := HF.out.row.cell 3
      have p4 := HF.out.row.cell 4
      have p5 := HF.out.row.cell 5
      have p6 := HF.out.row.cell 6
      have p7 := HF.out.row.cell 7
      have p8 := HF.out.row.cell 8
      have p9 := HF.out.row.cell 9
      simp only [layC, List.getElem?_toArray, List.getElem?_cons_zero, List.getElem?_cons_succ] at p0 p1 p2 p3 p4 p5 p6 p7 p8 p9
      have hj := judged_any wY _ LA HF.out.lay HVA.out
      unfold layC at hj
      have HJ := Lib.hid hj
      clear hj
      go_wp2_with fail
      refine HJ.out.mono ?_; rintro e wZ ⟨rfl, hbZ⟩
      clear p0 p1 p2 p3 p4 p5 p6 p7 p8 p9
      have HZ : Hid (Below w.heap.size w wZ) := (HF.out.call hbZ).bel
      clear hbZ HJ HF HVA
      go_wp2_with fail
      go_ret
      exact ⟨rfl, HZ.out⟩
    · as_aux_lemma =>
      have p0 := HO.out.row.cell 0
      have p1 := HO.out.row.cell 1
      have p2 := HO.out.row.cell 2
      have p3 := HO.out.row.cell 3
      have p4 := HO.out.row.cell 4
      have p5 := HO.out.row.cell 5
      have p6 := HO.out.row.cell 6
      have p7 := HO.out.row.cell 7
      have p8 := HO.out.row.cell 8
      have p9 := HO.out.row.cell 9
      simp only [layC, List.getElem?_toArray, List.getElem?_cons_zero, List.getElem?_cons_succ] at p0 p1 p2 p3 p4 p5 p6 p7 p8 p9
      have fz := HO.out.row.frozen 9
      go_upto_region 55 with (fail)
      clear fz
      clear p0 p1 p2 p3 p4 p5 p6 p7 p8 p9
      have HF0 : Hid (FiSt w nL (layC (.slice (some ⟨g0, 0, none⟩) n0 e0) (.slice (some ⟨g1, 0, none⟩) n1 e1) (.slice (some ⟨g2, 0, none⟩) n2 e2) (.slice B3 n3 e3) (.slice B4 n4 e4) ({ L with speed := L.speed, mute := L.mute, wait := L.wait, cancel := L.cancel, stay := a3 })) ({ L with speed := L.speed, mute := L.mute, wait := L.wait, cancel := L.cancel, stay := a3 }) (wc4.setCell ⟨nL, 9, none⟩ (.int .i64 (a3)))) := ((HO.out.put 9 (.int .i64 (a3))).sc (L.speed) (L.mute) (L.wait) (L.cancel) (a3)).fi rfl
      have HVA0 : Hid (Vf2 ({ L with speed := L.speed, mute := L.mute, wait := L.wait, cancel := L.cancel, stay := a3 })) := vf2_sc HVF.out (L.speed) (L.mute) (L.wait) (L.cancel) (a3)
      clear HO HVF
      generalize wc4.setCell ⟨nL, 9, none⟩ (.int .i64 (a3)) = wY at *
      obtain ⟨LA, hLA⟩ : ∃ M : Lay, M = { L with speed := L.speed, mute := L.mute, wait := L.wait, cancel := L.cancel, stay := a3 } := ⟨_, rfl⟩
      have HF : Hid (FiSt w nL (layC (.slice (some ⟨g0, 0, none⟩) n0 e0) (.slice (some ⟨g1, 0, none⟩) n1 e1) (.slice (some ⟨g2, 0, none⟩) n2 e2) (.slice B3 n3 e3) (.slice B4 n4 e4) LA) LA wY) := by rw [hLA]; exact HF0.out
      have HVA : Hid (Vf2 LA) := by rw [hLA]; exact HVA0.out
      have HSC : Hid (LA.speed = ({ L with speed := L.speed, mute := L.mute, wait := L.wait, cancel := L.cancel, stay := a3 }).speed ∧ LA.mute = ({ L with speed := L.speed, mute := L.mute, wait := L.wait, cancel := L.cancel, stay := a3 }).mute ∧ LA.wait = ({ L with speed := L.speed, mute := L.mute, wait := L.wait, cancel := L.cancel, stay := a3 }).wait ∧ LA.cancel = ({ L with speed := L.speed, mute := L.mute, wait := L.wait, cancel := L.cancel, stay := a3 }).cancel ∧ LA.stay = ({ L with speed := L.speed, mute := L.mute, wait := L.wait, cancel := L.cancel, stay := a3 }).stay) := by rw [hLA]; exact ⟨rfl, rfl, rfl, rfl, rfl⟩
      clear HF0 HVA0 hLA HSC
      have p0 := HF.out.row.cell 0
      have p1 := HF.out.row.cell 1
      have p2 := HF.out.row.cell 2
      have p3 := HF.out.row.cell 3
      have p4 := HF.out.row.cell 4
      have p5 := HF.out.row.cell 5
      have p6 := HF.out.row.cell 6
      have p7 := HF.out.row.cell 7
      have p8 := HF.out.row.cell 8
      have p9 := HF.out.row.cell 9
      simp only [layC, List.getElem?_toArray, List.getElem?_cons_zero, List.getElem?_cons_succ] at p0 p1 p2 p3 p4 p5 p6 p7 p8 p9
      have hj := judged_any wY _ LA HF.out.lay HVA.out
      unfold layC at hj
      have HJ := Lib.hid hj
      clear hj
      go_wp2_with fail
      refine HJ.out.mono ?_; rintro e wZ ⟨rfl, hbZ⟩
      clear p0 p1 p2 p3 p4 p5 p6 p7 p8 p9
      have HZ : Hid (Below w.heap.size w wZ) := (HF.out.call hbZ).bel
      clear hbZ HJ HF HVA
      go_wp2_with fail
      go_ret
      exact ⟨rfl, HZ.out⟩
    · as_aux_lemma =>
      have wr2 : IntKind.i64.wrap (a3.tmod 1002) = a3.tmod 1002 := IntWalk.i64_in _ (by have := tm_bd a3 1002 (by decide); omega)
      have p0 := HO.out.row.cell 0
      have p1 := HO.out.row.cell 1
      have p2 := HO.out.row.cell 2
      have p3 := HO.out.row.cell 3
      have p4 := HO.out.row.cell 4
      have p5 := HO.out.row.cell 5
      have p6 := HO.out.row.cell 6
      have p7 := HO.out.row.cell 7
      have p8 := HO.out.row.cell 8
      have p9 := HO.out.row.cell 9
      simp only [layC, List.getElem?_toArray, List.getElem?_cons_zero, List.getElem?_cons_succ] at p0 p1 p2 p3 p4 p5 p6 p7 p8 p9
      have fz := HO.out.row.frozen 8
      go_upto_region 55 with (fail)
      clear fz
      clear p0 p1 p2 p3 p4 p5 p6 p7 p8 p9
      have HF0 : Hid (FiSt w nL (layC (.slice (some ⟨g0, 0, none⟩) n0 e0) (.slice (some ⟨g1, 0, none⟩) n1 e1) (.slice (some ⟨g2, 0, none⟩) n2 e2) (.slice B3 n3 e3) (.slice B4 n4 e4) ({ L with speed := L.speed, mute := L.mute, wait := L.wait, cancel := a3.tmod 1002, stay := L.stay })) ({ L with speed := L.speed, mute := L.mute, wait := L.wait, cancel := a3.tmod 1002, stay := L.stay }) (wc4.setCell ⟨nL, 8, none⟩ (.int .i64 (a3.tmod 1002)))) := ((HO.out.put 8 (.int .i64 (a3.tmod 1002))).sc (L.speed) (L.mute) (L.wait) (a3.tmod 1002) (L.stay)).fi rfl
      have HVA0 : Hid (Vf2 ({ L with speed := L.speed, mute := L.mute, wait := L.wait, cancel := a3.tmod 1002, stay := L.stay })) := vf2_sc HVF.out (L.speed) (L.mute) (L.wait) (a3.tmod 1002) (L.stay)
      clear HO HVF
      generalize wc4.setCell ⟨nL, 8, none⟩ (.int .i64 (a3.tmod 1002)) = wY at *
      obtain ⟨LA, hLA⟩ : ∃ M : Lay, M = { L with speed := L.speed, mute := L.mute, wait := L.wait, cancel := a3.tmod 1002, stay := L.stay } := ⟨_, rfl⟩
      have HF : Hid (FiSt w nL (layC (.slice (some ⟨g0, 0, none⟩) n0 e0) (.slice (some ⟨g1, 0, none⟩) n1 e1) (.slice (some ⟨g2, 0, none⟩) n2 e2) (.slice B3 n3 e3) (.slice B4 n4 e4) LA) LA wY) := by rw [hLA]; exact HF0.out
      have HVA : Hid (Vf2 LA) := by rw [hLA]; exact HVA0.out
      have HSC : Hid (LA.speed = ({ L with speed := L.speed, mute := L.mute, wait := L.wait, cancel := a3.tmod 1002, stay := L.stay }).speed ∧ LA.mute = ({ L with speed := L.speed, mute := L.mute, wait := L.wait, cancel := a3.tmod 1002, stay := L.stay }).mute ∧ LA.wait = ({ L with speed := L.speed, mute := L.mute, wait := L.wait, cancel := a3.tmod 1002, stay := L.stay }).wait ∧ LA.cancel = ({ L with speed := L.speed, mute := L.mute, wait := L.wait, cancel := a3.tmod 1002, stay := L.stay }).cancel ∧ LA.stay = ({ L with speed := L.speed, mute := L.mute, wait := L.wait, cancel := a3.tmod 1002, stay := L.stay }).stay) := by rw [hLA]; exact ⟨rfl, rfl, rfl, rfl, rfl⟩
      clear HF0 HVA0 hLA HSC
      have p0 := HF.out.row.cell 0
      have p1 := HF.out.row.cell 1
      have p2 := HF.out.row.cell 2
      have p3 := HF.out.row.cell 3
      have p4 := HF.out.row.cell 4
      have p5 := HF.out.row.cell 5
      have p6 := HF.out.row.cell 6
      have p7 := HF.out.row.cell 7
      have p8 := HF.out.row.cell 8
      have p9 := HF.out.row.cell 9
      simp only [layC, List.getElem?_toArray, List.getElem?_cons_zero, List.getElem?_cons_succ] at p0 p1 p2 p3 p4 p5 p6 p7 p8 p9
      have hj := judged_any wY _ LA HF.out.lay HVA.out
      unfold layC at hj
      have HJ := Lib.hid hj
      clear hj
      go_wp2_with fail
      refine HJ.out.mono ?_; rintro e wZ ⟨rfl, hbZ⟩
      clear p0 p1 p2 p3 p4 p5 p6 p7 p8 p9
      have HZ : Hid (Below w.heap.size w wZ) := (HF.out.call hbZ).bel
      clear hbZ HJ HF HVA
      go_wp2_with fail
      go_ret
      exact ⟨rfl, HZ.out⟩
    · as_aux_lemma =>
      obtain ⟨a8, ha8⟩ : ∃ x, x = nat % 8 := ⟨_, rfl⟩
      have f8 : ((nat : Int)).tmod 8 = (a8 : Int) := by rw [ha8, Int.tmod_eq_emod_of_nonneg (by omega)]; omega
      have f8e : (nat : Int) % 8 = (a8 : Int) := by omega
      have w88 : IntKind.u8.wrap (a8 : Int) = (a8 : Int) := IntWalk.u8_in _ (by omega)
      have w648 : IntKind.i64.wrap (a8 : Int) = (a8 : Int) := IntWalk.i64_in _ (by omega)
      clear ha8
      have wr2 : IntKind.i64.wrap (a3.tmod 10) = a3.tmod 10 := IntWalk.i64_in _ (by have := tm_bd a3 10 (by decide); omega)
      have HLT : Hid (Sr (wc4.alloc (.cells #[.int .i64 (a3.tmod 10), .int .i64 (a8 : Int), .int .i64 0, .int .i64 0] 41)) (some ⟨wc4.heap.size, 0, none⟩) 1 1 4 [.int .i64 (a3.tmod 10), .int .i64 (a8 : Int), .int .i64 0, .int .i64 0]) := Sr.lit wc4 #[.int .i64 (a3.tmod 10), .int .i64 (a8 : Int), .int .i64 0, .int .i64 0] 41 1 4 rfl (by intro u hu; simp at hu; rcases hu with rfl | rfl | rfl | rfl <;> rfl)
      have HO2 := Lib.hid (HO.out.call ((Below.refl wc4.heap.size wc4).alloc (Nat.le_refl _) (.cells #[.int .i64 (a3.tmod 10), .int .i64 (a8 : Int), .int .i64 0, .int .i64 0] 41)))
      have HR2 : Hid ((wc4.alloc (.cells #[.int .i64 (a3.tmod 10), .int .i64 (a8 : Int), .int .i64 0, .int .i64 0] 41)).ownsRow (nL + 1) 41 4 (.slice B3 n3 e3) n3 (pcells L.points)) := by
        have h := HO2.out.q
        rw [HN.out.2.2.2.1] at h; exact h
      have hsz2 : nL + 1 ≤ (wc4.alloc (.cells #[.int .i64 (a3.tmod 10), .int .i64 (a8 : Int), .int .i64 0, .int .i64 0] 41)).heap.size := HO2.out.lt
      have p0 := HO.out.row.cell 0
      have p1 := HO.out.row.cell 1
      have p2 := HO.out.row.cell 2
      have p3 := HO.out.row.cell 3
      have p4 := HO.out.row.cell 4
      have p5 := HO.out.row.cell 5
      have p6 := HO.out.row.cell 6
      have p7 := HO.out.row.cell 7
      have p8 := HO.out.row.cell 8
      have p9 := HO.out.row.cell 9
      simp only [layC, List.getElem?_toArray, List.getElem?_cons_zero, List.getElem?_cons_succ] at p0 p1 p2 p3 p4 p5 p6 p7 p8 p9
      go_wp2_with (at_builtin; refine wpList_app_src rfl (.tmp 167) (.tmp 174) 31 rfl (nL + 1) 41 i41 (.agg #[.int .i64 0, .int .i64 0, .int .i64 0, .int .i64 0]) 4 32 Tryz.underlying31 hi41 hq0 hq1 hq2 rfl (by decide) (.slice B3 n3 e3) n3 (pcells L.points) rfl HR2.out (some ⟨wc4.heap.size, 0, none⟩) 1 1 [.int .i64 (a3.tmod 10), .int .i64 (a8 : Int), .int .i64 0, .int .i64 0] rfl HLT.out (by omega) (by decide) hsz2 ?_)
      intro v9 w9 hown9 hgr9 _
      clear p0 p1 p2 p3 p4 p5 p6 p7 p8 p9
      obtain ⟨A9, c9, hv9⟩ := own_slice hown9
      subst hv9
      have HO3 : Hid (OwL w nL (layC (.slice (some ⟨g0, 0, none⟩) n0 e0) (.slice (some ⟨g1, 0, none⟩) n1 e1) (.slice (some ⟨g2, 0, none⟩) n2 e2) (.slice B3 n3 e3) (.slice B4 n4 e4) L) (.slice (some ⟨g0, 0, none⟩) n0 e0) (.slice (some ⟨g1, 0, none⟩) n1 e1) (.slice (some ⟨g2, 0, none⟩) n2 e2) (.slice A9 (n3 + 1) c9) (.slice B4 n4 e4) ps vs us { L with points := L.points ++ [(a3.tmod 10, (a8 : Int), 0, 0)] } w9) := by
        have h1 : w9.ownsRow (nL + 1) 41 4 (.slice A9 (n3 + 1) c9) (n3 + 1) (pcells (L.points ++ [(a3.tmod 10, (a8 : Int), 0, 0)])) := by rw [← pcells_snoc]; exact hown9
        exact HO2.out.points (by rw [List.length_append, HN.out.2.2.2.1]; exact h1) hgr9
      have q0 := HO3.out.row.cell 3
      simp only [layC, List.getElem?_toArray, List.getElem?_cons_zero, List.getElem?_cons_succ] at q0
      have fz := HO3.out.row.frozen 3
      clear hown9 hgr9 HO2 HR2 HLT hsz2 HO
      go_upto_region 55 with (fail)
      clear q0 fz
      have HF0 : Hid (FiSt w nL (layC (.slice (some ⟨g0, 0, none⟩) n0 e0) (.slice (some ⟨g1, 0, none⟩) n1 e1) (.slice (some ⟨g2, 0, none⟩) n2 e2) (.slice A9 (n3 + 1) c9) (.slice B4 n4 e4) ({ L with points := L.points ++ [(a3.tmod 10, (a8 : Int), 0, 0)] })) ({ L with points := L.points ++ [(a3.tmod 10, (a8 : Int), 0, 0)] }) (w9.setCell ⟨nL, 3, none⟩ (.slice A9 (n3 + 1) c9))) := (HO3.out.put 3 (.slice A9 (n3 + 1) c9)).fi rfl
      have HVA0 : Hid (Vf2 ({ L with points := L.points ++ [(a3.tmod 10, (a8 : Int), 0, 0)] })) := vf2_points HVF.out (by rw [List.length_append]; simp only [List.length_cons, List.length_nil]; have := HN.out.2.2.2.1; omega)
      clear HVF HO3
      generalize w9.setCell ⟨nL, 3, none⟩ (.slice A9 (n3 + 1) c9) = wY at *
      obtain ⟨LA, hLA⟩ : ∃ M : Lay, M = { L with points := L.points ++ [(a3.tmod 10, (a8 : Int), 0, 0)] } := ⟨_, rfl⟩
      have HF : Hid (FiSt w nL (layC (.slice (some ⟨g0, 0, none⟩) n0 e0) (.slice (some ⟨g1, 0, none⟩) n1 e1) (.slice (some ⟨g2, 0, none⟩) n2 e2) (.slice A9 (n3 + 1) c9) (.slice B4 n4 e4) LA) LA wY) := by rw [hLA]; exact HF0.out
      have HVA : Hid (Vf2 LA) := by rw [hLA]; exact HVA0.out
      have HSC : Hid (LA.speed = ({ L with points := L.points ++ [(a3.tmod 10, (a8 : Int), 0, 0)] }).speed ∧ LA.mute = ({ L with points := L.points ++ [(a3.tmod 10, (a8 : Int), 0, 0)] }).mute ∧ LA.wait = ({ L with points := L.points ++ [(a3.tmod 10, (a8 : Int), 0, 0)] }).wait ∧ LA.cancel = ({ L with points := L.points ++ [(a3.tmod 10, (a8 : Int), 0, 0)] }).cancel ∧ LA.stay = ({ L with points := L.points ++ [(a3.tmod 10, (a8 : Int), 0, 0)] }).stay) := by rw [hLA]; exact ⟨rfl, rfl, rfl, rfl, rfl⟩
      clear HF0 HVA0 hLA HSC
      have p0 := HF.out.row.cell 0
      have p1 := HF.out.row.cell 1
      have p2 := HF.out.row.cell 2
      have p3 := HF.out.row.cell 3
      have p4 := HF.out.row.cell 4
      have p5 := HF.out.row.cell 5
      have p6 := HF.out.row.cell 6
      have p7 := HF.out.row.cell 7
      have p8 := HF.out.row.cell 8
      have p9 := HF.out.row.cell 9
      simp only [layC, List.getElem?_toArray, List.getElem?_cons_zero, List.getElem?_cons_succ] at p0 p1 p2 p3 p4 p5 p6 p7 p8 p9
      have hj := judged_any wY _ LA HF.out.lay HVA.out
      unfold layC at hj
      have HJ := Lib.hid hj
      clear hj
      go_wp2_with fail
      refine HJ.out.mono ?_; rintro e wZ ⟨rfl, hbZ⟩
      clear p0 p1 p2 p3 p4 p5 p6 p7 p8 p9
      have HZ : Hid (Below w.heap.size w wZ) := (HF.out.call hbZ).bel
      clear hbZ HJ HF HVA
      go_wp2_with fail
      go_ret
      exact ⟨rfl, HZ.out⟩
    · as_aux_lemma =>
      have p0 := HO.out.row.cell 0
      have p1 := HO.out.row.cell 1
      have p2 := HO.out.row.cell 2
      have p3 := HO.out.row.cell 3
      have p4 := HO.out.row.cell 4
      have p5 := HO.out.row.cell 5
      have p6 := HO.out.row.cell 6
      have p7 := HO.out.row.cell 7
      have p8 := HO.out.row.cell 8
      have p9 := HO.out.row.cell 9
      simp only [layC, List.getElem?_toArray, List.getElem?_cons_zero, List.getElem?_cons_succ] at p0 p1 p2 p3 p4 p5 p6 p7 p8 p9
      have fz := HO.out.row.frozen 3
      go_upto_region 55 with (fail)
      clear fz
      clear p0 p1 p2 p3 p4 p5 p6 p7 p8 p9
      have HO3 : Hid (OwL w nL (layC (.slice (some ⟨g0, 0, none⟩) n0 e0) (.slice (some ⟨g1, 0, none⟩) n1 e1) (.slice (some ⟨g2, 0, none⟩) n2 e2) (.slice B3 n3 e3) (.slice B4 n4 e4) L) (.slice (some ⟨g0, 0, none⟩) n0 e0) (.slice (some ⟨g1, 0, none⟩) n1 e1) (.slice (some ⟨g2, 0, none⟩) n2 e2) (.slice none 0 0) (.slice B4 n4 e4) ps vs us { L with points := [] } wc4) := HO.out.points (World.ownsRow_nil _ _ _ _) (grown_same _ _)
      have HF0 : Hid (FiSt w nL (layC (.slice (some ⟨g0, 0, none⟩) n0 e0) (.slice (some ⟨g1, 0, none⟩) n1 e1) (.slice (some ⟨g2, 0, none⟩) n2 e2) (.slice none 0 0) (.slice B4 n4 e4) ({ L with points := [] })) ({ L with points := [] }) (wc4.setCell ⟨nL, 3, none⟩ (.slice none 0 0))) := (HO3.out.put 3 (.slice none 0 0)).fi rfl
      have HVA0 : Hid (Vf2 ({ L with points := [] })) := vf2_points HVF.out (by simp)
      clear HVF HO3 HO
      generalize wc4.setCell ⟨nL, 3, none⟩ (.slice none 0 0) = wY at *
      obtain ⟨LA, hLA⟩ : ∃ M : Lay, M = { L with points := [] } := ⟨_, rfl⟩
      have HF : Hid (FiSt w nL (layC (.slice (some ⟨g0, 0, none⟩) n0 e0) (.slice (some ⟨g1, 0, none⟩) n1 e1) (.slice (some ⟨g2, 0, none⟩) n2 e2) (.slice none 0 0) (.slice B4 n4 e4) LA) LA wY) := by rw [hLA]; exact HF0.out
      have HVA : Hid (Vf2 LA) := by rw [hLA]; exact HVA0.out
      have HSC : Hid (LA.speed = ({ L with points := [] }).speed ∧ LA.mute = ({ L with points := [] }).mute ∧ LA.wait = ({ L with points := [] }).wait ∧ LA.cancel = ({ L with points := [] }).cancel ∧ LA.stay = ({ L with points := [] }).stay) := by rw [hLA]; exact ⟨rfl, rfl, rfl, rfl, rfl⟩
      clear HF0 HVA0 hLA HSC
      have p0 := HF.out.row.cell 0
      have p1 := HF.out.row.cell 1
      have p2 := HF.out.row.cell 2
      have p3 := HF.out.row.cell 3
      have p4 := HF.out.row.cell 4
      have p5 := HF.out.row.cell 5
      have p6 := HF.out.row.cell 6
      have p7 := HF.out.row.cell 7
      have p8 := HF.out.row.cell 8
      have p9 := HF.out.row.cell 9
      simp only [layC, List.getElem?_toArray, List.getElem?_cons_zero, List.getElem?_cons_succ] at p0 p1 p2 p3 p4 p5 p6 p7 p8 p9
      have hj := judged_any wY _ LA HF.out.lay HVA.out
      unfold layC at hj
      have HJ := Lib.hid hj
      clear hj
      go_wp2_with fail
      refine HJ.out.mono ?_; rintro e wZ ⟨rfl, hbZ⟩
      clear p0 p1 p2 p3 p4 p5 p6 p7 p8 p9
      have HZ : Hid (Below w.heap.size w wZ) := (HF.out.call hbZ).bel
      clear hbZ HJ HF HVA
      go_wp2_with fail
      go_ret
      exact ⟨rfl, HZ.out⟩
    · as_aux_lemma =>
      go_wp2_with fail
      go_loopw [13] (fun u wr => ∃ i : Nat, i ≤ 1 ∧ u = .int .i64 i ∧ Hid (∃ qs : List (Int × Int × Int × Int), qs.length = n3 ∧ OwL w nL (layC (.slice (some ⟨g0, 0, none⟩) n0 e0) (.slice (some ⟨g1, 0, none⟩) n1 e1) (.slice (some ⟨g2, 0, none⟩) n2 e2) (.slice B3 n3 e3) (.slice B4 n4 e4) L) (.slice (some ⟨g0, 0, none⟩) n0 e0) (.slice (some ⟨g1, 0, none⟩) n1 e1) (.slice (some ⟨g2, 0, none⟩) n2 e2) (.slice B3 n3 e3) (.slice B4 n4 e4) ps vs us { L with points := qs } wr)) (fun u _ => 1 - (intOf u).toNat)
      case atStart => exact ⟨0, Nat.zero_le _, rfl, L.points, HN.out.2.2.2.1, HO.out⟩
      case round =>
        obtain ⟨i, hi1, rfl, HK⟩ := hrel
        clear HO
        obtain ⟨wS, hwS⟩ : ∃ x, x = wr := ⟨_, rfl⟩
        subst hwS
        obtain ⟨qs, hqn, hK⟩ := HK.out
        have HK1 : Hid (OwL w nL (layC (.slice (some ⟨g0, 0, none⟩) n0 e0) (.slice (some ⟨g1, 0, none⟩) n1 e1) (.slice (some ⟨g2, 0, none⟩) n2 e2) (.slice B3 n3 e3) (.slice B4 n4 e4) L) (.slice (some ⟨g0, 0, none⟩) n0 e0) (.slice (some ⟨g1, 0, none⟩) n1 e1) (.slice (some ⟨g2, 0, none⟩) n2 e2) (.slice B3 n3 e3) (.slice B4 n4 e4) ps vs us { L with points := qs } wS) := hK
        clear hK HK
        have p0 := HK1.out.row.cell 0
        have p1 := HK1.out.row.cell 1
        have p2 := HK1.out.row.cell 2
        have p3 := HK1.out.row.cell 3
        have p4 := HK1.out.row.cell 4
        have p5 := HK1.out.row.cell 5
        have p6 := HK1.out.row.cell 6
        have p7 := HK1.out.row.cell 7
        have p8 := HK1.out.row.cell 8
        have p9 := HK1.out.row.cell 9
        simp only [layC, List.getElem?_toArray, List.getElem?_cons_zero, List.getElem?_cons_succ] at p0 p1 p2 p3 p4 p5 p6 p7 p8 p9
        by_cases hin : i < n3
        · have hini : (i : Int) < (n3 : Int) := by omega
          by_cases hi0 : i < 1
          · have hi0i : (i : Int) < 1 := by omega
            obtain rfl : i = 0 := by omega
            have hq0 : wS.ownsRow (nL + 1) 41 4 (.slice B3 n3 e3) qs.length (pcells qs) := HK1.out.q
            rw [hqn] at hq0
            obtain ⟨g3, c3', hB3, -⟩ := own_at hq0 hin
            injection hB3 with z1 z2 z3
            subst z1 z3
            obtain ⟨qa, qr, hqs⟩ : ∃ x r, qs = x :: r := by
              cases qs with
              | nil => simp at hqn; omega
              | cons x r => exact ⟨x, r, rfl⟩
            obtain ⟨pa, pb, pc, pd⟩ := qa
            have hx1 := hq0.cellAt 1 (by omega)
            have hx2 := hq0.cellAt 2 (by omega)
            have fz1 := hq0.frozenAt 1
            have fz2 := hq0.frozenAt 2
            rw [hqs, pcells_cons] at hx1 hx2
            simp only [List.getElem?_cons_zero, List.getElem?_cons_succ] at hx1 hx2
            have hg3 : g3 ≠ nL := fun e => by have := (hq0.lt g3 (by simp [Value.ownBlock])).1; omega
            have HQ0 : Hid (OwL w nL (layC (.slice (some ⟨g0, 0, none⟩) n0 e0) (.slice (some ⟨g1, 0, none⟩) n1 e1) (.slice (some ⟨g2, 0, none⟩) n2 e2) (.slice (some ⟨g3, 0, none⟩) n3 e3) (.slice B4 n4 e4) L) (.slice (some ⟨g0, 0, none⟩) n0 e0) (.slice (some ⟨g1, 0, none⟩) n1 e1) (.slice (some ⟨g2, 0, none⟩) n2 e2) (.slice (some ⟨g3, 0, none⟩) n3 e3) (.slice B4 n4 e4) ps vs us { L with points := qs } wS.drew) := HK1.out.call (Below.drewN (Below.refl _ _) 1)
            have hq1 : wS.drew.ownsRow (nL + 1) 41 4 (.slice (some ⟨g3, 0, none⟩) n3 e3) qs.length (pcells qs) := HQ0.out.q
            rw [hqn] at hq1
            obtain ⟨hst1, hgr1⟩ := hq1.stored 2 (.int .i64 pb)
            obtain ⟨hst2, hgr2⟩ := hst1.stored 1 (.int .i64 pc)
            have HQ2 : Hid (OwL w nL (layC (.slice (some ⟨g0, 0, none⟩) n0 e0) (.slice (some ⟨g1, 0, none⟩) n1 e1) (.slice (some ⟨g2, 0, none⟩) n2 e2) (.slice (some ⟨g3, 0, none⟩) n3 e3) (.slice B4 n4 e4) L) (.slice (some ⟨g0, 0, none⟩) n0 e0) (.slice (some ⟨g1, 0, none⟩) n1 e1) (.slice (some ⟨g2, 0, none⟩) n2 e2) (.slice (some ⟨g3, 0, none⟩) n3 e3) (.slice B4 n4 e4) ps vs us { L with points := (pa, pc, pb, pd) :: qr } ((wS.setCell ⟨g3, 2, none⟩ (.int .i64 pb)).setCell ⟨g3, 1, none⟩ (.int .i64 pc)).drew) := by
              rw [hqs, pcells_cons] at hst2
              refine HQ0.out.points (qs := (pa, pc, pb, pd) :: qr) ?_ ⟨hgr2.os.trans hgr1.os, hgr2.tape.trans hgr1.tape, hgr2.output.trans hgr1.output, Nat.le_trans hgr1.size hgr2.size, fun j hj hne => (hgr2.block j (Nat.lt_of_lt_of_le hj hgr1.size) hne).trans (hgr1.block j hj hne)⟩
              rw [show ((pa, pc, pb, pd) :: qr).length = n3 by rw [← hqn, hqs]; rfl, pcells_cons]
              exact hst2
            have hqn2 : ((pa, pc, pb, pd) :: qr).length = n3 := by rw [← hqn, hqs]; rfl
            have HQN := Lib.hid hqn2
            clear hst1 hgr1 hst2 hgr2 hq1 hqn2 hq0 HK1
            have hn31 : (0 : Int) < (n3 : Int) := by omega
            have hn30 : 0 < n3 := by omega
            go_upto_region 42 with (fail)
            go_region
            clear p0 p1 p2 p3 p4 p5 p6 p7 p8 p9
            clear hx1 hx2 fz1 fz2 HQ0 hqs
            generalize ((wS.setCell ⟨g3, 2, none⟩ (.int .i64 pb)).setCell ⟨g3, 1, none⟩ (.int .i64 pc)).drew = wT at *
            go_wp2_with fail
            go_roundw
            case rel => exact ⟨1, by omega, by go_num, (pa, pc, pb, pd) :: qr, HQN.out, HQ2.out⟩
            case measure => simp [intOf]
          · have hi0i : ¬ (i : Int) < 1 := by omega
            go_upto_region 55 with (fail)
            clear p0 p1 p2 p3 p4 p5 p6 p7 p8 p9
            have HF0 : Hid (FiSt w nL (layC (.slice (some ⟨g0, 0, none⟩) n0 e0) (.slice (some ⟨g1, 0, none⟩) n1 e1) (.slice (some ⟨g2, 0, none⟩) n2 e2) (.slice B3 n3 e3) (.slice B4 n4 e4) ({ L with points := qs })) ({ L with points := qs }) (wS)) := HK1.out.fi rfl
            have HVA0 : Hid (Vf2 ({ L with points := qs })) := vf2_points HVF.out (by omega)
            clear HVF HK1
            generalize wS = wY at *
            obtain ⟨LA, hLA⟩ : ∃ M : Lay, M = { L with points := qs } := ⟨_, rfl⟩
            have HF : Hid (FiSt w nL (layC (.slice (some ⟨g0, 0, none⟩) n0 e0) (.slice (some ⟨g1, 0, none⟩) n1 e1) (.slice (some ⟨g2, 0, none⟩) n2 e2) (.slice B3 n3 e3) (.slice B4 n4 e4) LA) LA wY) := by rw [hLA]; exact HF0.out
            have HVA : Hid (Vf2 LA) := by rw [hLA]; exact HVA0.out
            have HSC : Hid (LA.speed = ({ L with points := qs }).speed ∧ LA.mute = ({ L with points := qs }).mute ∧ LA.wait = ({ L with points := qs }).wait ∧ LA.cancel = ({ L with points := qs }).cancel ∧ LA.stay = ({ L with points := qs }).stay) := by rw [hLA]; exact ⟨rfl, rfl, rfl, rfl, rfl⟩
            clear HF0 HVA0 hLA HSC
            have p0 := HF.out.row.cell 0
            have p1 := HF.out.row.cell 1
            have p2 := HF.out.row.cell 2
            have p3 := HF.out.row.cell 3
            have p4 := HF.out.row.cell 4
            have p5 := HF.out.row.cell 5
            have p6 := HF.out.row.cell 6
            have p7 := HF.out.row.cell 7
            have p8 := HF.out.row.cell 8
            have p9 := HF.out.row.cell 9
            simp only [layC, List.getElem?_toArray, List.getElem?_cons_zero, List.getElem?_cons_succ] at p0 p1 p2 p3 p4 p5 p6 p7 p8 p9
            have hj := judged_any wY _ LA HF.out.lay HVA.out
            unfold layC at hj
            have HJ := Lib.hid hj
            clear hj
            go_wp2_with fail
            refine HJ.out.mono ?_; rintro e wZ ⟨rfl, hbZ⟩
            clear p0 p1 p2 p3 p4 p5 p6 p7 p8 p9
            have HZ : Hid (Below w.heap.size w wZ) := (HF.out.call hbZ).bel
            clear hbZ HJ HF HVA
            go_wp2_with fail
            go_ret
            exact ⟨rfl, HZ.out⟩
        · have hini : ¬ (i : Int) < (n3 : Int) := by omega
          go_upto_region 55 with (fail)
          clear p0 p1 p2 p3 p4 p5 p6 p7 p8 p9
          have HF0 : Hid (FiSt w nL (layC (.slice (some ⟨g0, 0, none⟩) n0 e0) (.slice (some ⟨g1, 0, none⟩) n1 e1) (.slice (some ⟨g2, 0, none⟩) n2 e2) (.slice B3 n3 e3) (.slice B4 n4 e4) ({ L with points := qs })) ({ L with points := qs }) (wS)) := HK1.out.fi rfl
          have HVA0 : Hid (Vf2 ({ L with points := qs })) := vf2_points HVF.out (by omega)
          clear HVF HK1
          generalize wS = wY at *
          obtain ⟨LA, hLA⟩ : ∃ M : Lay, M = { L with points := qs } := ⟨_, rfl⟩
          have HF : Hid (FiSt w nL (layC (.slice (some ⟨g0, 0, none⟩) n0 e0) (.slice (some ⟨g1, 0, none⟩) n1 e1) (.slice (some ⟨g2, 0, none⟩) n2 e2) (.slice B3 n3 e3) (.slice B4 n4 e4) LA) LA wY) := by rw [hLA]; exact HF0.out
          have HVA : Hid (Vf2 LA) := by rw [hLA]; exact HVA0.out
          have HSC : Hid (LA.speed = ({ L with points := qs }).speed ∧ LA.mute = ({ L with points := qs }).mute ∧ LA.wait = ({ L with points := qs }).wait ∧ LA.cancel = ({ L with points := qs }).cancel ∧ LA.stay = ({ L with points := qs }).stay) := by rw [hLA]; exact ⟨rfl, rfl, rfl, rfl, rfl⟩
          clear HF0 HVA0 hLA HSC
          have p0 := HF.out.row.cell 0
          have p1 := HF.out.row.cell 1
          have p2 := HF.out.row.cell 2
          have p3 := HF.out.row.cell 3
          have p4 := HF.out.row.cell 4
          have p5 := HF.out.row.cell 5
          have p6 := HF.out.row.cell 6
          have p7 := HF.out.row.cell 7
          have p8 := HF.out.row.cell 8
          have p9 := HF.out.row.cell 9
          simp only [layC, List.getElem?_toArray, List.getElem?_cons_zero, List.getElem?_cons_succ] at p0 p1 p2 p3 p4 p5 p6 p7 p8 p9
          have hj := judged_any wY _ LA HF.out.lay HVA.out
          unfold layC at hj
          have HJ := Lib.hid hj
          clear hj
          go_wp2_with fail
          refine HJ.out.mono ?_; rintro e wZ ⟨rfl, hbZ⟩
          clear p0 p1 p2 p3 p4 p5 p6 p7 p8 p9
          have HZ : Hid (Below w.heap.size w wZ) := (HF.out.call hbZ).bel
          clear hbZ HJ HF HVA
          go_wp2_with fail
          go_ret
          exact ⟨rfl, HZ.out⟩
    · as_aux_lemma =>
      have wr2 : IntKind.i64.wrap (a3.tmod 10) = a3.tmod 10 := IntWalk.i64_in _ (by have := tm_bd a3 10 (by decide); omega)
      go_upto_region 44 with (fail)
      have HQ0 : Hid (OwL w nL (layC (.slice (some ⟨g0, 0, none⟩) n0 e0) (.slice (some ⟨g1, 0, none⟩) n1 e1) (.slice (some ⟨g2, 0, none⟩) n2 e2) (.slice B3 n3 e3) (.slice B4 n4 e4) L) (.slice (some ⟨g0, 0, none⟩) n0 e0) (.slice (some ⟨g1, 0, none⟩) n1 e1) (.slice (some ⟨g2, 0, none⟩) n2 e2) (.slice B3 n3 e3) (.slice B4 n4 e4) ps vs us L wc4.drew) := HO.out.call (Below.drewN (Below.refl _ _) 1)
      obtain ⟨Ap, mp, dp, rp, d2, -, hrpm, hrpl, hrd⟩ := HQ0.out.part_at HN.out.2.2.1 p hp1
      have HRP : Hid (rp ∈ L.parts ∧ rp.length = mp ∧ Rd wc4.drew wc4.drew.heap.size (.slice Ap mp dp) (ivals rp)) := ⟨hrpm, hrpl, hrd⟩
      have hmp : mp ≤ 50 := by rw [← hrpl]; exact HFW.out.pr rp hrpm
      clear hrpm hrpl hrd
      have hpi : (p : Int) < (n2 : Int) := by omega
      have hp00 : (0 : Int) ≤ (p : Int) := Int.natCast_nonneg _
      refine AnyBut.region (fun w' => w'.cell? ⟨nL, 2, none⟩ = some (.slice (some ⟨g2, 0, none⟩) n2 e2) ∧ w'.cell? ⟨g2, p, none⟩ = some (.slice Ap mp dp)) 14 (by kernel_rfl) ?_
      change AnyBut _ _ _ _ _ _ _ _ _ wc4.drew
      clear HO
      generalize wc4.drew = wq at *
      have d1 := HQ0.out.row.cell 2
      simp only [layC, List.getElem?_toArray, List.getElem?_cons_zero, List.getElem?_cons_succ] at d1
      have hl1 := HQ0.out.lt
      have hl2 := cell_lt d2
      have hone := ivals_one' rp
      refine anybut_take 0 217 rfl rfl (by kernel_rfl) (by kernel_rfl) (by kernel_rfl) (by kernel_rfl) (by decide) (fun _ _ _ h => h) (yields_of (by rfl) (fun w9 hS => (by obtain ⟨s1, s2⟩ := hS; go_simp; try rfl))) ⟨d1, d2⟩ ?_
      simp only [Act.put, List.setIfInBounds_toArray, List.set_cons_zero, List.set_cons_succ]
      refine anybut_take 1 218 rfl rfl (by kernel_rfl) (by kernel_rfl) (by kernel_rfl) (by kernel_rfl) (by decide) (fun _ _ _ h => h) (yields_of (by rfl) (fun w9 hS => (by obtain ⟨s1, s2⟩ := hS; go_simp; try rfl))) ⟨d1, d2⟩ ?_
      simp only [Act.put, List.setIfInBounds_toArray, List.set_cons_zero, List.set_cons_succ]
      refine anybut_take 2 219 rfl rfl (by kernel_rfl) (by kernel_rfl) (by kernel_rfl) (by kernel_rfl) (by decide) (fun _ _ _ h => h) (yields_of (by rfl) (fun w9 hS => (by obtain ⟨s1, s2⟩ := hS; go_simp; try rfl))) ⟨d1, d2⟩ ?_
      simp only [Act.put, List.setIfInBounds_toArray, List.set_cons_zero, List.set_cons_succ]
      refine anybut_take 3 220 rfl rfl (by kernel_rfl) (by kernel_rfl) (by kernel_rfl) (by kernel_rfl) (by decide) (fun _ _ _ h => h) (yields_of (by rfl) (fun w9 hS => (by obtain ⟨s1, s2⟩ := hS; go_simp; try rfl))) ⟨d1, d2⟩ ?_
      simp only [Act.put, List.setIfInBounds_toArray, List.set_cons_zero, List.set_cons_succ]
      refine anybut_take 4 221 rfl rfl (by kernel_rfl) (by kernel_rfl) (by kernel_rfl) (by kernel_rfl) (by decide) (fun _ _ _ h => h) (yields_of (by rfl) (fun w9 hS => (by obtain ⟨s1, s2⟩ := hS; go_simp; try rfl))) ⟨d1, d2⟩ ?_
      simp only [Act.put, List.setIfInBounds_toArray, List.set_cons_zero, List.set_cons_succ]
      refine anybut_take 5 222 rfl rfl (by kernel_rfl) (by kernel_rfl) (by kernel_rfl) (by kernel_rfl) (by decide) (fun _ _ _ h => h) (yields_of (by rfl) (fun w9 hS => (by obtain ⟨s1, s2⟩ := hS; go_simp; try rfl))) ⟨d1, d2⟩ ?_
      simp only [Act.put, List.setIfInBounds_toArray, List.set_cons_zero, List.set_cons_succ]
      refine anybut_take 6 223 rfl rfl (by kernel_rfl) (by kernel_rfl) (by kernel_rfl) (by kernel_rfl) (by decide) (fun _ _ _ h => h) (yields_of (by rfl) (fun w9 hS => (by obtain ⟨s1, s2⟩ := hS; go_simp; try rfl))) ⟨d1, d2⟩ ?_
      simp only [Act.put, List.setIfInBounds_toArray, List.set_cons_zero, List.set_cons_succ]
      refine anybut_take 7 224 rfl rfl (by kernel_rfl) (by kernel_rfl) (by kernel_rfl) (by kernel_rfl) (by decide) (fun _ _ _ h => h) (yields_of (by rfl) (fun w9 hS => (by obtain ⟨s1, s2⟩ := hS; go_simp; try rfl))) ⟨d1, d2⟩ ?_
      simp only [Act.put, List.setIfInBounds_toArray, List.set_cons_zero, List.set_cons_succ]
      refine anybut_take 9 226 rfl rfl (by kernel_rfl) (by kernel_rfl) (by kernel_rfl) (by kernel_rfl) (by decide) (fun _ _ _ h => h) (yields_of (by rfl) (fun w9 hS => (by obtain ⟨s1, s2⟩ := hS; go_simp; try rfl))) ⟨d1, d2⟩ ?_
      simp only [Act.put, List.setIfInBounds_toArray, List.set_cons_zero, List.set_cons_succ]
      refine anybut_take 10 227 rfl rfl (by kernel_rfl) (by kernel_rfl) (by kernel_rfl) (by kernel_rfl) (by decide) (fun _ _ _ h => h) (yields_of (by rfl) (fun w9 hS => (by obtain ⟨s1, s2⟩ := hS; go_simp; try rfl))) ⟨d1, d2⟩ ?_
      simp only [Act.put, List.setIfInBounds_toArray, List.set_cons_zero, List.set_cons_succ]
      refine anybut_two 8 11 rfl rfl (by kernel_rfl) (by rfl) (by rfl) ?_ ?_
      · refine wp_app_src2 (.const (.slice none 0 0)) (.tmp 224) 42 rfl wq.heap.size 3 i3 (.int .i64 0) 1 8 Tryz.underlying42 hi3 hy0 hy1 hy2 rfl (by decide) (.slice none 0 0) 0 [] (by rfl) (World.ownsRow_nil _ _ _ _) Ap mp dp (ivals rp) (by rfl) (Sr.rd HRP.out.2.2 hone).two (by omega) (by decide) (Nat.le_refl _) ?_
        intro v7 w7 hown7 hgr7
        rw [Nat.zero_add, List.nil_append] at hown7
        have hb7 := grown_fresh hgr7
        obtain ⟨A7, c7, hv7⟩ := own_slice hown7
        subst hv7
        have u7 : w7.cell? ⟨nL, 2, none⟩ = some (.slice (some ⟨g2, 0, none⟩) n2 e2) ∧ w7.cell? ⟨g2, p, none⟩ = some (.slice Ap mp dp) := ⟨(hb7.cell (p := ⟨nL, 2, none⟩) hl1).trans d1, (hb7.cell (p := ⟨g2, p, none⟩) hl2).trans d2⟩
        obtain ⟨u1, u2⟩ := u7
        refine ⟨fun _ => ⟨u1, u2⟩, ?_⟩
        refine AnyBut.one 11 rfl (by kernel_rfl) (by rfl) ?_
        go_simp
        refine ⟨⟨cell_alloc u1, cell_alloc u2⟩, ?_⟩
        have hba := (Below.refl w7.heap.size w7).alloc (Nat.le_refl _) (.cells #[.int .i64 (a3.tmod 10)] 3)
        have hown8 := own_below hown7 hba
        have hb8 : Below wq.heap.size wq (w7.alloc (.cells #[.int .i64 (a3.tmod 10)] 3)) := hb7.trans (hba.mono hb7.size)
        have hlt : Sr (w7.alloc (.cells #[.int .i64 (a3.tmod 10)] 3)) (some ⟨w7.heap.size, 0, none⟩) 1 1 1 [.int .i64 (a3.tmod 10)] := Sr.lit w7 #[.int .i64 (a3.tmod 10)] 3 1 1 rfl (by intro u hu; simp at hu; subst hu; rfl)
        clear u1 u2 hgr7 hown7 hb7 hba
        refine AnyBut.one 12 rfl (by kernel_rfl) (by rfl) ?_
        refine wp_app_src2 (.tmp 225) (.tmp 228) 42 rfl wq.heap.size 3 i3 (.int .i64 0) 1 8 Tryz.underlying42 hi3 hy0 hy1 hy2 rfl (by decide) (.slice A7 mp c7) mp (ivals rp) (by rfl) hown8 (some ⟨w7.heap.size, 0, none⟩) 1 1 [.int .i64 (a3.tmod 10)] (by rfl) hlt.two (by omega) (by decide) hb8.size ?_
        intro v9 w9 hown9 hgr9
        have hb9 := grown_above hb8 hown8 (Nat.le_refl _) hgr9
        clear hgr9 hown8 hb8 hlt
        have u9 : w9.cell? ⟨nL, 2, none⟩ = some (.slice (some ⟨g2, 0, none⟩) n2 e2) ∧ w9.cell? ⟨g2, p, none⟩ = some (.slice Ap mp dp) := ⟨(hb9.cell (p := ⟨nL, 2, none⟩) hl1).trans d1, (hb9.cell (p := ⟨g2, p, none⟩) hl2).trans d2⟩
        obtain ⟨v1, v2⟩ := u9
        obtain ⟨A9, c9, hv9⟩ := own_slice hown9
        subst hv9
        have HO9 := Lib.hid (HQ0.out.call hb9)
        have HP3 : Hid (OwL w nL (layC (.slice (some ⟨g0, 0, none⟩) n0 e0) (.slice (some ⟨g1, 0, none⟩) n1 e1) (.slice (some ⟨g2, 0, none⟩) n2 e2) (.slice B3 n3 e3) (.slice B4 n4 e4) L) (.slice (some ⟨g0, 0, none⟩) n0 e0) (.slice (some ⟨g1, 0, none⟩) n1 e1) (.slice (some ⟨g2, 0, none⟩) n2 e2) (.slice B3 n3 e3) (.slice B4 n4 e4) ps (vs.set p (.slice A9 (mp + 1) c9)) us { L with parts := L.parts.set p (rp ++ [a3.tmod 10]) } (w9.setCell ⟨g2, p, none⟩ (.slice A9 (mp + 1) c9))) := by
          refine HO9.out.part_put HN.out.2.2.1 p (Or.inr ?_)
          rw [List.length_append, HRP.out.2.1, show ivals (rp ++ [a3.tmod 10]) = ivals rp ++ [.int .i64 (a3.tmod 10)] by simp [ivals]]
          exact own_base hown9 HQ0.out.lt
        obtain ⟨-, -, -, -, -, fz, -, -, -⟩ := HO9.out.part_at HN.out.2.2.1 p hp1
        refine ⟨fun _ => ⟨v1, v2⟩, ?_⟩
        clear hown9 hb9
        refine AnyBut.one 13 rfl (by kernel_rfl) (by rfl) ?_
        go_simp
        refine AnyBut.one 14 rfl (by kernel_rfl) (by rfl) ?_
        go_simp
        refine AnyBut.done (by kernel_rfl) ?_
        clear v1 v2 fz d1 d2 HO9
        go_upto_region 55 with (fail)
        have HRL := Lib.hid (show (rp ++ [a3.tmod 10]).length ≤ 100 by rw [List.length_append, HRP.out.2.1]; simp only [List.length_cons, List.length_nil]; omega)
        have HF0 : Hid (FiSt w nL (layC (.slice (some ⟨g0, 0, none⟩) n0 e0) (.slice (some ⟨g1, 0, none⟩) n1 e1) (.slice (some ⟨g2, 0, none⟩) n2 e2) (.slice B3 n3 e3) (.slice B4 n4 e4) ({ L with parts := L.parts.set p (rp ++ [a3.tmod 10]) })) ({ L with parts := L.parts.set p (rp ++ [a3.tmod 10]) }) (w9.setCell ⟨g2, p, none⟩ (.slice A9 (mp + 1) c9))) := HP3.out.fi rfl
        have HVA0 : Hid (Vf2 ({ L with parts := L.parts.set p (rp ++ [a3.tmod 10]) })) := vf2_parts HVF.out (by rw [List.length_set]; have := HN.out.2.2.1; omega) (fun r hr => (List.mem_or_eq_of_mem_set hr).elim (HVF.out.v.f.r r) (fun h => by rw [h]; exact HRL.out))
        clear HVF HP3 HQ0
        generalize w9.setCell ⟨g2, p, none⟩ (.slice A9 (mp + 1) c9) = wY at *
        obtain ⟨LA, hLA⟩ : ∃ M : Lay, M = { L with parts := L.parts.set p (rp ++ [a3.tmod 10]) } := ⟨_, rfl⟩
        have HF : Hid (FiSt w nL (layC (.slice (some ⟨g0, 0, none⟩) n0 e0) (.slice (some ⟨g1, 0, none⟩) n1 e1) (.slice (some ⟨g2, 0, none⟩) n2 e2) (.slice B3 n3 e3) (.slice B4 n4 e4) LA) LA wY) := by rw [hLA]; exact HF0.out
        have HVA : Hid (Vf2 LA) := by rw [hLA]; exact HVA0.out
        have HSC : Hid (LA.speed = ({ L with parts := L.parts.set p (rp ++ [a3.tmod 10]) }).speed ∧ LA.mute = ({ L with parts := L.parts.set p (rp ++ [a3.tmod 10]) }).mute ∧ LA.wait = ({ L with parts := L.parts.set p (rp ++ [a3.tmod 10]) }).wait ∧ LA.cancel = ({ L with parts := L.parts.set p (rp ++ [a3.tmod 10]) }).cancel ∧ LA.stay = ({ L with parts := L.parts.set p (rp ++ [a3.tmod 10]) }).stay) := by rw [hLA]; exact ⟨rfl, rfl, rfl, rfl, rfl⟩
        clear HF0 HVA0 hLA HSC
        have p0 := HF.out.row.cell 0
        have p1 := HF.out.row.cell 1
        have p2 := HF.out.row.cell 2
        have p3 := HF.out.row.cell 3
        have p4 := HF.out.row.cell 4
        have p5 := HF.out.row.cell 5
        have p6 := HF.out.row.cell 6
        have p7 := HF.out.row.cell 7
        have p8 := HF.out.row.cell 8
        have p9 := HF.out.row.cell 9
        simp only [layC, List.getElem?_toArray, List.getElem?_cons_zero, List.getElem?_cons_succ] at p0 p1 p2 p3 p4 p5 p6 p7 p8 p9
        have hj := judged_any wY _ LA HF.out.lay HVA.out
        unfold layC at hj
        have HJ := Lib.hid hj
        clear hj
        go_wp2_with fail
        refine HJ.out.mono ?_; rintro e wZ ⟨rfl, hbZ⟩
        clear p0 p1 p2 p3 p4 p5 p6 p7 p8 p9
        have HZ : Hid (Below w.heap.size w wZ) := (HF.out.call hbZ).bel
        clear hbZ HJ HF HVA
        go_wp2_with fail
        go_ret
        exact ⟨rfl, HZ.out⟩
      · go_simp
        have hba := (Below.refl wq.heap.size wq).alloc (Nat.le_refl _) (.cells #[.int .i64 (a3.tmod 10)] 3)
        have hrd7 := HRP.out.2.2.up hba
        have hlt0 : Sr (wq.alloc (.cells #[.int .i64 (a3.tmod 10)] 3)) (some ⟨wq.heap.size, 0, none⟩) 1 1 1 [.int .i64 (a3.tmod 10)] := Sr.lit wq #[.int .i64 (a3.tmod 10)] 3 1 1 rfl (by intro u hu; simp at hu; subst hu; rfl)
        refine AnyBut.one 8 rfl (by kernel_rfl) (by rfl) ?_
        refine wp_app_src2 (.const (.slice none 0 0)) (.tmp 224) 42 rfl (wq.alloc (.cells #[.int .i64 (a3.tmod 10)] 3)).heap.size 3 i3 (.int .i64 0) 1 8 Tryz.underlying42 hi3 hy0 hy1 hy2 rfl (by decide) (.slice none 0 0) 0 [] (by rfl) (World.ownsRow_nil _ _ _ _) Ap mp dp (ivals rp) (by rfl) (Sr.rd hrd7 hone).two (by omega) (by decide) (Nat.le_refl _) ?_
        intro v7 w7 hown7 hgr7
        rw [Nat.zero_add, List.nil_append] at hown7
        have hb7 := grown_fresh hgr7
        have hb8 : Below wq.heap.size wq w7 := hba.trans (hb7.mono hba.size)
        have hown8 := own_base hown7 hba.size
        obtain ⟨A7, c7, hv7⟩ := own_slice hown7
        subst hv7
        have hlt : Sr2 w7 (some ⟨wq.heap.size, 0, none⟩) 1 1 [.int .i64 (a3.tmod 10)] := ⟨rfl, (fun e => by cases e), fun _ => by
          obtain ⟨ad, e, hc⟩ := hlt0.at_ (by decide)
          exact ⟨ad, e, fun j u hu => by
            have hj : j < 1 := by have := (List.getElem?_eq_some_iff.1 hu).1; simpa using this
            injection e with e
            subst e
            have hj0 : j = 0 := by omega
            subst hj0
            have h1 := hc 0 u hu
            rw [← h1]
            exact hb7.cell (by simp [Addr.add])⟩, hlt0.one⟩
        have u7 : w7.cell? ⟨nL, 2, none⟩ = some (.slice (some ⟨g2, 0, none⟩) n2 e2) ∧ w7.cell? ⟨g2, p, none⟩ = some (.slice Ap mp dp) := ⟨(hb8.cell (p := ⟨nL, 2, none⟩) hl1).trans d1, (hb8.cell (p := ⟨g2, p, none⟩) hl2).trans d2⟩
        refine ⟨fun _ => u7, ?_⟩
        clear hgr7 hown7 hb7 hba hrd7 hlt0 u7
        refine AnyBut.one 12 rfl (by kernel_rfl) (by rfl) ?_
        refine wp_app_src2 (.tmp 225) (.tmp 228) 42 rfl wq.heap.size 3 i3 (.int .i64 0) 1 8 Tryz.underlying42 hi3 hy0 hy1 hy2 rfl (by decide) (.slice A7 mp c7) mp (ivals rp) (by rfl) hown8 (some ⟨wq.heap.size, 0, none⟩) 1 1 [.int .i64 (a3.tmod 10)] (by rfl) hlt (by omega) (by decide) hb8.size ?_
        intro v9 w9 hown9 hgr9
        have hb9 := grown_above hb8 hown8 (Nat.le_refl _) hgr9
        clear hgr9 hown8 hb8 hlt
        have u9 : w9.cell? ⟨nL, 2, none⟩ = some (.slice (some ⟨g2, 0, none⟩) n2 e2) ∧ w9.cell? ⟨g2, p, none⟩ = some (.slice Ap mp dp) := ⟨(hb9.cell (p := ⟨nL, 2, none⟩) hl1).trans d1, (hb9.cell (p := ⟨g2, p, none⟩) hl2).trans d2⟩
        obtain ⟨v1, v2⟩ := u9
        obtain ⟨A9, c9, hv9⟩ := own_slice hown9
        subst hv9
        have HO9 := Lib.hid (HQ0.out.call hb9)
        have HP3 : Hid (OwL w nL (layC (.slice (some ⟨g0, 0, none⟩) n0 e0) (.slice (some ⟨g1, 0, none⟩) n1 e1) (.slice (some ⟨g2, 0, none⟩) n2 e2) (.slice B3 n3 e3) (.slice B4 n4 e4) L) (.slice (some ⟨g0, 0, none⟩) n0 e0) (.slice (some ⟨g1, 0, none⟩) n1 e1) (.slice (some ⟨g2, 0, none⟩) n2 e2) (.slice B3 n3 e3) (.slice B4 n4 e4) ps (vs.set p (.slice A9 (mp + 1) c9)) us { L with parts := L.parts.set p (rp ++ [a3.tmod 10]) } (w9.setCell ⟨g2, p, none⟩ (.slice A9 (mp + 1) c9))) := by
          refine HO9.out.part_put HN.out.2.2.1 p (Or.inr ?_)
          rw [List.length_append, HRP.out.2.1, show ivals (rp ++ [a3.tmod 10]) = ivals rp ++ [.int .i64 (a3.tmod 10)] by simp [ivals]]
          exact own_base hown9 HQ0.out.lt
        obtain ⟨-, -, -, -, -, fz, -, -, -⟩ := HO9.out.part_at HN.out.2.2.1 p hp1
        refine ⟨fun _ => ⟨v1, v2⟩, ?_⟩
        clear hown9 hb9
        refine AnyBut.one 13 rfl (by kernel_rfl) (by rfl) ?_
        go_simp
        refine AnyBut.one 14 rfl (by kernel_rfl) (by rfl) ?_
        go_simp
        refine AnyBut.done (by kernel_rfl) ?_
        clear v1 v2 fz d1 d2 HO9
        go_upto_region 55 with (fail)
        have HRL := Lib.hid (show (rp ++ [a3.tmod 10]).length ≤ 100 by rw [List.length_append, HRP.out.2.1]; simp only [List.length_cons, List.length_nil]; omega)
        have HF0 : Hid (FiSt w nL (layC (.slice (some ⟨g0, 0, none⟩) n0 e0) (.slice (some ⟨g1, 0, none⟩) n1 e1) (.slice (some ⟨g2, 0, none⟩) n2 e2) (.slice B3 n3 e3) (.slice B4 n4 e4) ({ L with parts := L.parts.set p (rp ++ [a3.tmod 10]) })) ({ L with parts := L.parts.set p (rp ++ [a3.tmod 10]) }) (w9.setCell ⟨g2, p, none⟩ (.slice A9 (mp + 1) c9))) := HP3.out.fi rfl
        have HVA0 : Hid (Vf2 ({ L with parts := L.parts.set p (rp ++ [a3.tmod 10]) })) := vf2_parts HVF.out (by rw [List.length_set]; have := HN.out.2.2.1; omega) (fun r hr => (List.mem_or_eq_of_mem_set hr).elim (HVF.out.v.f.r r) (fun h => by rw [h]; exact HRL.out))
        clear HVF HP3 HQ0
        generalize w9.setCell ⟨g2, p, none⟩ (.slice A9 (mp + 1) c9) = wY at *
        obtain ⟨LA, hLA⟩ : ∃ M : Lay, M = { L with parts := L.parts.set p (rp ++ [a3.tmod 10]) } := ⟨_, rfl⟩
        have HF : Hid (FiSt w nL (layC (.slice (some ⟨g0, 0, none⟩) n0 e0) (.slice (some ⟨g1, 0, none⟩) n1 e1) (.slice (some ⟨g2, 0, none⟩) n2 e2) (.slice B3 n3 e3) (.slice B4 n4 e4) LA) LA wY) := by rw [hLA]; exact HF0.out
        have HVA : Hid (Vf2 LA) := by rw [hLA]; exact HVA0.out
        have HSC : Hid (LA.speed = ({ L with parts := L.parts.set p (rp ++ [a3.tmod 10]) }).speed ∧ LA.mute = ({ L with parts := L.parts.set p (rp ++ [a3.tmod 10]) }).mute ∧ LA.wait = ({ L with parts := L.parts.set p (rp ++ [a3.tmod 10]) }).wait ∧ LA.cancel = ({ L with parts := L.parts.set p (rp ++ [a3.tmod 10]) }).cancel ∧ LA.stay = ({ L with parts := L.parts.set p (rp ++ [a3.tmod 10]) }).stay) := by rw [hLA]; exact ⟨rfl, rfl, rfl, rfl, rfl⟩
        clear HF0 HVA0 hLA HSC
        have p0 := HF.out.row.cell 0
        have p1 := HF.out.row.cell 1
        have p2 := HF.out.row.cell 2
        have p3 := HF.out.row.cell 3
        have p4 := HF.out.row.cell 4
        have p5 := HF.out.row.cell 5
        have p6 := HF.out.row.cell 6
        have p7 := HF.out.row.cell 7
        have p8 := HF.out.row.cell 8
        have p9 := HF.out.row.cell 9
        simp only [layC, List.getElem?_toArray, List.getElem?_cons_zero, List.getElem?_cons_succ] at p0 p1 p2 p3 p4 p5 p6 p7 p8 p9
        have hj := judged_any wY _ LA HF.out.lay HVA.out
        unfold layC at hj
        have HJ := Lib.hid hj
        clear hj
        go_wp2_with fail
        refine HJ.out.mono ?_; rintro e wZ ⟨rfl, hbZ⟩
        clear p0 p1 p2 p3 p4 p5 p6 p7 p8 p9
        have HZ : Hid (Below w.heap.size w wZ) := (HF.out.call hbZ).bel
        clear hbZ HJ HF HVA
        go_wp2_with fail
        go_ret
        exact ⟨rfl, HZ.out⟩
    · as_aux_lemma =>
      obtain ⟨Ap, mp, dp, rp, hcp, fz, -, -, -⟩ := HO.out.part_at HN.out.2.2.1 p hp1
      have hpi : (p : Int) < (n2 : Int) := by omega
      have hp00 : (0 : Int) ≤ (p : Int) := Int.natCast_nonneg _
      have p0 := HO.out.row.cell 0
      have p1 := HO.out.row.cell 1
      have p2 := HO.out.row.cell 2
      have p3 := HO.out.row.cell 3
      have p4 := HO.out.row.cell 4
      have p5 := HO.out.row.cell 5
      have p6 := HO.out.row.cell 6
      have p7 := HO.out.row.cell 7
      have p8 := HO.out.row.cell 8
      have p9 := HO.out.row.cell 9
      simp only [layC, List.getElem?_toArray, List.getElem?_cons_zero, List.getElem?_cons_succ] at p0 p1 p2 p3 p4 p5 p6 p7 p8 p9
      go_upto_region 55 with (fail)
      clear fz hcp
      clear p0 p1 p2 p3 p4 p5 p6 p7 p8 p9
      have HO3 := Lib.hid (HO.out.part_put HN.out.2.2.1 p (v := .slice none 0 0) (r := []) (Or.inl (Rd.empty _ _)))
      have HF0 : Hid (FiSt w nL (layC (.slice (some ⟨g0, 0, none⟩) n0 e0) (.slice (some ⟨g1, 0, none⟩) n1 e1) (.slice (some ⟨g2, 0, none⟩) n2 e2) (.slice B3 n3 e3) (.slice B4 n4 e4) ({ L with parts := L.parts.set p [] })) ({ L with parts := L.parts.set p [] }) (wc4.setCell ⟨g2, p, none⟩ (.slice none 0 0))) := HO3.out.fi rfl
      have HVA0 : Hid (Vf2 ({ L with parts := L.parts.set p [] })) := vf2_parts HVF.out (by rw [List.length_set]; have := HN.out.2.2.1; omega) (fun r hr => (List.mem_or_eq_of_mem_set hr).elim (HVF.out.v.f.r r) (fun h => by rw [h]; simp))
      clear HVF HO3 HO
      generalize wc4.setCell ⟨g2, p, none⟩ (.slice none 0 0) = wY at *
      obtain ⟨LA, hLA⟩ : ∃ M : Lay, M = { L with parts := L.parts.set p [] } := ⟨_, rfl⟩
      have HF : Hid (FiSt w nL (layC (.slice (some ⟨g0, 0, none⟩) n0 e0) (.slice (some ⟨g1, 0, none⟩) n1 e1) (.slice (some ⟨g2, 0, none⟩) n2 e2) (.slice B3 n3 e3) (.slice B4 n4 e4) LA) LA wY) := by rw [hLA]; exact HF0.out
      have HVA : Hid (Vf2 LA) := by rw [hLA]; exact HVA0.out
      have HSC : Hid (LA.speed = ({ L with parts := L.parts.set p [] }).speed ∧ LA.mute = ({ L with parts := L.parts.set p [] }).mute ∧ LA.wait = ({ L with parts := L.parts.set p [] }).wait ∧ LA.cancel = ({ L with parts := L.parts.set p [] }).cancel ∧ LA.stay = ({ L with parts := L.parts.set p [] }).stay) := by rw [hLA]; exact ⟨rfl, rfl, rfl, rfl, rfl⟩
      clear HF0 HVA0 hLA HSC
      have p0 := HF.out.row.cell 0
      have p1 := HF.out.row.cell 1
      have p2 := HF.out.row.cell 2
      have p3 := HF.out.row.cell 3
      have p4 := HF.out.row.cell 4
      have p5 := HF.out.row.cell 5
      have p6 := HF.out.row.cell 6
      have p7 := HF.out.row.cell 7
      have p8 := HF.out.row.cell 8
      have p9 := HF.out.row.cell 9
      simp only [layC, List.getElem?_toArray, List.getElem?_cons_zero, List.getElem?_cons_succ] at p0 p1 p2 p3 p4 p5 p6 p7 p8 p9
      have hj := judged_any wY _ LA HF.out.lay HVA.out
      unfold layC at hj
      have HJ := Lib.hid hj
      clear hj
      go_wp2_with fail
      refine HJ.out.mono ?_; rintro e wZ ⟨rfl, hbZ⟩
      clear p0 p1 p2 p3 p4 p5 p6 p7 p8 p9
      have HZ : Hid (Below w.heap.size w wZ) := (HF.out.call hbZ).bel
      clear hbZ HJ HF HVA
      go_wp2_with fail
      go_ret
      exact ⟨rfl, HZ.out⟩
    · as_aux_lemma =>
      have hpe : n2 ≤ e2 := by
        have h := HO.out.p
        rw [HN.out.2.2.1] at h; exact own_room h
      have hpe1 : p ≤ e2 := by omega
      have hpe2 : (p : Int) ≤ (e2 : Int) := by omega
      have hp00 : (0 : Int) ≤ (p : Int) := Int.natCast_nonneg _
      have fz := HO.out.row.frozen 2
      have p0 := HO.out.row.cell 0
      have p1 := HO.out.row.cell 1
      have p2 := HO.out.row.cell 2
      have p3 := HO.out.row.cell 3
      have p4 := HO.out.row.cell 4
      have p5 := HO.out.row.cell 5
      have p6 := HO.out.row.cell 6
      have p7 := HO.out.row.cell 7
      have p8 := HO.out.row.cell 8
      have p9 := HO.out.row.cell 9
      simp only [layC, List.getElem?_toArray, List.getElem?_cons_zero, List.getElem?_cons_succ] at p0 p1 p2 p3 p4 p5 p6 p7 p8 p9
      go_upto_region 55 with (fail)
      clear fz
      clear p0 p1 p2 p3 p4 p5 p6 p7 p8 p9
      have HD3 : Hid (FiSt w nL (layC (.slice (some ⟨g0, 0, none⟩) n0 e0) (.slice (some ⟨g1, 0, none⟩) n1 e1) (.slice (some ⟨g2, 0, none⟩) p e2) (.slice B3 n3 e3) (.slice B4 n4 e4) { L with parts := L.parts.take p }) { L with parts := L.parts.take p } (wc4.setCell ⟨nL, 2, none⟩ (.slice (some ⟨g2, 0, none⟩) p e2))) := by
        have h := HO.out.put 2 (.slice (some ⟨g2, 0, none⟩) p e2)
        have hd := h.data
        exact ⟨h.bel, h.row, _, _, _, _, _, ps, rfl, ⟨hd.n, hd.f, hd.s, hd.p.take p (by have := HN.out.2.2.1; omega), hd.q, hd.r⟩⟩
      have HF0 : Hid (FiSt w nL (layC (.slice (some ⟨g0, 0, none⟩) n0 e0) (.slice (some ⟨g1, 0, none⟩) n1 e1) (.slice (some ⟨g2, 0, none⟩) p e2) (.slice B3 n3 e3) (.slice B4 n4 e4) ({ L with parts := L.parts.take p })) ({ L with parts := L.parts.take p }) (wc4.setCell ⟨nL, 2, none⟩ (.slice (some ⟨g2, 0, none⟩) p e2))) := HD3.out
      have HVA0 : Hid (Vf2 ({ L with parts := L.parts.take p })) := vf2_parts HVF.out (by rw [List.length_take]; have := HN.out.2.2.1; omega) (fun r hr => HVF.out.v.f.r r (List.mem_of_mem_take hr))
      clear HVF HD3 HO
      generalize wc4.setCell ⟨nL, 2, none⟩ (.slice (some ⟨g2, 0, none⟩) p e2) = wY at *
      obtain ⟨LA, hLA⟩ : ∃ M : Lay, M = { L with parts := L.parts.take p } := ⟨_, rfl⟩
      have HF : Hid (FiSt w nL (layC (.slice (some ⟨g0, 0, none⟩) n0 e0) (.slice (some ⟨g1, 0, none⟩) n1 e1) (.slice (some ⟨g2, 0, none⟩) p e2) (.slice B3 n3 e3) (.slice B4 n4 e4) LA) LA wY) := by rw [hLA]; exact HF0.out
      have HVA : Hid (Vf2 LA) := by rw [hLA]; exact HVA0.out
      have HSC : Hid (LA.speed = ({ L with parts := L.parts.take p }).speed ∧ LA.mute = ({ L with parts := L.parts.take p }).mute ∧ LA.wait = ({ L with parts := L.parts.take p }).wait ∧ LA.cancel = ({ L with parts := L.parts.take p }).cancel ∧ LA.stay = ({ L with parts := L.parts.take p }).stay) := by rw [hLA]; exact ⟨rfl, rfl, rfl, rfl, rfl⟩
      clear HF0 HVA0 hLA HSC
      have p0 := HF.out.row.cell 0
      have p1 := HF.out.row.cell 1
      have p2 := HF.out.row.cell 2
      have p3 := HF.out.row.cell 3
      have p4 := HF.out.row.cell 4
      have p5 := HF.out.row.cell 5
      have p6 := HF.out.row.cell 6
      have p7 := HF.out.row.cell 7
      have p8 := HF.out.row.cell 8
      have p9 := HF.out.row.cell 9
      simp only [layC, List.getElem?_toArray, List.getElem?_cons_zero, List.getElem?_cons_succ] at p0 p1 p2 p3 p4 p5 p6 p7 p8 p9
      have hj := judged_any wY _ LA HF.out.lay HVA.out
      unfold layC at hj
      have HJ := Lib.hid hj
      clear hj
      go_wp2_with fail
      refine HJ.out.mono ?_; rintro e wZ ⟨rfl, hbZ⟩
      clear p0 p1 p2 p3 p4 p5 p6 p7 p8 p9
      have HZ : Hid (Below w.heap.size w wZ) := (HF.out.call hbZ).bel
      clear hbZ HJ HF HVA
      go_wp2_with fail
      go_ret
      exact ⟨rfl, HZ.out⟩
    · as_aux_lemma =>
      obtain ⟨a7, ha7⟩ : ∃ x, x = nat % 7 := ⟨_, rfl⟩
      have f8 : ((nat : Int)).tmod 7 = (a7 : Int) := by rw [ha7, Int.tmod_eq_emod_of_nonneg (by omega)]; omega
      have f8e : (nat : Int) % 7 = (a7 : Int) := by omega
      have w88 : IntKind.u8.wrap (a7 : Int) = (a7 : Int) := IntWalk.u8_in _ (by omega)
      have w648 : IntKind.i64.wrap (a7 : Int) = (a7 : Int) := IntWalk.i64_in _ (by omega)
      clear ha7
      have wr2 : IntKind.i64.wrap (a3.tmod 10) = a3.tmod 10 := IntWalk.i64_in _ (by have := tm_bd a3 10 (by decide); omega)
      have HX : Hid ((wc4.alloc (.cells #[.int .i64 ((s : Int)), .int .i64 (a3.tmod 10), .int .i64 ((a7 : Int))] 3)).ownsRow (nL + 1) 3 1 (.slice (some ⟨wc4.heap.size, 0, none⟩) 3 3) 3 (ivals [(s : Int), a3.tmod 10, (a7 : Int)])) := World.ownsRow_lit wc4 #[.int .i64 ((s : Int)), .int .i64 (a3.tmod 10), .int .i64 ((a7 : Int))] 3 (by have := HO.out.lt; omega) (by decide) rfl
      have HO1 := Lib.hid (HO.out.call ((Below.refl wc4.heap.size wc4).alloc (Nat.le_refl _) (.cells #[.int .i64 ((s : Int)), .int .i64 (a3.tmod 10), .int .i64 ((a7 : Int))] 3)))
      have HO2 := Lib.hid (HO1.out.call ((Below.refl (wc4.alloc (.cells #[.int .i64 ((s : Int)), .int .i64 (a3.tmod 10), .int .i64 ((a7 : Int))] 3)).heap.size (wc4.alloc (.cells #[.int .i64 ((s : Int)), .int .i64 (a3.tmod 10), .int .i64 ((a7 : Int))] 3))).alloc (Nat.le_refl _) (.cells #[.slice (some ⟨wc4.heap.size, 0, none⟩) 3 3] 42)))
      have HX2 := Lib.hid (HX.out.alloc (.cells #[.slice (some ⟨wc4.heap.size, 0, none⟩) 3 3] 42))
      have HLT : Hid (Sr ((wc4.alloc (.cells #[.int .i64 ((s : Int)), .int .i64 (a3.tmod 10), .int .i64 ((a7 : Int))] 3)).alloc (.cells #[.slice (some ⟨wc4.heap.size, 0, none⟩) 3 3] 42)) (some ⟨(wc4.alloc (.cells #[.int .i64 ((s : Int)), .int .i64 (a3.tmod 10), .int .i64 ((a7 : Int))] 3)).heap.size, 0, none⟩) 1 1 1 [.slice (some ⟨wc4.heap.size, 0, none⟩) 3 3]) := Sr.lit _ #[.slice (some ⟨wc4.heap.size, 0, none⟩) 3 3] 42 1 1 rfl (by intro u hu; simp at hu; subst hu; rfl)
      rw [show (wc4.alloc (.cells #[.int .i64 ((s : Int)), .int .i64 (a3.tmod 10), .int .i64 ((a7 : Int))] 3)).heap.size = wc4.heap.size + 1 by simp] at HLT
      have HR2 : Hid (((wc4.alloc (.cells #[.int .i64 ((s : Int)), .int .i64 (a3.tmod 10), .int .i64 ((a7 : Int))] 3)).alloc (.cells #[.slice (some ⟨wc4.heap.size, 0, none⟩) 3 3] 42)).ownsRow (nL + 1) 42 1 (.slice B4 n4 e4) n4 us) := by
        have h := HO2.out.r
        rw [HN.out.2.2.2.2] at h; exact h
      have hsz2 : nL + 1 ≤ ((wc4.alloc (.cells #[.int .i64 ((s : Int)), .int .i64 (a3.tmod 10), .int .i64 ((a7 : Int))] 3)).alloc (.cells #[.slice (some ⟨wc4.heap.size, 0, none⟩) 3 3] 42)).heap.size := HO2.out.lt
      have p0 := HO.out.row.cell 0
      have p1 := HO.out.row.cell 1
      have p2 := HO.out.row.cell 2
      have p3 := HO.out.row.cell 3
      have p4 := HO.out.row.cell 4
      have p5 := HO.out.row.cell 5
      have p6 := HO.out.row.cell 6
      have p7 := HO.out.row.cell 7
      have p8 := HO.out.row.cell 8
      have p9 := HO.out.row.cell 9
      simp only [layC, List.getElem?_toArray, List.getElem?_cons_zero, List.getElem?_cons_succ] at p0 p1 p2 p3 p4 p5 p6 p7 p8 p9
      go_wp2_with (at_builtin; refine wpList_app_src rfl (.tmp 247) (.tmp 255) 30 rfl (nL + 1) 42 i42 (.slice none 0 0) 1 24 Tryz.underlying30 hi42 hv0 hv1 hv2 rfl (by decide) (.slice B4 n4 e4) n4 us rfl HR2.out (some ⟨wc4.heap.size + 1, 0, none⟩) 1 1 [.slice (some ⟨wc4.heap.size, 0, none⟩) 3 3] rfl HLT.out (by omega) (by decide) hsz2 ?_)
      intro v9 w9 hown9 hgr9 hl9
      clear p0 p1 p2 p3 p4 p5 p6 p7 p8 p9
      obtain ⟨A9, c9, hv9⟩ := own_slice hown9
      subst hv9
      have HO3 : Hid (OwL w nL (layC (.slice (some ⟨g0, 0, none⟩) n0 e0) (.slice (some ⟨g1, 0, none⟩) n1 e1) (.slice (some ⟨g2, 0, none⟩) n2 e2) (.slice B3 n3 e3) (.slice B4 n4 e4) L) (.slice (some ⟨g0, 0, none⟩) n0 e0) (.slice (some ⟨g1, 0, none⟩) n1 e1) (.slice (some ⟨g2, 0, none⟩) n2 e2) (.slice B3 n3 e3) (.slice A9 (n4 + 1) c9) ps vs (us ++ [.slice (some ⟨wc4.heap.size, 0, none⟩) 3 3]) { L with routes := L.routes ++ [[(s : Int), a3.tmod 10, (a7 : Int)]] } w9) :=
        HO2.out.routes (by rw [List.length_append, HN.out.2.2.2.2]; exact hown9) (HO2.out.rr.snoc (Or.inr HX2.out)) hgr9 (ap_of (W := (wc4.alloc (.cells #[.int .i64 ((s : Int)), .int .i64 (a3.tmod 10), .int .i64 ((a7 : Int))] 3))) (o := .cells #[.slice (some ⟨wc4.heap.size, 0, none⟩) 3 3] 42) HO1.out.p HO.out.ap (by simpa using hl9))
      have q0 := HO3.out.row.cell 4
      simp only [layC, List.getElem?_toArray, List.getElem?_cons_zero, List.getElem?_cons_succ] at q0
      have fz := HO3.out.row.frozen 4
      clear hown9 hgr9 hl9 HO1 HO2 HX HX2 HR2 HLT hsz2 HO
      go_upto_region 55 with (fail)
      clear q0 fz
      have HF0 : Hid (FiSt w nL (layC (.slice (some ⟨g0, 0, none⟩) n0 e0) (.slice (some ⟨g1, 0, none⟩) n1 e1) (.slice (some ⟨g2, 0, none⟩) n2 e2) (.slice B3 n3 e3) (.slice A9 (n4 + 1) c9) ({ L with routes := L.routes ++ [[(s : Int), a3.tmod 10, (a7 : Int)]] })) ({ L with routes := L.routes ++ [[(s : Int), a3.tmod 10, (a7 : Int)]] }) (w9.setCell ⟨nL, 4, none⟩ (.slice A9 (n4 + 1) c9))) := (HO3.out.put 4 (.slice A9 (n4 + 1) c9)).fi rfl
      have HVA0 : Hid (Vf2 ({ L with routes := L.routes ++ [[(s : Int), a3.tmod 10, (a7 : Int)]] })) := vf2_routes HVF.out (by rw [List.length_append]; simp only [List.length_cons, List.length_nil]; have := HN.out.2.2.2.2; omega) (fun r hr => (List.mem_append.1 hr).elim (HVF.out.r r) (fun h => by rw [List.mem_singleton.1 h]; simp))
      clear HVF HO3
      generalize w9.setCell ⟨nL, 4, none⟩ (.slice A9 (n4 + 1) c9) = wY at *
      obtain ⟨LA, hLA⟩ : ∃ M : Lay, M = { L with routes := L.routes ++ [[(s : Int), a3.tmod 10, (a7 : Int)]] } := ⟨_, rfl⟩
      have HF : Hid (FiSt w nL (layC (.slice (some ⟨g0, 0, none⟩) n0 e0) (.slice (some ⟨g1, 0, none⟩) n1 e1) (.slice (some ⟨g2, 0, none⟩) n2 e2) (.slice B3 n3 e3) (.slice A9 (n4 + 1) c9) LA) LA wY) := by rw [hLA]; exact HF0.out
      have HVA : Hid (Vf2 LA) := by rw [hLA]; exact HVA0.out
      have HSC : Hid (LA.speed = ({ L with routes := L.routes ++ [[(s : Int), a3.tmod 10, (a7 : Int)]] }).speed ∧ LA.mute = ({ L with routes := L.routes ++ [[(s : Int), a3.tmod 10, (a7 : Int)]] }).mute ∧ LA.wait = ({ L with routes := L.routes ++ [[(s : Int), a3.tmod 10, (a7 : Int)]] }).wait ∧ LA.cancel = ({ L with routes := L.routes ++ [[(s : Int), a3.tmod 10, (a7 : Int)]] }).cancel ∧ LA.stay = ({ L with routes := L.routes ++ [[(s : Int), a3.tmod 10, (a7 : Int)]] }).stay) := by rw [hLA]; exact ⟨rfl, rfl, rfl, rfl, rfl⟩
      clear HF0 HVA0 hLA HSC
      have p0 := HF.out.row.cell 0
      have p1 := HF.out.row.cell 1
      have p2 := HF.out.row.cell 2
      have p3 := HF.out.row.cell 3
      have p4 := HF.out.row.cell 4
      have p5 := HF.out.row.cell 5
      have p6 := HF.out.row.cell 6
      have p7 := HF.out.row.cell 7
      have p8 := HF.out.row.cell 8
      have p9 := HF.out.row.cell 9
      simp only [layC, List.getElem?_toArray, List.getElem?_cons_zero, List.getElem?_cons_succ] at p0 p1 p2 p3 p4 p5 p6 p7 p8 p9
      have hj := judged_any wY _ LA HF.out.lay HVA.out
      unfold layC at hj
      have HJ := Lib.hid hj
      clear hj
      go_wp2_with fail
      refine HJ.out.mono ?_; rintro e wZ ⟨rfl, hbZ⟩
      clear p0 p1 p2 p3 p4 p5 p6 p7 p8 p9
      have HZ : Hid (Below w.heap.size w wZ) := (HF.out.call hbZ).bel
      clear hbZ HJ HF HVA
      go_wp2_with fail
      go_ret
      exact ⟨rfl, HZ.out⟩
    · as_aux_lemma =>
      have HX : Hid ((wc4.alloc (.cells #[.int .i64 ((s : Int))] 3)).ownsRow (nL + 1) 3 1 (.slice (some ⟨wc4.heap.size, 0, none⟩) 1 1) 1 (ivals [(s : Int)])) := World.ownsRow_lit wc4 #[.int .i64 ((s : Int))] 1 (by have := HO.out.lt; omega) (by decide) rfl
      have HO1 := Lib.hid (HO.out.call ((Below.refl wc4.heap.size wc4).alloc (Nat.le_refl _) (.cells #[.int .i64 ((s : Int))] 3)))
      have HO2 := Lib.hid (HO1.out.call ((Below.refl (wc4.alloc (.cells #[.int .i64 ((s : Int))] 3)).heap.size (wc4.alloc (.cells #[.int .i64 ((s : Int))] 3))).alloc (Nat.le_refl _) (.cells #[.slice (some ⟨wc4.heap.size, 0, none⟩) 1 1] 42)))
      have HX2 := Lib.hid (HX.out.alloc (.cells #[.slice (some ⟨wc4.heap.size, 0, none⟩) 1 1] 42))
      have HLT : Hid (Sr ((wc4.alloc (.cells #[.int .i64 ((s : Int))] 3)).alloc (.cells #[.slice (some ⟨wc4.heap.size, 0, none⟩) 1 1] 42)) (some ⟨(wc4.alloc (.cells #[.int .i64 ((s : Int))] 3)).heap.size, 0, none⟩) 1 1 1 [.slice (some ⟨wc4.heap.size, 0, none⟩) 1 1]) := Sr.lit _ #[.slice (some ⟨wc4.heap.size, 0, none⟩) 1 1] 42 1 1 rfl (by intro u hu; simp at hu; subst hu; rfl)
      rw [show (wc4.alloc (.cells #[.int .i64 ((s : Int))] 3)).heap.size = wc4.heap.size + 1 by simp] at HLT
      have HR2 : Hid (((wc4.alloc (.cells #[.int .i64 ((s : Int))] 3)).alloc (.cells #[.slice (some ⟨wc4.heap.size, 0, none⟩) 1 1] 42)).ownsRow (nL + 1) 42 1 (.slice B4 n4 e4) n4 us) := by
        have h := HO2.out.r
        rw [HN.out.2.2.2.2] at h; exact h
      have hsz2 : nL + 1 ≤ ((wc4.alloc (.cells #[.int .i64 ((s : Int))] 3)).alloc (.cells #[.slice (some ⟨wc4.heap.size, 0, none⟩) 1 1] 42)).heap.size := HO2.out.lt
      have p0 := HO.out.row.cell 0
      have p1 := HO.out.row.cell 1
      have p2 := HO.out.row.cell 2
      have p3 := HO.out.row.cell 3
      have p4 := HO.out.row.cell 4
      have p5 := HO.out.row.cell 5
      have p6 := HO.out.row.cell 6
      have p7 := HO.out.row.cell 7
      have p8 := HO.out.row.cell 8
      have p9 := HO.out.row.cell 9
      simp only [layC, List.getElem?_toArray, List.getElem?_cons_zero, List.getElem?_cons_succ] at p0 p1 p2 p3 p4 p5 p6 p7 p8 p9
      go_wp2_with (at_builtin; refine wpList_app_src rfl (.tmp 261) (.tmp 264) 30 rfl (nL + 1) 42 i42 (.slice none 0 0) 1 24 Tryz.underlying30 hi42 hv0 hv1 hv2 rfl (by decide) (.slice B4 n4 e4) n4 us rfl HR2.out (some ⟨wc4.heap.size + 1, 0, none⟩) 1 1 [.slice (some ⟨wc4.heap.size, 0, none⟩) 1 1] rfl HLT.out (by omega) (by decide) hsz2 ?_)
      intro v9 w9 hown9 hgr9 hl9
      clear p0 p1 p2 p3 p4 p5 p6 p7 p8 p9
      obtain ⟨A9, c9, hv9⟩ := own_slice hown9
      subst hv9
      have HO3 : Hid (OwL w nL (layC (.slice (some ⟨g0, 0, none⟩) n0 e0) (.slice (some ⟨g1, 0, none⟩) n1 e1) (.slice (some ⟨g2, 0, none⟩) n2 e2) (.slice B3 n3 e3) (.slice B4 n4 e4) L) (.slice (some ⟨g0, 0, none⟩) n0 e0) (.slice (some ⟨g1, 0, none⟩) n1 e1) (.slice (some ⟨g2, 0, none⟩) n2 e2) (.slice B3 n3 e3) (.slice A9 (n4 + 1) c9) ps vs (us ++ [.slice (some ⟨wc4.heap.size, 0, none⟩) 1 1]) { L with routes := L.routes ++ [[(s : Int)]] } w9) :=
        HO2.out.routes (by rw [List.length_append, HN.out.2.2.2.2]; exact hown9) (HO2.out.rr.snoc (Or.inr HX2.out)) hgr9 (ap_of (W := (wc4.alloc (.cells #[.int .i64 ((s : Int))] 3))) (o := .cells #[.slice (some ⟨wc4.heap.size, 0, none⟩) 1 1] 42) HO1.out.p HO.out.ap (by simpa using hl9))
      have q0 := HO3.out.row.cell 4
      simp only [layC, List.getElem?_toArray, List.getElem?_cons_zero, List.getElem?_cons_succ] at q0
      have fz := HO3.out.row.frozen 4
      clear hown9 hgr9 hl9 HO1 HO2 HX HX2 HR2 HLT hsz2 HO
      go_upto_region 55 with (fail)
      clear q0 fz
      have HF0 : Hid (FiSt w nL (layC (.slice (some ⟨g0, 0, none⟩) n0 e0) (.slice (some ⟨g1, 0, none⟩) n1 e1) (.slice (some ⟨g2, 0, none⟩) n2 e2) (.slice B3 n3 e3) (.slice A9 (n4 + 1) c9) ({ L with routes := L.routes ++ [[(s : Int)]] })) ({ L with routes := L.routes ++ [[(s : Int)]] }) (w9.setCell ⟨nL, 4, none⟩ (.slice A9 (n4 + 1) c9))) := (HO3.out.put 4 (.slice A9 (n4 + 1) c9)).fi rfl
      have HVA0 : Hid (Vf2 ({ L with routes := L.routes ++ [[(s : Int)]] })) := vf2_routes HVF.out (by rw [List.length_append]; simp only [List.length_cons, List.length_nil]; have := HN.out.2.2.2.2; omega) (fun r hr => (List.mem_append.1 hr).elim (HVF.out.r r) (fun h => by rw [List.mem_singleton.1 h]; simp))
      clear HVF HO3
      generalize w9.setCell ⟨nL, 4, none⟩ (.slice A9 (n4 + 1) c9) = wY at *
      obtain ⟨LA, hLA⟩ : ∃ M : Lay, M = { L with routes := L.routes ++ [[(s : Int)]] } := ⟨_, rfl⟩
      have HF : Hid (FiSt w nL (layC (.slice (some ⟨g0, 0, none⟩) n0 e0) (.slice (some ⟨g1, 0, none⟩) n1 e1) (.slice (some ⟨g2, 0, none⟩) n2 e2) (.slice B3 n3 e3) (.slice A9 (n4 + 1) c9) LA) LA wY) := by rw [hLA]; exact HF0.out
      have HVA : Hid (Vf2 LA) := by rw [hLA]; exact HVA0.out
      have HSC : Hid (LA.speed = ({ L with routes := L.routes ++ [[(s : Int)]] }).speed ∧ LA.mute = ({ L with routes := L.routes ++ [[(s : Int)]] }).mute ∧ LA.wait = ({ L with routes := L.routes ++ [[(s : Int)]] }).wait ∧ LA.cancel = ({ L with routes := L.routes ++ [[(s : Int)]] }).cancel ∧ LA.stay = ({ L with routes := L.routes ++ [[(s : Int)]] }).stay) := by rw [hLA]; exact ⟨rfl, rfl, rfl, rfl, rfl⟩
      clear HF0 HVA0 hLA HSC
      have p0 := HF.out.row.cell 0
      have p1 := HF.out.row.cell 1
      have p2 := HF.out.row.cell 2
      have p3 := HF.out.row.cell 3
      have p4 := HF.out.row.cell 4
      have p5 := HF.out.row.cell 5
      have p6 := HF.out.row.cell 6
      have p7 := HF.out.row.cell 7
      have p8 := HF.out.row.cell 8
      have p9 := HF.out.row.cell 9
      simp only [layC, List.getElem?_toArray, List.getElem?_cons_zero, List.getElem?_cons_succ] at p0 p1 p2 p3 p4 p5 p6 p7 p8 p9
      have hj := judged_any wY _ LA HF.out.lay HVA.out
      unfold layC at hj
      have HJ := Lib.hid hj
      clear hj
      go_wp2_with fail
      refine HJ.out.mono ?_; rintro e wZ ⟨rfl, hbZ⟩
      clear p0 p1 p2 p3 p4 p5 p6 p7 p8 p9
      have HZ : Hid (Below w.heap.size w wZ) := (HF.out.call hbZ).bel
      clear hbZ HJ HF HVA
      go_wp2_with fail
      go_ret
      exact ⟨rfl, HZ.out⟩
    · as_aux_lemma =>
      have p0 := HO.out.row.cell 0
      have p1 := HO.out.row.cell 1
      have p2 := HO.out.row.cell 2
      have p3 := HO.out.row.cell 3
      have p4 := HO.out.row.cell 4
      have p5 := HO.out.row.cell 5
      have p6 := HO.out.row.cell 6
      have p7 := HO.out.row.cell 7
      have p8 := HO.out.row.cell 8
      have p9 := HO.out.row.cell 9
      simp only [layC, List.getElem?_toArray, List.getElem?_cons_zero, List.getElem?_cons_succ] at p0 p1 p2 p3 p4 p5 p6 p7 p8 p9
      have fz := HO.out.row.frozen 7
      go_upto_region 55 with (fail)
      clear fz
      clear p0 p1 p2 p3 p4 p5 p6 p7 p8 p9
      have HF0 : Hid (FiSt w nL (layC (.slice (some ⟨g0, 0, none⟩) n0 e0) (.slice (some ⟨g1, 0, none⟩) n1 e1) (.slice (some ⟨g2, 0, none⟩) n2 e2) (.slice B3 n3 e3) (.slice B4 n4 e4) ({ L with speed := L.speed, mute := L.mute, wait := a3, cancel := L.cancel, stay := L.stay })) ({ L with speed := L.speed, mute := L.mute, wait := a3, cancel := L.cancel, stay := L.stay }) (wc4.setCell ⟨nL, 7, none⟩ (.int .i64 (a3)))) := ((HO.out.put 7 (.int .i64 (a3))).sc (L.speed) (L.mute) (a3) (L.cancel) (L.stay)).fi rfl
      have HVA0 : Hid (Vf2 ({ L with speed := L.speed, mute := L.mute, wait := a3, cancel := L.cancel, stay := L.stay })) := vf2_sc HVF.out (L.speed) (L.mute) (a3) (L.cancel) (L.stay)
      clear HO HVF
      generalize wc4.setCell ⟨nL, 7, none⟩ (.int .i64 (a3)) = wY at *
      obtain ⟨LA, hLA⟩ : ∃ M : Lay, M = { L with speed := L.speed, mute := L.mute, wait := a3, cancel := L.cancel, stay := L.stay } := ⟨_, rfl⟩
      have HF : Hid (FiSt w nL (layC (.slice (some ⟨g0, 0, none⟩) n0 e0) (.slice (some ⟨g1, 0, none⟩) n1 e1) (.slice (some ⟨g2, 0, none⟩) n2 e2) (.slice B3 n3 e3) (.slice B4 n4 e4) LA) LA wY) := by rw [hLA]; exact HF0.out
      have HVA : Hid (Vf2 LA) := by rw [hLA]; exact HVA0.out
      have HSC : Hid (LA.speed = ({ L with speed := L.speed, mute := L.mute, wait := a3, cancel := L.cancel, stay := L.stay }).speed ∧ LA.mute = ({ L with speed := L.speed, mute := L.mute, wait := a3, cancel := L.cancel, stay := L.stay }).mute ∧ LA.wait = ({ L with speed := L.speed, mute := L.mute, wait := a3, cancel := L.cancel, stay := L.stay }).wait ∧ LA.cancel = ({ L with speed := L.speed, mute := L.mute, wait := a3, cancel := L.cancel, stay := L.stay }).cancel ∧ LA.stay = ({ L with speed := L.speed, mute := L.mute, wait := a3, cancel := L.cancel, stay := L.stay }).stay) := by rw [hLA]; exact ⟨rfl, rfl, rfl, rfl, rfl⟩
      clear HF0 HVA0 hLA HSC
      have p0 := HF.out.row.cell 0
      have p1 := HF.out.row.cell 1
      have p2 := HF.out.row.cell 2
      have p3 := HF.out.row.cell 3
      have p4 := HF.out.row.cell 4
      have p5 := HF.out.row.cell 5
      have p6 := HF.out.row.cell 6
      have p7 := HF.out.row.cell 7
      have p8 := HF.out.row.cell 8
      have p9 := HF.out.row.cell 9
      simp only [layC, List.getElem?_toArray, List.getElem?_cons_zero, List.getElem?_cons_succ] at p0 p1 p2 p3 p4 p5 p6 p7 p8 p9
      have hj := judged_any wY _ LA HF.out.lay HVA.out
      unfold layC at hj
      have HJ := Lib.hid hj
      clear hj
      go_wp2_with fail
      refine HJ.out.mono ?_; rintro e wZ ⟨rfl, hbZ⟩
      clear p0 p1 p2 p3 p4 p5 p6 p7 p8 p9
      have HZ : Hid (Below w.heap.size w wZ) := (HF.out.call hbZ).bel
      clear hbZ HJ HF HVA
      go_wp2_with fail
      go_ret
      exact ⟨rfl, HZ.out⟩
    · as_aux_lemma =>
      have wr2 : IntKind.i64.wrap (a3.tmod 60) = a3.tmod 60 := IntWalk.i64_in _ (by have := tm_bd a3 60 (by decide); omega)
      obtain ⟨fb, hfb⟩ : ∃ b, floatOfInt .f64 (a3.tmod 60) = b := ⟨_, rfl⟩
      have HFB : Hid (Fl 0 fb (a3.tmod 60)) := by rw [← hfb]; exact fl_ofInt _ (by have := tm_bd a3 60 (by decide); omega)
      go_upto_region 13 with (fail)
      have HQ0 : Hid (OwL w nL (layC (.slice (some ⟨g0, 0, none⟩) n0 e0) (.slice (some ⟨g1, 0, none⟩) n1 e1) (.slice (some ⟨g2, 0, none⟩) n2 e2) (.slice B3 n3 e3) (.slice B4 n4 e4) L) (.slice (some ⟨g0, 0, none⟩) n0 e0) (.slice (some ⟨g1, 0, none⟩) n1 e1) (.slice (some ⟨g2, 0, none⟩) n2 e2) (.slice B3 n3 e3) (.slice B4 n4 e4) ps vs us L wc4.drew) := HO.out.call (Below.drewN (Below.refl _ _) 1)
      refine wp_region_still_tail 21 (by kernel_rfl) (by kernel_rfl) ?_
      change wpStill _ _ wc4.drew (fun a' => wpList _ _ _ _ a' wc4.drew) _ _
      clear HO
      generalize wc4.drew = wq at *
      obtain ⟨x, y, zx, zy, hcn, fz, hfx, hfy, hbx, hby⟩ := HQ0.out.node HN.out.1 HFW.out.z k hk1
      obtain ⟨r9, hr9, hf9⟩ := fl_add (by omega) hfy HFB.out (by have := tm_bd a3 60 (by decide); omega)
      have hadd : ∀ t w, (binOp .add t (.float .f64 y) (.float .f64 fb)).run Tryz.prog w = .ok (.float .f64 r9) w := fun t w => run_float_arith w .add t .f64 y fb r9 hr9
      have HQ1 := Lib.hid (HQ0.out.node_put HN.out.1 k (z := (zx, zy + a3.tmod 60)) hfx hf9)
      have hki : (k : Int) < (n0 : Int) := by omega
      have hk00 : (0 : Int) ≤ (k : Int) := Int.natCast_nonneg _
      have hn00 : (0 : Int) < (n0 : Int) := by omega
      have hn000 : 0 < n0 := by omega
      have p0 := HQ0.out.row.cell 0
      have p1 := HQ0.out.row.cell 1
      have p2 := HQ0.out.row.cell 2
      have p3 := HQ0.out.row.cell 3
      have p4 := HQ0.out.row.cell 4
      have p5 := HQ0.out.row.cell 5
      have p6 := HQ0.out.row.cell 6
      have p7 := HQ0.out.row.cell 7
      have p8 := HQ0.out.row.cell 8
      have p9 := HQ0.out.row.cell 9
      simp only [layC, List.getElem?_toArray, List.getElem?_cons_zero, List.getElem?_cons_succ] at p0 p1 p2 p3 p4 p5 p6 p7 p8 p9
      simp only [List.take_succ_cons, List.take_zero, List.drop_succ_cons, List.drop_zero]
      repeat still_step
      refine wpStill_nil ?_
      have hsc := store_complex
      go_upto_region 55 with (fail)
      clear fz hcn hfx hfy hbx hby hsc
      clear p0 p1 p2 p3 p4 p5 p6 p7 p8 p9
      have HF0 : Hid (FiSt w nL (layC (.slice (some ⟨g0, 0, none⟩) n0 e0) (.slice (some ⟨g1, 0, none⟩) n1 e1) (.slice (some ⟨g2, 0, none⟩) n2 e2) (.slice B3 n3 e3) (.slice B4 n4 e4) ({ L with nodes := L.nodes.set k (zx, zy + a3.tmod 60) })) ({ L with nodes := L.nodes.set k (zx, zy + a3.tmod 60) }) (wq.setCell ⟨g0, k, none⟩ (.complex .f64 x r9))) := HQ1.out.fi rfl
      have HVA0 : Hid (Vf2 ({ L with nodes := L.nodes.set k (zx, zy + a3.tmod 60) })) := vf2_nodes HVF.out (by rw [List.length_set]; have := HN.out.1; omega)
      clear HQ0 HVF HQ1
      generalize wq.setCell ⟨g0, k, none⟩ (.complex .f64 x r9) = wY at *
      obtain ⟨LA, hLA⟩ : ∃ M : Lay, M = { L with nodes := L.nodes.set k (zx, zy + a3.tmod 60) } := ⟨_, rfl⟩
      have HF : Hid (FiSt w nL (layC (.slice (some ⟨g0, 0, none⟩) n0 e0) (.slice (some ⟨g1, 0, none⟩) n1 e1) (.slice (some ⟨g2, 0, none⟩) n2 e2) (.slice B3 n3 e3) (.slice B4 n4 e4) LA) LA wY) := by rw [hLA]; exact HF0.out
      have HVA : Hid (Vf2 LA) := by rw [hLA]; exact HVA0.out
      have HSC : Hid (LA.speed = ({ L with nodes := L.nodes.set k (zx, zy + a3.tmod 60) }).speed ∧ LA.mute = ({ L with nodes := L.nodes.set k (zx, zy + a3.tmod 60) }).mute ∧ LA.wait = ({ L with nodes := L.nodes.set k (zx, zy + a3.tmod 60) }).wait ∧ LA.cancel = ({ L with nodes := L.nodes.set k (zx, zy + a3.tmod 60) }).cancel ∧ LA.stay = ({ L with nodes := L.nodes.set k (zx, zy + a3.tmod 60) }).stay) := by rw [hLA]; exact ⟨rfl, rfl, rfl, rfl, rfl⟩
      clear HF0 HVA0 hLA HSC
      have p0 := HF.out.row.cell 0
      have p1 := HF.out.row.cell 1
      have p2 := HF.out.row.cell 2
      have p3 := HF.out.row.cell 3
      have p4 := HF.out.row.cell 4
      have p5 := HF.out.row.cell 5
      have p6 := HF.out.row.cell 6
      have p7 := HF.out.row.cell 7
      have p8 := HF.out.row.cell 8
      have p9 := HF.out.row.cell 9
      simp only [layC, List.getElem?_toArray, List.getElem?_cons_zero, List.getElem?_cons_succ] at p0 p1 p2 p3 p4 p5 p6 p7 p8 p9
      have hj := judged_any wY _ LA HF.out.lay HVA.out
      unfold layC at hj
      have HJ := Lib.hid hj
      clear hj
      go_wp2_with fail
      refine HJ.out.mono ?_; rintro e wZ ⟨rfl, hbZ⟩
      clear p0 p1 p2 p3 p4 p5 p6 p7 p8 p9
      have HZ : Hid (Below w.heap.size w wZ) := (HF.out.call hbZ).bel
      clear hbZ HJ HF HVA
      go_wp2_with fail
      go_ret
      exact ⟨rfl, HZ.out⟩

theorem lifted (os : Os) (started : os.Started) (H : Type) (enc : TypeId × Value → H) :
    ReturnsInHanded {} Tryz.checked os 4 .any (Rows.verifyOneSpec.pre6 enc Tryz.prog Tryz.f4 Rows.verifyOneRow.domain false) (Rows.verifyOneSpec.post enc Tryz.prog Tryz.f4 false true false false) := by
  refine returnsInHanded_of_change (C := Tryz.checked) own started (by kernel_rfl) Tryz.func4
    (ChangeSpec.witness6 (enc := enc) (C := Tryz.checked) false ⟨#[], #[.agg #[.int .u8 0, .int .u8 0, .int .u8 0, .int .u16 0, .int .u16 0, .int .u8 0, .int .u8 0, .int .u8 0, .slice none 0 0], .int .u8 0, .int .u8 0, .int .i64 0], []⟩ 8 (by kernel_rfl) (by kernel_rfl) (by kernel_rfl) (by kernel_rfl)) ?_
  intro W base args ds gs before hval0 hW hcnd _
  have hval : ∀ (j : Nat) t v, Tryz.f4.params[j]? = some t → args[j]? = some v → Value.okWide Tryz.prog W .any base t v := hval0
  have hW' := hW
  obtain ⟨p, q, hA0, hV, rfl, hfz, hnd⟩ := hW
  have hA : DataW.TrodAll enc Tryz.prog W 0 (fun _ => true) true Tryz.f4.params.toList args.toList ds p := hA0
  rw [Tryz.params4] at hA hval
  obtain ⟨v0, vs0, d0, ds0, p0, q0, hargs, rfl, rfl, h0, r0⟩ := trodAll_cons hA
  obtain ⟨v1, vs1, d1, ds1, p1, q1, rfl, rfl, rfl, h1, r1⟩ := trodAll_cons r0
  obtain ⟨v2, vs2, d2, ds2, p2, q2, rfl, rfl, rfl, h2, r2⟩ := trodAll_cons r1
  obtain ⟨v3, vs3, d3, ds3, p3, q3, rfl, rfl, rfl, h3, r3⟩ := trodAll_cons r2
  obtain ⟨rfl, rfl, rfl⟩ := trodAll_nil r3
  obtain rfl : args = #[v0, v1, v2, v3] := by cases args; simp_all
  obtain ⟨rfl, rfl⟩ := trodVars_none hV
  have k0 := h0
  have lt0 : ∀ x ∈ p0, x.block < W.heap.size := by obtain ⟨m, hm⟩ := k0; exact DataW.trod_lt m _ _ _ hm
  obtain ⟨e0, vr0, hv0, w0⟩ := draft_of_trod (hval 0 25 v0 rfl rfl) h0
  subst hv0
  obtain ⟨a1, rfl, rfl, rfl, w1⟩ := open_int Tryz.underlying5 (hval 1 5 v1 rfl rfl) h1
  obtain ⟨a2, rfl, rfl, rfl, w2⟩ := open_int Tryz.underlying5 (hval 2 5 v2 rfl rfl) h2
  obtain ⟨a3, rfl, rfl, rfl, w3⟩ := open_int Tryz.underlying3 (hval 3 3 v3 rfl rfl) h3
  clear hA0 hval0
  refine (walk e0 vr0 a1 a2 a3 W w0 w1 w2 w3).mono fun e W' ⟨he, bel⟩ => ?_
  subst he
  exact ⟨_, rfl, _, _, _, [], _, [], hW', trodAll_mk1 (shut_bool Tryz.underlying4 _), (trodAll_cons_mk (Below.trod laidOut (by kernel_rfl) (of_decide_eq_true (by kernel_rfl)) k0 bel lt0) (trodAll_cons_mk (shut_int Tryz.underlying5 w1) (trodAll_cons_mk (shut_int Tryz.underlying5 w2) (trodAll_cons_mk (shut_int Tryz.underlying3 w3) trodAll_mk0)))), rfl, bel.frame _, fun h => by cases h⟩

theorem over : Rows.verifyOneRow.holds Tryz.pinned (OpenSpec.ofChange Rows.verifyOneSpec) :=
  OpenClaim.holds_of_wide 4 Tryz.f4 rfl rfl rfl rfl rfl rfl rfl ⟨rfl, rfl, rfl, rfl, rfl⟩ rfl rfl rfl rfl rfl (by kernel_rfl) Tryz.func4 (by kernel_rfl)
    (of_decide_eq_true (by kernel_rfl)) (by unfold Func.isWrapper; first | (rw [if_pos (by decide +kernel)]; kernel_rfl) | (rw [if_neg (by decide +kernel)]; exact ⟨rfl, rfl⟩))
    (fun os started H enc _ => lifted os started H enc)

theorem proved : Rows.VerifyOneSaid := over
#print axioms proved
end Go.Proofs.YtagkgejdammflaaGreat.verifyOne
