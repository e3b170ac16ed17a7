/-
  PROVED: for every input the law VerifyMany returns true and leaves its arguments as they were: as many nodes, sections, parts, points, routes as may be, and one more: the program judges as the document does. No condition.
-/
import Derived.Test.YtagkgejdammflaaGreatRows
import Derived.Test.YtagkgejdammflaaGreatV40
import Derived.WalkKit
import Derived.ProofKit
import Derived.OpenShut
import Derived.ShutString
import Derived.ChangeOld
import Derived.Below
namespace Go.Proofs.YtagkgejdammflaaGreat.verifyMany
open Go.ChangeShapes Go.WideShapes Go.ChangeAt Go.RowKit
open Go.ChangeMaps (open_string shut_string)
open Fl Go.Deep
set_option linter.unusedVariables false
set_option maxRecDepth 100000

theorem own : ownKnob Tryz.prog.godebug = none := by kernel_rfl
theorem laidOut : laidOutB Tryz.prog = true := by kernel_rfl

set_option maxHeartbeats 8000000 in
theorem walk (a0 : Int) (a1 : Int) (w : World) (w0 : (Lit.int .u8 a0).wf = true) (w1 : (Lit.int .u8 a1).wf = true) :
    Calls Tryz.prog 5 #[.int .u8 a0, .int .u8 a1] w fun e w' => e = .returned (.bool true) ∧ Below w.heap.size w w' := by
  obtain ⟨wh, hwh, hwh2⟩ := u8_nat w0
  subst hwh
  obtain ⟨nk, hnk, hnk2⟩ := u8_nat w1
  subst hnk
  clear w0 w1
  obtain ⟨k, hk⟩ : ∃ x, x = nk % 45 := ⟨_, rfl⟩
  obtain ⟨m3, hm3⟩ : ∃ x, x = wh % 3 := ⟨_, rfl⟩
  obtain ⟨m2, hm2⟩ : ∃ x, x = wh % 2 := ⟨_, rfl⟩
  have hk45 : k < 45 := by omega
  have h3 : m3 = 0 ∨ m3 = 1 ∨ m3 = 2 := by omega
  have fk : ((nk : Int)).tmod 45 = (k : Int) := by rw [hk, Int.tmod_eq_emod_of_nonneg (by omega)]; omega
  have f3 : ((wh : Int)).tmod 3 = (m3 : Int) := by rw [hm3, Int.tmod_eq_emod_of_nonneg (by omega)]; omega
  have f2 : ((wh : Int)).tmod 2 = (m2 : Int) := by rw [hm2, Int.tmod_eq_emod_of_nonneg (by omega)]; omega
  have fke : (nk : Int) % 45 = (k : Int) := by omega
  have f3e : (wh : Int) % 3 = (m3 : Int) := by omega
  have f2e : (wh : Int) % 2 = (m2 : Int) := by omega
  have w8k : IntKind.u8.wrap (k : Int) = (k : Int) := IntWalk.u8_in _ (by omega)
  have w83 : IntKind.u8.wrap (m3 : Int) = (m3 : Int) := IntWalk.u8_in _ (by omega)
  have w82 : IntKind.u8.wrap (m2 : Int) = (m2 : Int) := IntWalk.u8_in _ (by omega)
  have w64k : IntKind.i64.wrap (k : Int) = (k : Int) := IntWalk.i64_in _ (by omega)
  have hm22 : m2 < 2 := by omega
  clear hk hm3 hm2
  have HVF : Hid (Vf (makeL d00)) := d00_vf
  have HR0 : Hid ((makeL d00).routes = []) := by show Hid (_ = _); exact (by decide +kernel : (makeL d00).routes = [])
  go_enter Tryz.func5, Tryz.ntmps5
  go_wp2_with fail
  refine (nothing_any _).mono ?_; rintro e wA ⟨rfl, hbA⟩
  have HA := Lib.hid hbA
  clear hbA
  go_wp2_with fail
  refine (make00 wA).mono ?_; rintro e wB ⟨vN, vS, vP, vQ, rfl, hF, hbB⟩
  have HB := Lib.hid (HA.out.trans (hbB.mono HA.out.size))
  obtain ⟨ps, hd⟩ := hF.dt
  clear hbB hF HA
  generalize makeL d00 = L at *
  obtain ⟨⟨A0, c0, rfl⟩, ⟨A1, c1, rfl⟩, ⟨A2, c2, rfl⟩, ⟨A3, c3, rfl⟩, -⟩ := hd.slices
  obtain ⟨n0, hn0⟩ : ∃ n, L.nodes.length = n := ⟨_, rfl⟩
  obtain ⟨n1, hn1⟩ : ∃ n, L.secs.length = n := ⟨_, rfl⟩
  obtain ⟨n2, hn2⟩ : ∃ n, L.parts.length = n := ⟨_, rfl⟩
  obtain ⟨n3, hn3⟩ : ∃ n, L.points.length = n := ⟨_, rfl⟩
  rw [hn0, hn1, hn2, hn3] at hd ⊢
  clear hn0 hn1 hn2 hn3
  have hb2 := (Below.refl wB.heap.size wB).alloc (Nat.le_refl _) (.cells #[.slice A0 n0 c0, .slice A1 n1 c1, .slice A2 n2 c2, .slice A3 n3 c3, .slice none 0 0, .int .i64 L.speed, .int .i64 L.mute, .int .i64 L.wait, .int .i64 L.cancel, .int .i64 L.stay] 33)
  have HE0 : Hid (ESt w wB.heap.size (.slice A0 n0 c0) (.slice A1 n1 c1) (.slice A2 n2 c2) (.slice A3 n3 c3) (.slice none 0 0) L (wB.alloc (.cells #[.slice A0 n0 c0, .slice A1 n1 c1, .slice A2 n2 c2, .slice A3 n3 c3, .slice none 0 0, .int .i64 L.speed, .int .i64 L.mute, .int .i64 L.wait, .int .i64 L.cancel, .int .i64 L.stay] 33))) := ESt.of (D := wB.heap.size) (HB.out.trans (hb2.mono HB.out.size)) (Row.new wB 33 #[.slice A0 n0 c0, .slice A1 n1 c1, .slice A2 n2 c2, .slice A3 n3 c3, .slice none 0 0, .int .i64 L.speed, .int .i64 L.mute, .int .i64 L.wait, .int .i64 L.cancel, .int .i64 L.stay]) (hd.mono (Nat.le_refl _) (fun _ hp => hb2.cell hp)) (Nat.le_refl _) HB.out.size
  have HDT0 : Hid (LayData (wB.alloc (.cells #[.slice A0 n0 c0, .slice A1 n1 c1, .slice A2 n2 c2, .slice A3 n3 c3, .slice none 0 0, .int .i64 L.speed, .int .i64 L.mute, .int .i64 L.wait, .int .i64 L.cancel, .int .i64 L.stay] 33)) wB.heap.size (.slice A0 n0 c0) (.slice A1 n1 c1) (.slice A2 n2 c2) (.slice A3 n3 c3) (.slice none 0 0) ps L) := hd.mono (Nat.le_refl _) (fun _ hp => hb2.cell hp)
  clear hb2 HB hd
  go_upto_region 5 with (fail)
  obtain ⟨nL, hnL⟩ : ∃ n, n = wB.heap.size := ⟨_, rfl⟩
  have HE : Hid (ESt w nL (.slice A0 n0 c0) (.slice A1 n1 c1) (.slice A2 n2 c2) (.slice A3 n3 c3) (.slice none 0 0) L (wB.alloc (.cells #[.slice A0 n0 c0, .slice A1 n1 c1, .slice A2 n2 c2, .slice A3 n3 c3, .slice none 0 0, .int .i64 L.speed, .int .i64 L.mute, .int .i64 L.wait, .int .i64 L.cancel, .int .i64 L.stay] 33))) := by rw [hnL]; exact HE0.out
  have HDT : Hid (LayData (wB.alloc (.cells #[.slice A0 n0 c0, .slice A1 n1 c1, .slice A2 n2 c2, .slice A3 n3 c3, .slice none 0 0, .int .i64 L.speed, .int .i64 L.mute, .int .i64 L.wait, .int .i64 L.cancel, .int .i64 L.stay] 33)) nL (.slice A0 n0 c0) (.slice A1 n1 c1) (.slice A2 n2 c2) (.slice A3 n3 c3) (.slice none 0 0) ps L) := by rw [hnL]; exact HDT0.out
  rw [← hnL]
  clear hnL HE0 HDT0
  generalize wB.alloc (.cells #[.slice A0 n0 c0, .slice A1 n1 c1, .slice A2 n2 c2, .slice A3 n3 c3, .slice none 0 0, .int .i64 L.speed, .int .i64 L.mute, .int .i64 L.wait, .int .i64 L.cancel, .int .i64 L.stay] 33) = wD at *
  rcases h3 with rfl | rfl | rfl
  · have p0 := HE.out.row.cell 0
    have p1 := HE.out.row.cell 1
    have p2 := HE.out.row.cell 2
    have p3 := HE.out.row.cell 3
    have p4 := HE.out.row.cell 4
    have p5 := HE.out.row.cell 5
    have p6 := HE.out.row.cell 6
    have p7 := HE.out.row.cell 7
    have p8 := HE.out.row.cell 8
    have p9 := HE.out.row.cell 9
    simp only [layC, List.getElem?_toArray, List.getElem?_cons_zero, List.getElem?_cons_succ] at p0 p1 p2 p3 p4 p5 p6 p7 p8 p9
    have r0 := HE.out.row.frozen 0
    have r1 := HE.out.row.frozen 1
    have r2 := HE.out.row.frozen 2
    have r3 := HE.out.row.frozen 3
    have r4 := HE.out.row.frozen 4
    have r5 := HE.out.row.frozen 5
    have r6 := HE.out.row.frozen 6
    have r7 := HE.out.row.frozen 7
    have r8 := HE.out.row.frozen 8
    have r9 := HE.out.row.frozen 9
    go_upto_region 14 with (fail)
    obtain ⟨hrow, hbel, -⟩ := put10 (by have h := HE.out.row; unfold layC at h; exact h) (.slice none 0 0) (.slice none 0 0) (.slice none 0 0) (.slice none 0 0) (.slice none 0 0) (.int .i64 1) (.int .i64 1) (.int .i64 1) (.int .i64 1) (.int .i64 0)
    have HM : Hid (∀ W, Row W nL 33 (manyC (.slice none 0 0) (.slice none 0 0) (.slice none 0 0)) → Below nL wD W → MSt w nL (manyC (.slice none 0 0) (.slice none 0 0) (.slice none 0 0)) (.slice none 0 0) (.slice none 0 0) (.slice none 0 0) (psM 0) [] (mkM (nodesM 0) (secsM 0) (partsM (decide (m2 = 1)) 0)) W) := fun W hr hb =>
      ⟨OwL.none (HE.out.bel.trans (hb.mono HE.out.le)) HE.out.le hr _ rfl rfl rfl rfl rfl, fun i h1 => absurd h1 (by simp), ApR.nil, rfl⟩
    have HM0 := Lib.hid (HM.out _ hrow hbel)
    clear p0 p1 p2 p3 p4 p5 p6 p7 p8 p9
    clear r0 r1 r2 r3 r4 r5 r6 r7 r8 r9 hrow hbel HM HE HDT
    generalize (((((((((World.setCell wD ⟨nL, 0, none⟩ (.slice none 0 0)).setCell ⟨nL, 1, none⟩ (.slice none 0 0)).setCell ⟨nL, 2, none⟩ (.slice none 0 0)).setCell ⟨nL, 3, none⟩ (.slice none 0 0)).setCell ⟨nL, 4, none⟩ (.slice none 0 0)).setCell ⟨nL, 5, none⟩ (.int .i64 1)).setCell ⟨nL, 6, none⟩ (.int .i64 1)).setCell ⟨nL, 7, none⟩ (.int .i64 1)).setCell ⟨nL, 8, none⟩ (.int .i64 1)).setCell ⟨nL, 9, none⟩ (.int .i64 0) = wF at *
    obtain ⟨i36, hi36, hz0, hz1, hz2⟩ := info_parts Tryz.info36q
    obtain ⟨i39, hi39, hx0, hx1, hx2⟩ := info_parts Tryz.info39q
    obtain ⟨i42, hi42, hv0, hv1, hv2⟩ := info_parts Tryz.info42q
    obtain ⟨i3, hi3, hy0, hy1, hy2⟩ := info_parts Tryz.info3q
    obtain ⟨ob, hob⟩ : ∃ b, b = decide (m2 = 1) := ⟨_, rfl⟩
    have HOB : Hid (ob = decide (m2 = 1)) := hob
    rw [← hob] at HM0
    clear hob
    go_wp2_with fail
    go_loopw [7] (fun u wr => ∃ i : Nat, i ≤ k + 1 ∧ u = .int .i64 i ∧ ∃ vN, Hid (MSt w nL (manyC vN (.slice none 0 0) (.slice none 0 0)) vN (.slice none 0 0) (.slice none 0 0) (psM i) [] (mkM (nodesM i) (secsM 0) (partsM ob 0)) wr)) (fun u _ => (k + 1) - (intOf u).toNat)
    case atStart => exact ⟨0, Nat.zero_le _, rfl, _, HM0.out⟩
    case round =>
      obtain ⟨i, hi0, rfl, vN, HJ⟩ := hrel
      clear HM0
      obtain ⟨wS, hwS⟩ : ∃ x, x = wr := ⟨_, rfl⟩
      subst hwS
      have hlN : wS.ownsRow (nL + 1) 36 1 vN (nodesM i).length (nvals (psM i)) := HJ.out.o.n
      rw [nodesM_len] at hlN
      obtain ⟨AN, cN, hvN⟩ := own_slice hlN
      subst hvN
      clear hlN
      by_cases hi : i ≤ k
      · have hii : (i : Int) ≤ (k : Int) := by omega
        have w10 : IntKind.i64.wrap (10 * (i : Int)) = 10 * (i : Int) := IntWalk.i64_in _ (by omega)
        obtain ⟨fb, hfb⟩ : ∃ b, floatOfInt .f64 (10 * (i : Int)) = b := ⟨_, rfl⟩
        have HFB := Lib.hid hfb
        have HLT : Hid (Sr (wS.alloc (.cells #[.complex .f64 fb 0] 36)) (some ⟨wS.heap.size, 0, none⟩) 1 1 1 [.complex .f64 fb 0]) := Sr.lit wS #[.complex .f64 fb 0] 36 1 1 rfl (by intro u hu; simp at hu; subst hu; rfl)
        have HJ2 := Lib.hid (HJ.out.alloc (.cells #[.complex .f64 fb 0] 36))
        have HO2 : Hid ((wS.alloc (.cells #[.complex .f64 fb 0] 36)).ownsRow (nL + 1) 36 1 (.slice AN i cN) i (nvals (psM i))) := by
          have h : (wS.alloc (.cells #[.complex .f64 fb 0] 36)).ownsRow (nL + 1) 36 1 (.slice AN i cN) (nodesM i).length (nvals (psM i)) := HJ2.out.o.n
          rw [nodesM_len] at h; exact h
        have hsz2 : nL + 1 ≤ (wS.alloc (.cells #[.complex .f64 fb 0] 36)).heap.size := HJ2.out.o.lt
        have p0 := HJ.out.o.row.cell 0
        have p1 := HJ.out.o.row.cell 1
        have p2 := HJ.out.o.row.cell 2
        have p3 := HJ.out.o.row.cell 3
        have p4 := HJ.out.o.row.cell 4
        have p5 := HJ.out.o.row.cell 5
        have p6 := HJ.out.o.row.cell 6
        have p7 := HJ.out.o.row.cell 7
        have p8 := HJ.out.o.row.cell 8
        have p9 := HJ.out.o.row.cell 9
        simp only [manyC, List.getElem?_toArray, List.getElem?_cons_zero, List.getElem?_cons_succ] at p0 p1 p2 p3 p4 p5 p6 p7 p8 p9
        go_wp2_with (at_builtin; refine wpList_app_src rfl (.tmp 42) (.tmp 47) 28 rfl (nL + 1) 36 i36 (.complex .f64 0 0) 1 16 Tryz.underlying28 hi36 hz0 hz1 hz2 rfl (by decide) (.slice AN i cN) i (nvals (psM i)) rfl HO2.out (some ⟨wS.heap.size, 0, none⟩) 1 1 [.complex .f64 fb 0] rfl HLT.out (by omega) (by decide) hsz2 ?_)
        intro v9 w9 hown9 hgr9 _
        obtain ⟨A9, c9, hv9⟩ := own_slice hown9
        subst hv9
        have HJ3 : Hid (MSt w nL (manyC (.slice AN i cN) (.slice none 0 0) (.slice none 0 0)) (.slice A9 (i + 1) c9) (.slice none 0 0) (.slice none 0 0) (psM (i + 1)) [] (mkM (nodesM (i + 1)) (secsM 0) (partsM ob 0)) w9) := by
          have h1 : w9.ownsRow (nL + 1) 36 1 (.slice A9 (i + 1) c9) (nodesM (i + 1)).length (nvals (psM (i + 1))) := by rw [nodesM_len, ← psM_snoc, HFB.out]; exact hown9
          exact HJ2.out.nodes h1 (psM_fl _ (by omega)) hgr9
        clear p0 p1 p2 p3 p4 p5 p6 p7 p8 p9
        have q0 := HJ3.out.o.row.cell 0
        simp only [manyC, List.getElem?_toArray, List.getElem?_cons_zero] at q0
        have fz := HJ3.out.o.row.frozen 0
        clear hown9 hgr9 HJ2 HO2 HLT HJ hsz2 hfb w10 HFB
        go_upto_region 16 with (fail)
        clear q0 fz
        have HJ4 : Hid (MSt w nL (manyC (.slice A9 (i + 1) c9) (.slice none 0 0) (.slice none 0 0)) (.slice A9 (i + 1) c9) (.slice none 0 0) (.slice none 0 0) (psM (i + 1)) [] (mkM (nodesM (i + 1)) (secsM 0) (partsM ob 0)) (w9.setCell ⟨nL, 0, none⟩ (.slice A9 (i + 1) c9))) := HJ3.out.put 0 _ rfl
        clear HJ3
        generalize w9.setCell ⟨nL, 0, none⟩ (.slice A9 (i + 1) c9) = wT at *
        go_wp2_with fail
        go_roundw
        case rel => exact ⟨i + 1, by omega, by go_num, _, HJ4.out⟩
        case measure => simp [intOf]; omega
      · have hie : i = k + 1 := by omega
        subst hie
        have hii : ¬ ((k + 1 : Nat) : Int) ≤ (k : Int) := by omega
        have hii2 : ¬ (k : Int) + 1 ≤ (k : Int) := by omega
        go_wp2_with fail
        go_loopw [8] (fun u wr => ∃ i : Nat, i ≤ k ∧ u = .int .i64 i ∧ Hid (∃ vS vP vs, MSt w nL (manyC (.slice AN (k + 1) cN) vS vP) (.slice AN (k + 1) cN) vS vP (psM (k + 1)) vs (mkM (nodesM (k + 1)) (secsM i) (partsM ob i)) wr)) (fun u _ => k - (intOf u).toNat)
        case atStart => exact ⟨0, Nat.zero_le _, rfl, _, _, _, HJ.out⟩
        case round =>
          obtain ⟨i, hik, rfl, HK⟩ := hrel
          clear HJ hii hii2 hi hi0
          obtain ⟨wS, hwS⟩ : ∃ x, x = wr := ⟨_, rfl⟩
          subst hwS
          obtain ⟨vS, vP, vs, hK⟩ := HK.out
          have HK1 := Lib.hid hK
          clear hK HK
          have hlS : wS.ownsRow (nL + 1) 39 3 vS (secsM i).length (scells (secsM i)) := HK1.out.o.s
          rw [secsM_len] at hlS
          obtain ⟨AS, cS, hvS⟩ := own_slice hlS
          subst hvS
          clear hlS
          obtain ⟨nP, hnP⟩ : ∃ n, (partsM ob i).length = n := ⟨_, rfl⟩
          have HNP := Lib.hid hnP
          have hlP : wS.ownsRow (nL + 1) 42 1 vP (partsM ob i).length vs := HK1.out.o.p
          rw [hnP] at hlP
          have hnP2 : nP ≤ i := by have := partsM_len ob i; rw [hnP] at this; split at this <;> omega
          clear hnP
          obtain ⟨AP, cP, hvP⟩ := own_slice hlP
          subst hvP
          clear hlP
          by_cases hi : i < k
          · have hii : (i : Int) < (k : Int) := by omega
            have wi1 : IntKind.i64.wrap ((i : Int) + 1) = (i : Int) + 1 := IntWalk.i64_in _ (by omega)
            have HLT : Hid (Sr (wS.alloc (.cells #[.int .i64 10, .int .i64 (i : Int), .int .i64 ((i : Int) + 1)] 39)) (some ⟨wS.heap.size, 0, none⟩) 1 1 3 [.int .i64 10, .int .i64 (i : Int), .int .i64 ((i : Int) + 1)]) := Sr.lit wS #[.int .i64 10, .int .i64 (i : Int), .int .i64 ((i : Int) + 1)] 39 1 3 rfl (by intro u hu; simp at hu; rcases hu with rfl | rfl | rfl <;> rfl)
            have HK2 := Lib.hid (HK1.out.alloc (.cells #[.int .i64 10, .int .i64 (i : Int), .int .i64 ((i : Int) + 1)] 39))
            have HO2 : Hid ((wS.alloc (.cells #[.int .i64 10, .int .i64 (i : Int), .int .i64 ((i : Int) + 1)] 39)).ownsRow (nL + 1) 39 3 (.slice AS i cS) i (scells (secsM i))) := by
              have h : (wS.alloc (.cells #[.int .i64 10, .int .i64 (i : Int), .int .i64 ((i : Int) + 1)] 39)).ownsRow (nL + 1) 39 3 (.slice AS i cS) (secsM i).length (scells (secsM i)) := HK2.out.o.s
              rw [secsM_len] at h; exact h
            have hsz2 : nL + 1 ≤ (wS.alloc (.cells #[.int .i64 10, .int .i64 (i : Int), .int .i64 ((i : Int) + 1)] 39)).heap.size := HK2.out.o.lt
            have p0 := HK1.out.o.row.cell 0
            have p1 := HK1.out.o.row.cell 1
            have p2 := HK1.out.o.row.cell 2
            have p3 := HK1.out.o.row.cell 3
            have p4 := HK1.out.o.row.cell 4
            have p5 := HK1.out.o.row.cell 5
            have p6 := HK1.out.o.row.cell 6
            have p7 := HK1.out.o.row.cell 7
            have p8 := HK1.out.o.row.cell 8
            have p9 := HK1.out.o.row.cell 9
            simp only [manyC, List.getElem?_toArray, List.getElem?_cons_zero, List.getElem?_cons_succ] at p0 p1 p2 p3 p4 p5 p6 p7 p8 p9
            go_wp2_with (at_builtin; refine wpList_app_src rfl (.tmp 56) (.tmp 61) 29 rfl (nL + 1) 39 i39 (.agg #[.int .i64 0, .int .i64 0, .int .i64 0]) 3 24 Tryz.underlying29 hi39 hx0 hx1 hx2 rfl (by decide) (.slice AS i cS) i (scells (secsM i)) rfl HO2.out (some ⟨wS.heap.size, 0, none⟩) 1 1 [.int .i64 10, .int .i64 (i : Int), .int .i64 ((i : Int) + 1)] rfl HLT.out (by omega) (by decide) hsz2 ?_)
            intro v9 w9 hown9 hgr9 _
            obtain ⟨A9, c9, hv9⟩ := own_slice hown9
            subst hv9
            have HK3 : Hid (MSt w nL (manyC (.slice AN (k + 1) cN) (.slice AS i cS) (.slice AP nP cP)) (.slice AN (k + 1) cN) (.slice A9 (i + 1) c9) (.slice AP nP cP) (psM (k + 1)) vs (mkM (nodesM (k + 1)) (secsM (i + 1)) (partsM ob i)) w9) := by
              have h1 : w9.ownsRow (nL + 1) 39 3 (.slice A9 (i + 1) c9) (secsM (i + 1)).length (scells (secsM (i + 1))) := by rw [secsM_len, ← secsM_snoc]; exact hown9
              exact HK2.out.secs h1 hgr9
            clear p0 p1 p2 p3 p4 p5 p6 p7 p8 p9
            have q1 := HK3.out.o.row.cell 1
            simp only [manyC, List.getElem?_toArray, List.getElem?_cons_zero, List.getElem?_cons_succ] at q1
            have fz := HK3.out.o.row.frozen 1
            clear hown9 hgr9 HK2 HO2 HLT HK1 hsz2
            go_upto_region 22 with (fail)
            clear q1 fz wi1
            have HK4 : Hid (MSt w nL (manyC (.slice AN (k + 1) cN) (.slice A9 (i + 1) c9) (.slice AP nP cP)) (.slice AN (k + 1) cN) (.slice A9 (i + 1) c9) (.slice AP nP cP) (psM (k + 1)) vs (mkM (nodesM (k + 1)) (secsM (i + 1)) (partsM ob i)) (w9.setCell ⟨nL, 1, none⟩ (.slice A9 (i + 1) c9))) := HK3.out.put 1 _ rfl
            clear HK3
            generalize w9.setCell ⟨nL, 1, none⟩ (.slice A9 (i + 1) c9) = wT at *
            obtain ⟨AS2, cS2, hAS⟩ : ∃ a c, a = A9 ∧ c = c9 := ⟨_, _, rfl, rfl⟩
            obtain ⟨hAS, hcS⟩ := hAS
            subst hAS hcS
            have HK5 : Hid (MSt w nL (manyC (.slice AN (k + 1) cN) (.slice AS2 (i + 1) cS2) (.slice AP nP cP)) (.slice AN (k + 1) cN) (.slice AS2 (i + 1) cS2) (.slice AP nP cP) (psM (k + 1)) vs (mkM (nodesM (k + 1)) (secsM (i + 1)) (partsM ob i)) wT) := HK4.out
            clear HK4
            by_cases h16 : i < 16
            · have h16i : (i : Int) < 16 := by omega
              have hcond : i < 16 ∨ ob = false := Or.inl h16
              have hpl := HK5.out.o.pr.1
              have HX : Hid ((wT.alloc (.cells #[.int .i64 (i : Int)] 3)).ownsRow (nL + 1) 3 1 (.slice (some ⟨wT.heap.size, 0, none⟩) 1 1) 1 (ivals [(i : Int)])) := World.ownsRow_lit wT #[.int .i64 (i : Int)] 1 (by have := HK5.out.o.lt; omega) (by decide) rfl
              have HAP : Hid (ApR (vs ++ [.slice (some ⟨wT.heap.size, 0, none⟩) 1 1])) := HK5.out.apx rfl
              have HLT : Hid (Sr ((wT.alloc (.cells #[.int .i64 (i : Int)] 3)).alloc (.cells #[.slice (some ⟨wT.heap.size, 0, none⟩) 1 1] 42)) (some ⟨(wT.alloc (.cells #[.int .i64 (i : Int)] 3)).heap.size, 0, none⟩) 1 1 1 [.slice (some ⟨wT.heap.size, 0, none⟩) 1 1]) := Sr.lit _ #[.slice (some ⟨wT.heap.size, 0, none⟩) 1 1] 42 1 1 rfl (by intro u hu; simp at hu; subst hu; rfl)
              have HK6 := Lib.hid ((HK5.out.alloc (.cells #[.int .i64 (i : Int)] 3)).alloc (.cells #[.slice (some ⟨wT.heap.size, 0, none⟩) 1 1] 42))
              have HX6 := Lib.hid (HX.out.alloc (.cells #[.slice (some ⟨wT.heap.size, 0, none⟩) 1 1] 42))
              have HO6 : Hid (((wT.alloc (.cells #[.int .i64 (i : Int)] 3)).alloc (.cells #[.slice (some ⟨wT.heap.size, 0, none⟩) 1 1] 42)).ownsRow (nL + 1) 42 1 (.slice AP nP cP) nP vs) := by
                have h : ((wT.alloc (.cells #[.int .i64 (i : Int)] 3)).alloc (.cells #[.slice (some ⟨wT.heap.size, 0, none⟩) 1 1] 42)).ownsRow (nL + 1) 42 1 (.slice AP nP cP) (partsM ob i).length vs := HK6.out.o.p
                rw [HNP.out] at h; exact h
              have hsz6 : nL + 1 ≤ ((wT.alloc (.cells #[.int .i64 (i : Int)] 3)).alloc (.cells #[.slice (some ⟨wT.heap.size, 0, none⟩) 1 1] 42)).heap.size := HK6.out.o.lt
              rw [show (wT.alloc (.cells #[.int .i64 (i : Int)] 3)).heap.size = wT.heap.size + 1 by simp] at HLT
              have p0 := HK5.out.o.row.cell 0
              have p1 := HK5.out.o.row.cell 1
              have p2 := HK5.out.o.row.cell 2
              have p3 := HK5.out.o.row.cell 3
              have p4 := HK5.out.o.row.cell 4
              have p5 := HK5.out.o.row.cell 5
              have p6 := HK5.out.o.row.cell 6
              have p7 := HK5.out.o.row.cell 7
              have p8 := HK5.out.o.row.cell 8
              have p9 := HK5.out.o.row.cell 9
              simp only [manyC, List.getElem?_toArray, List.getElem?_cons_zero, List.getElem?_cons_succ] at p0 p1 p2 p3 p4 p5 p6 p7 p8 p9
              go_wp2_with (at_builtin; refine wpList_app_src rfl (.tmp 72) (.tmp 75) 30 rfl (nL + 1) 42 i42 (.slice none 0 0) 1 24 Tryz.underlying30 hi42 hv0 hv1 hv2 rfl (by decide) (.slice AP nP cP) nP vs rfl HO6.out (some ⟨wT.heap.size + 1, 0, none⟩) 1 1 [.slice (some ⟨wT.heap.size, 0, none⟩) 1 1] rfl HLT.out (by omega) (by decide) hsz6 ?_)
              intro v9 w9 hown9 hgr9 _
              obtain ⟨A9, c9, hv9⟩ := own_slice hown9
              subst hv9
              have HK7 : Hid (MSt w nL (manyC (.slice AN (k + 1) cN) (.slice AS2 (i + 1) cS2) (.slice AP nP cP)) (.slice AN (k + 1) cN) (.slice AS2 (i + 1) cS2) (.slice A9 (nP + 1) c9) (psM (k + 1)) (vs ++ [.slice (some ⟨wT.heap.size, 0, none⟩) 1 1]) (mkM (nodesM (k + 1)) (secsM (i + 1)) (partsM ob (i + 1))) w9) := by
                have h1 : w9.ownsRow (nL + 1) 42 1 (.slice A9 (nP + 1) c9) (partsM ob i ++ [[(i : Int)]]).length (vs ++ [.slice (some ⟨wT.heap.size, 0, none⟩) 1 1]) := by rw [List.length_append, HNP.out]; exact hown9
                have h2 := HK6.out.push (r := [(i : Int)]) HX6.out HAP.out h1 hgr9
                rw [partsM_push hcond]
                exact h2
              clear p0 p1 p2 p3 p4 p5 p6 p7 p8 p9
              have q2 := HK7.out.o.row.cell 2
              simp only [manyC, List.getElem?_toArray, List.getElem?_cons_zero, List.getElem?_cons_succ] at q2
              have fz := HK7.out.o.row.frozen 2
              clear hown9 hgr9 HK6 HO6 HX6 HLT HAP HX hsz6 HK5 hpl
              go_upto_region 20 with (fail)
              clear q2 fz
              have HK8 : Hid (∃ vS vP us, MSt w nL (manyC (.slice AN (k + 1) cN) vS vP) (.slice AN (k + 1) cN) vS vP (psM (k + 1)) us (mkM (nodesM (k + 1)) (secsM (i + 1)) (partsM ob (i + 1))) (w9.setCell ⟨nL, 2, none⟩ (.slice A9 (nP + 1) c9))) := ⟨_, _, _, HK7.out.put 2 _ rfl⟩
              clear HK7
              generalize w9.setCell ⟨nL, 2, none⟩ (.slice A9 (nP + 1) c9) = wU at *
              go_wp2_with fail
              go_roundw
              case rel => exact ⟨i + 1, by omega, by go_num, HK8⟩
              case measure => simp [intOf]; omega
            · have h16i : ¬ (i : Int) < 16 := by omega
              by_cases hm : m2 = 1
              · have hcond : ¬ (i < 16 ∨ ob = false) := by rw [HOB.out, decide_eq_true hm]; simp; omega
                subst hm
                have HNP16 : Hid (nP = 16) := by rw [← HNP.out]; exact partsM_16 hcond
                have h16 := HNP16.out
                subst h16
                have hpl : vs.length = 16 := by have h : vs.length = (partsM ob i).length := HK5.out.o.pr.1; rw [HNP.out] at h; exact h
                have hl15 : 15 < vs.length := by omega
                have hp16 : wT.ownsRow (nL + 1) 42 1 (.slice AP 16 cP) 16 vs := by
                  have h : wT.ownsRow (nL + 1) 42 1 (.slice AP 16 cP) (partsM ob i).length vs := HK5.out.o.p
                  rw [HNP.out] at h; exact h
                obtain ⟨g, cg, hvP, hgl⟩ := own_at hp16 (by decide)
                injection hvP with e1 e2 e3
                subst e1 e3
                have h15p : 15 < (partsM ob i).length := by rw [HNP.out]; decide
                have hr15 : wT.ownsRow (nL + 1) 3 1 vs[15] ((partsM ob i)[15]'h15p).length (ivals ((partsM ob i)[15]'h15p)) := HK5.out.own 15 hl15 h15p
                have hlen15 : ((partsM ob i)[15]'h15p).length ≤ i := partsM_row ob i _ (List.getElem_mem _)
                have HRW := Lib.hid (show (partsM ob i).getD 15 [] = (partsM ob i)[15]'h15p by rw [List.getD_eq_getElem?_getD, List.getElem?_eq_getElem h15p]; rfl)
                have HC15 := Lib.hid (show wT.cell? ⟨g, 15, none⟩ = some vs[15] by rw [hp16.cellAt 15 (by decide), List.getElem?_eq_getElem hl15])
                have HF15 := Lib.hid (hp16.frozenAt 15)
                obtain ⟨x15, hx15⟩ : ∃ x, x = vs[15] := ⟨_, rfl⟩
                have HX15 := Lib.hid hx15
                rw [← hx15] at hr15 HC15
                obtain ⟨r15, hrr⟩ : ∃ r, r = (partsM ob i)[15]'h15p := ⟨_, rfl⟩
                rw [← hrr] at hr15 hlen15 HRW
                obtain ⟨A15, c15, hv15⟩ := own_slice hr15
                obtain ⟨n15, hn15⟩ : ∃ n, n = r15.length := ⟨_, rfl⟩
                have HN15 := Lib.hid hn15
                rw [← hn15] at hv15 hr15 hlen15
                subst hv15
                have HR15 := Lib.hid hr15
                have HP16 := Lib.hid hp16
                clear hx15 hrr hn15 hr15 hp16
                go_upto_region 24 with (fail)
                have HKQ := Lib.hid (HK5.out.drewN 1)
                have HC15Q : Hid (wT.drew.cell? ⟨g, 15, none⟩ = some (.slice A15 n15 c15)) := HC15.out
                have HR15Q : Hid (wT.drew.ownsRow (nL + 1) 3 1 (.slice A15 n15 c15) n15 (ivals r15)) := HR15.out
                have HP16Q : Hid (wT.drew.ownsRow (nL + 1) 42 1 (.slice (some ⟨g, 0, none⟩) 16 cP) 16 vs) := HP16.out
                refine AnyBut.region (fun w' => w'.cell? ⟨nL, 2, none⟩ = some (.slice (some ⟨g, 0, none⟩) 16 cP) ∧ w'.cell? ⟨g, 15, none⟩ = some (.slice A15 n15 c15)) 10 (by kernel_rfl) ?_
                change AnyBut _ _ _ _ _ _ _ _ _ wT.drew
                have HKQ2 : Hid (MSt w nL (manyC (.slice AN (k + 1) cN) (.slice AS2 (i + 1) cS2) (.slice (some ⟨g, 0, none⟩) 16 cP)) (.slice AN (k + 1) cN) (.slice AS2 (i + 1) cS2) (.slice (some ⟨g, 0, none⟩) 16 cP) (psM (k + 1)) vs (mkM (nodesM (k + 1)) (secsM (i + 1)) (partsM ob i)) wT.drew) := HKQ.out
                clear HK5 HC15 HR15 HF15 HKQ HP16
                generalize wT.drew = wq at *
                have d1 := HKQ2.out.o.row.cell 2
                simp only [manyC, List.getElem?_toArray, List.getElem?_cons_zero, List.getElem?_cons_succ] at d1
                have d2 := HC15Q.out
                refine AnyBut.take 0 rfl (by kernel_rfl) (by kernel_rfl) (by kernel_rfl) (by kernel_rfl) (by decide) (fun _ _ _ h => h) (yields_of (by rfl) (fun w9 hS => (by obtain ⟨s1, s2⟩ := hS; go_simp; try rfl))) ⟨d1, d2⟩ ?_
                refine AnyBut.take 1 rfl (by kernel_rfl) (by kernel_rfl) (by kernel_rfl) (by kernel_rfl) (by decide) (fun _ _ _ h => h) (yields_of (by rfl) (fun w9 hS => (by obtain ⟨s1, s2⟩ := hS; go_simp; try rfl))) ⟨d1, d2⟩ ?_
                refine AnyBut.take 2 rfl (by kernel_rfl) (by kernel_rfl) (by kernel_rfl) (by kernel_rfl) (by decide) (fun _ _ _ h => h) (yields_of (by rfl) (fun w9 hS => (by obtain ⟨s1, s2⟩ := hS; go_simp; try rfl))) ⟨d1, d2⟩ ?_
                refine AnyBut.take 3 rfl (by kernel_rfl) (by kernel_rfl) (by kernel_rfl) (by kernel_rfl) (by decide) (fun _ _ _ h => h) (yields_of (by rfl) (fun w9 hS => (by obtain ⟨s1, s2⟩ := hS; go_simp; try rfl))) ⟨d1, d2⟩ ?_
                refine AnyBut.take 4 rfl (by kernel_rfl) (by kernel_rfl) (by kernel_rfl) (by kernel_rfl) (by decide) (fun _ _ _ h => h) (yields_of (by rfl) (fun w9 hS => (by obtain ⟨s1, s2⟩ := hS; go_simp; try rfl))) ⟨d1, d2⟩ ?_
                refine AnyBut.take 5 rfl (by kernel_rfl) (by kernel_rfl) (by kernel_rfl) (by kernel_rfl) (by decide) (fun _ _ _ h => h) (yields_of (by rfl) (fun w9 hS => (by obtain ⟨s1, s2⟩ := hS; go_simp; try rfl))) ⟨d1, d2⟩ ?_
                refine AnyBut.take 6 rfl (by kernel_rfl) (by kernel_rfl) (by kernel_rfl) (by kernel_rfl) (by decide) (fun _ _ _ h => h) (yields_of (by rfl) (fun w9 hS => (by obtain ⟨s1, s2⟩ := hS; go_simp; try rfl))) ⟨d1, d2⟩ ?_
                refine AnyBut.one 7 rfl (by kernel_rfl) (by rfl) ?_
                go_simp
                refine ⟨⟨cell_alloc d1, cell_alloc d2⟩, ?_⟩
                have HN6 : Hid (∀ (j : Nat) (u : Value), [.int .i64 (i : Int)][j]? = some u → (wq.alloc (.cells #[.int .i64 (i : Int)] 3)).cell? ((⟨wq.heap.size, 0, none⟩ : Addr).add j) = some u) := row_new wq 3 [.int .i64 (i : Int)]
                have HK6 := Lib.hid (HKQ2.out.alloc (.cells #[.int .i64 (i : Int)] 3))
                have HO6 := Lib.hid (HR15Q.out.alloc (.cells #[.int .i64 (i : Int)] 3))
                have HP6 := Lib.hid (HP16Q.out.alloc (.cells #[.int .i64 (i : Int)] 3))
                have hsz6 : nL + 1 ≤ (wq.alloc (.cells #[.int .i64 (i : Int)] 3)).heap.size := HK6.out.o.lt
                refine AnyBut.one 8 rfl (by kernel_rfl) (by rfl) ?_
                refine wp_append_lies (wq.alloc (.cells #[.int .i64 (i : Int)] 3)) (.tmp 83) (.tmp 85) 42 rfl (nL + 1) 3 i3 (.int .i64 0) 1 8 Tryz.underlying42 hi3 hy0 hy1 hy2 rfl (by decide) (.slice A15 n15 c15) n15 _ (by rfl) HO6.out ⟨wq.heap.size, 0, none⟩ 1 1 [.int .i64 (i : Int)] (by rfl) rfl HN6.out (by intro u hu; simp at hu; subst hu; rfl) (by decide) (by unfold maxLen; omega) (by omega) hsz6 (wq.alloc (.cells #[.int .i64 (i : Int)] 3)).heap.size rfl ?_
                intro g9 c9 w9 hown9 hgr9 hl9 _
                have hp9 := HP6.out.kept hgr9 (own_apart HP6.out HO6.out (by decide))
                have q2 := (HK6.out.o.row.grown hgr9 (own_nL HO6.out)).cell 2
                simp only [manyC, List.getElem?_toArray, List.getElem?_cons_zero, List.getElem?_cons_succ] at q2
                have q15 := hp9.cellAt 15 (by decide)
                have fz := hp9.frozenAt 15
                have HQ15 := Lib.hid (show vs[15]? = some (.slice A15 n15 c15) by rw [HX15.out, List.getElem?_eq_getElem hl15])
                rw [HQ15.out] at q15
                have HK9 : Hid (∃ us, MSt w nL (manyC (.slice AN (k + 1) cN) (.slice AS2 (i + 1) cS2) (.slice (some ⟨g, 0, none⟩) 16 cP)) (.slice AN (k + 1) cN) (.slice AS2 (i + 1) cS2) (.slice (some ⟨g, 0, none⟩) 16 cP) (psM (k + 1)) us (mkM (nodesM (k + 1)) (secsM (i + 1)) (partsM ob (i + 1))) (w9.setCell ⟨g, 15, none⟩ (.slice (some ⟨g9, 0, none⟩) (n15 + 1) c9))) := by
                  have h1 : w9.ownsRow (nL + 1) 3 1 (.slice (some ⟨g9, 0, none⟩) (n15 + 1) c9) (r15 ++ [(i : Int)]).length (ivals (r15 ++ [(i : Int)])) := by
                    rw [List.length_append, ← HN15.out, show ivals (r15 ++ [(i : Int)]) = ivals r15 ++ [.int .i64 (i : Int)] by simp [ivals]]; exact hown9
                  have hP : (Value.slice (some ⟨g, 0, none⟩) 16 cP) = .slice (some ⟨g, 0, none⟩) (mkM (nodesM (k + 1)) (secsM (i + 1)) (partsM ob i)).parts.length cP := by rw [show (mkM (nodesM (k + 1)) (secsM (i + 1)) (partsM ob i)).parts.length = (partsM ob i).length from rfl, HNP.out]
                  have hgx : (wq.alloc (.cells #[.int .i64 (i : Int)] 3)).grownBy w9 (vs[15]'hl15).ownBlock := by rw [← HX15.out]; exact hgr9
                  have h2 := HK6.out.row_put 15 g cP hl15 hP (r' := r15 ++ [(i : Int)]) hgx h1 (by rw [← HX15.out]; exact hl9.imp (fun e => e.symm) (fun e => congrArg some e))
                  rw [partsM_row' hcond, HRW.out]
                  exact ⟨_, h2⟩
                clear hown9 hgr9 hl9 hp9 HK6 HO6 HP6 HN6 hsz6 HKQ2 HC15Q HR15Q HP16Q HQ15
                refine ⟨fun _ => ⟨q2, q15⟩, ?_⟩
                refine AnyBut.one 9 rfl (by kernel_rfl) (by rfl) ?_
                go_simp
                refine AnyBut.one 10 rfl (by kernel_rfl) (by rfl) ?_
                go_simp
                refine AnyBut.done (by kernel_rfl) ?_
                clear q2 q15 fz d1 d2
                go_upto_region 20 with (fail)
                have HK8 : Hid (∃ vS vP us, MSt w nL (manyC (.slice AN (k + 1) cN) vS vP) (.slice AN (k + 1) cN) vS vP (psM (k + 1)) us (mkM (nodesM (k + 1)) (secsM (i + 1)) (partsM ob (i + 1))) (w9.setCell ⟨g, 15, none⟩ (.slice (some ⟨g9, 0, none⟩) (n15 + 1) c9))) := by obtain ⟨us, h⟩ := HK9.out; exact ⟨_, _, us, h⟩
                clear HK9
                generalize w9.setCell ⟨g, 15, none⟩ (.slice (some ⟨g9, 0, none⟩) (n15 + 1) c9) = wU at *
                go_wp2_with fail
                go_roundw
                case rel => exact ⟨i + 1, by omega, by go_num, HK8⟩
                case measure => simp [intOf]; omega
              · have hcond : i < 16 ∨ ob = false := Or.inr (by rw [HOB.out]; exact decide_eq_false hm)
                obtain rfl : m2 = 0 := by omega
                have hpl := HK5.out.o.pr.1
                have HX : Hid ((wT.alloc (.cells #[.int .i64 (i : Int)] 3)).ownsRow (nL + 1) 3 1 (.slice (some ⟨wT.heap.size, 0, none⟩) 1 1) 1 (ivals [(i : Int)])) := World.ownsRow_lit wT #[.int .i64 (i : Int)] 1 (by have := HK5.out.o.lt; omega) (by decide) rfl
                have HAP : Hid (ApR (vs ++ [.slice (some ⟨wT.heap.size, 0, none⟩) 1 1])) := HK5.out.apx rfl
                have HLT : Hid (Sr ((wT.alloc (.cells #[.int .i64 (i : Int)] 3)).alloc (.cells #[.slice (some ⟨wT.heap.size, 0, none⟩) 1 1] 42)) (some ⟨(wT.alloc (.cells #[.int .i64 (i : Int)] 3)).heap.size, 0, none⟩) 1 1 1 [.slice (some ⟨wT.heap.size, 0, none⟩) 1 1]) := Sr.lit _ #[.slice (some ⟨wT.heap.size, 0, none⟩) 1 1] 42 1 1 rfl (by intro u hu; simp at hu; subst hu; rfl)
                have HK6 := Lib.hid ((HK5.out.alloc (.cells #[.int .i64 (i : Int)] 3)).alloc (.cells #[.slice (some ⟨wT.heap.size, 0, none⟩) 1 1] 42))
                have HX6 := Lib.hid (HX.out.alloc (.cells #[.slice (some ⟨wT.heap.size, 0, none⟩) 1 1] 42))
                have HO6 : Hid (((wT.alloc (.cells #[.int .i64 (i : Int)] 3)).alloc (.cells #[.slice (some ⟨wT.heap.size, 0, none⟩) 1 1] 42)).ownsRow (nL + 1) 42 1 (.slice AP nP cP) nP vs) := by
                  have h : ((wT.alloc (.cells #[.int .i64 (i : Int)] 3)).alloc (.cells #[.slice (some ⟨wT.heap.size, 0, none⟩) 1 1] 42)).ownsRow (nL + 1) 42 1 (.slice AP nP cP) (partsM ob i).length vs := HK6.out.o.p
                  rw [HNP.out] at h; exact h
                have hsz6 : nL + 1 ≤ ((wT.alloc (.cells #[.int .i64 (i : Int)] 3)).alloc (.cells #[.slice (some ⟨wT.heap.size, 0, none⟩) 1 1] 42)).heap.size := HK6.out.o.lt
                rw [show (wT.alloc (.cells #[.int .i64 (i : Int)] 3)).heap.size = wT.heap.size + 1 by simp] at HLT
                have p0 := HK5.out.o.row.cell 0
                have p1 := HK5.out.o.row.cell 1
                have p2 := HK5.out.o.row.cell 2
                have p3 := HK5.out.o.row.cell 3
                have p4 := HK5.out.o.row.cell 4
                have p5 := HK5.out.o.row.cell 5
                have p6 := HK5.out.o.row.cell 6
                have p7 := HK5.out.o.row.cell 7
                have p8 := HK5.out.o.row.cell 8
                have p9 := HK5.out.o.row.cell 9
                simp only [manyC, List.getElem?_toArray, List.getElem?_cons_zero, List.getElem?_cons_succ] at p0 p1 p2 p3 p4 p5 p6 p7 p8 p9
                go_wp2_with (at_builtin; refine wpList_app_src rfl (.tmp 72) (.tmp 75) 30 rfl (nL + 1) 42 i42 (.slice none 0 0) 1 24 Tryz.underlying30 hi42 hv0 hv1 hv2 rfl (by decide) (.slice AP nP cP) nP vs rfl HO6.out (some ⟨wT.heap.size + 1, 0, none⟩) 1 1 [.slice (some ⟨wT.heap.size, 0, none⟩) 1 1] rfl HLT.out (by omega) (by decide) hsz6 ?_)
                intro v9 w9 hown9 hgr9 _
                obtain ⟨A9, c9, hv9⟩ := own_slice hown9
                subst hv9
                have HK7 : Hid (MSt w nL (manyC (.slice AN (k + 1) cN) (.slice AS2 (i + 1) cS2) (.slice AP nP cP)) (.slice AN (k + 1) cN) (.slice AS2 (i + 1) cS2) (.slice A9 (nP + 1) c9) (psM (k + 1)) (vs ++ [.slice (some ⟨wT.heap.size, 0, none⟩) 1 1]) (mkM (nodesM (k + 1)) (secsM (i + 1)) (partsM ob (i + 1))) w9) := by
                  have h1 : w9.ownsRow (nL + 1) 42 1 (.slice A9 (nP + 1) c9) (partsM ob i ++ [[(i : Int)]]).length (vs ++ [.slice (some ⟨wT.heap.size, 0, none⟩) 1 1]) := by rw [List.length_append, HNP.out]; exact hown9
                  have h2 := HK6.out.push (r := [(i : Int)]) HX6.out HAP.out h1 hgr9
                  rw [partsM_push hcond]
                  exact h2
                clear p0 p1 p2 p3 p4 p5 p6 p7 p8 p9
                have q2 := HK7.out.o.row.cell 2
                simp only [manyC, List.getElem?_toArray, List.getElem?_cons_zero, List.getElem?_cons_succ] at q2
                have fz := HK7.out.o.row.frozen 2
                clear hown9 hgr9 HK6 HO6 HX6 HLT HAP HX hsz6 HK5 hpl
                go_upto_region 20 with (fail)
                clear q2 fz
                have HK8 : Hid (∃ vS vP us, MSt w nL (manyC (.slice AN (k + 1) cN) vS vP) (.slice AN (k + 1) cN) vS vP (psM (k + 1)) us (mkM (nodesM (k + 1)) (secsM (i + 1)) (partsM ob (i + 1))) (w9.setCell ⟨nL, 2, none⟩ (.slice A9 (nP + 1) c9))) := ⟨_, _, _, HK7.out.put 2 _ rfl⟩
                clear HK7
                generalize w9.setCell ⟨nL, 2, none⟩ (.slice A9 (nP + 1) c9) = wU at *
                go_wp2_with fail
                go_roundw
                case rel => exact ⟨i + 1, by omega, by go_num, HK8⟩
                case measure => simp [intOf]; omega
          · have hie : i = k := by omega
            subst hie
            have hii : ¬ (i : Int) < (i : Int) := by omega
            have HV := Lib.hid (HK1.out.o.fi rfl)
            have p0 := HK1.out.o.row.cell 0
            have p1 := HK1.out.o.row.cell 1
            have p2 := HK1.out.o.row.cell 2
            have p3 := HK1.out.o.row.cell 3
            have p4 := HK1.out.o.row.cell 4
            have p5 := HK1.out.o.row.cell 5
            have p6 := HK1.out.o.row.cell 6
            have p7 := HK1.out.o.row.cell 7
            have p8 := HK1.out.o.row.cell 8
            have p9 := HK1.out.o.row.cell 9
            simp only [manyC, List.getElem?_toArray, List.getElem?_cons_zero, List.getElem?_cons_succ] at p0 p1 p2 p3 p4 p5 p6 p7 p8 p9
            have hj := judged_any wS _ _ HV.out.lay (many_vf ob i hk45)
            unfold manyC at hj
            have HJD := Lib.hid hj
            clear hj
            go_wp2_with fail
            refine HJD.out.mono ?_; rintro e wZ ⟨rfl, hbZ⟩
            have HZ : Hid (Below w.heap.size w wZ) := HK1.out.o.bel.trans (hbZ.mono HK1.out.o.bel.size)
            clear p0 p1 p2 p3 p4 p5 p6 p7 p8 p9
            clear hbZ HJD
            go_wp2_with fail
            go_ret
            exact ⟨rfl, HZ.out⟩
  · obtain ⟨i42, hi42, hv0, hv1, hv2⟩ := info_parts Tryz.info42q
    have HJ0 : Hid (RoSt wD nL (.slice A0 n0 c0) (.slice A1 n1 c1) (.slice A2 n2 c2) (.slice A3 n3 c3) (.slice none 0 0) L ([]) [] wD) := RoSt.none (Below.refl _ _) HE.out.row.lt HE.out.row rfl
    go_wp2_with fail
    go_loopw [9] (fun u wr => ∃ i : Nat, i ≤ k ∧ u = .int .i64 i ∧ Hid (∃ vR us, RoSt wD nL (.slice A0 n0 c0) (.slice A1 n1 c1) (.slice A2 n2 c2) (.slice A3 n3 c3) vR L (List.replicate i [0, 1]) us wr)) (fun u _ => k - (intOf u).toNat)
    case atStart => exact ⟨0, Nat.zero_le _, rfl, _, _, HJ0.out⟩
    case round =>
      obtain ⟨i, hik, rfl, HJE⟩ := hrel
      clear HJ0
      obtain ⟨wS, hwS⟩ : ∃ x, x = wr := ⟨_, rfl⟩
      subst hwS
      obtain ⟨vR, us, hJ⟩ := HJE.out
      obtain ⟨AR, cR, hvR⟩ := hJ.row_one
      rw [List.length_replicate] at hvR
      subst hvR
      have HJ := Lib.hid hJ
      clear hJ HJE
      by_cases hi : i < k
      · have hii : (i : Int) < (k : Int) := by omega
        have HX : Hid ((wS.alloc (.cells #[.int .i64 0, .int .i64 1] 3)).ownsRow (nL + 1) 3 1 (.slice (some ⟨wS.heap.size, 0, none⟩) 2 2) 2 (ivals [0, 1])) := World.ownsRow_lit wS #[.int .i64 0, .int .i64 1] 2 HJ.out.lt (by decide) rfl
        have HJ2 := Lib.hid (HJ.out.call ((Below.refl _ _).alloc (Nat.le_refl _) (.cells #[.int .i64 0, .int .i64 1] 3)))
        have hba := (Below.refl (wS.alloc (.cells #[.int .i64 0, .int .i64 1] 3)).heap.size (wS.alloc (.cells #[.int .i64 0, .int .i64 1] 3))).alloc (Nat.le_refl _) (.cells #[.slice (some ⟨wS.heap.size, 0, none⟩) 2 2] 42)
        have HLT : Hid (Sr ((wS.alloc (.cells #[.int .i64 0, .int .i64 1] 3)).alloc (.cells #[.slice (some ⟨wS.heap.size, 0, none⟩) 2 2] 42)) (some ⟨(wS.alloc (.cells #[.int .i64 0, .int .i64 1] 3)).heap.size, 0, none⟩) 1 1 1 [.slice (some ⟨wS.heap.size, 0, none⟩) 2 2]) := Sr.lit _ #[.slice (some ⟨wS.heap.size, 0, none⟩) 2 2] 42 1 1 rfl (by intro u hu; simp at hu; subst hu; rfl)
        rw [show (wS.alloc (.cells #[.int .i64 0, .int .i64 1] 3)).heap.size = wS.heap.size + 1 by simp] at HLT
        have HO6 : Hid (((wS.alloc (.cells #[.int .i64 0, .int .i64 1] 3)).alloc (.cells #[.slice (some ⟨wS.heap.size, 0, none⟩) 2 2] 42)).ownsRow (nL + 1) 42 1 (.slice AR i cR) i us) := by
          have h := own_below HJ2.out.own hba
          rw [List.length_replicate] at h; exact h
        have hsz6 : nL + 1 ≤ ((wS.alloc (.cells #[.int .i64 0, .int .i64 1] 3)).alloc (.cells #[.slice (some ⟨wS.heap.size, 0, none⟩) 2 2] 42)).heap.size := Nat.le_trans HJ2.out.lt hba.size
        clear hba
        have p0 := HJ.out.row.cell 0
        have p1 := HJ.out.row.cell 1
        have p2 := HJ.out.row.cell 2
        have p3 := HJ.out.row.cell 3
        have p4 := HJ.out.row.cell 4
        have p5 := HJ.out.row.cell 5
        have p6 := HJ.out.row.cell 6
        have p7 := HJ.out.row.cell 7
        have p8 := HJ.out.row.cell 8
        have p9 := HJ.out.row.cell 9
        simp only [layC, List.getElem?_toArray, List.getElem?_cons_zero, List.getElem?_cons_succ] at p0 p1 p2 p3 p4 p5 p6 p7 p8 p9
        go_wp2_with (at_builtin; refine wpList_app_src rfl (.tmp 96) (.tmp 98) 30 rfl (nL + 1) 42 i42 (.slice none 0 0) 1 24 Tryz.underlying30 hi42 hv0 hv1 hv2 rfl (by decide) (.slice AR i cR) i us rfl HO6.out (some ⟨wS.heap.size + 1, 0, none⟩) 1 1 [.slice (some ⟨wS.heap.size, 0, none⟩) 2 2] rfl HLT.out (by omega) (by decide) hsz6 ?_)
        intro v9 w9 hown9 hgr9 _
        have HJ9 := Lib.hid (HJ2.out.push (r := [0, 1]) HX.out (by rw [List.length_replicate]; exact hown9) hgr9)
        rw [rep_snoc] at HJ9
        obtain ⟨A9, c9, hv9⟩ := own_slice hown9
        subst hv9
        have hrow9 : Row w9 nL 33 (layC (.slice A0 n0 c0) (.slice A1 n1 c1) (.slice A2 n2 c2) (.slice A3 n3 c3) (.slice AR i cR) L) := (HJ2.out.row.alloc _).grown hgr9 (fun e => by have := (HJ2.out.own.lt nL e.symm).1; omega)
        clear p0 p1 p2 p3 p4 p5 p6 p7 p8 p9
        have q4 := hrow9.cell 4
        have fz := hrow9.frozen 4
        simp only [layC, List.getElem?_toArray, List.getElem?_cons_zero, List.getElem?_cons_succ] at q4
        clear hown9 hgr9 hrow9 HJ2 HO6 HLT HX hsz6 HJ
        go_upto_region 28 with (fail)
        clear q4 fz
        generalize w9.setCell ⟨nL, 4, none⟩ (.slice A9 (i + 1) c9) = wT at *
        go_wp2_with fail
        go_roundw
        case rel => exact ⟨i + 1, by omega, by go_num, _, _, HJ9.out⟩
        case measure => simp [intOf]; omega
      · have hie : i = k := by omega
        subst hie
        have hii : ¬ (i : Int) < (i : Int) := by omega
        have HV := Lib.hid (HJ.out.v (ps := ps) HDT.out)
        have HBS : Hid (Below w.heap.size w wS) := HE.out.bel.trans (HJ.out.bel.mono HE.out.le)
        have HVA : Hid (Vf2 { L with routes := List.replicate i [0, 1] }) := vf_routes HVF.out (by rw [List.length_replicate]; omega) (fun r hr => by rw [List.eq_of_mem_replicate hr]; decide)
        have p0 := HJ.out.row.cell 0
        have p1 := HJ.out.row.cell 1
        have p2 := HJ.out.row.cell 2
        have p3 := HJ.out.row.cell 3
        have p4 := HJ.out.row.cell 4
        have p5 := HJ.out.row.cell 5
        have p6 := HJ.out.row.cell 6
        have p7 := HJ.out.row.cell 7
        have p8 := HJ.out.row.cell 8
        have p9 := HJ.out.row.cell 9
        simp only [layC, List.getElem?_toArray, List.getElem?_cons_zero, List.getElem?_cons_succ] at p0 p1 p2 p3 p4 p5 p6 p7 p8 p9
        have hj := judged_any wS _ _ HV.out HVA.out
        unfold layC at hj
        have HJD := Lib.hid hj
        clear hj
        go_wp2_with fail
        refine HJD.out.mono ?_; rintro e wZ ⟨rfl, hbZ⟩
        have HZ : Hid (Below w.heap.size w wZ) := HBS.out.trans (hbZ.mono HBS.out.size)
        clear p0 p1 p2 p3 p4 p5 p6 p7 p8 p9
        clear hbZ HJD
        go_wp2_with fail
        go_ret
        exact ⟨rfl, HZ.out⟩
  · obtain ⟨i3, hi3, hy0, hy1, hy2⟩ := info_parts Tryz.info3q
    go_wp2_with fail
    go_loopw [10, 11] (fun ux uk wr => ∃ i : Nat, i ≤ k ∧ uk = .int .i64 i ∧ Hid (Below wD.heap.size wD wr ∧ wr.ownsRow wD.heap.size 3 1 ux i (ivals (upI i)))) (fun _ uk _ => k - (intOf uk).toNat)
    case atStart => exact ⟨0, Nat.zero_le _, rfl, Below.refl _ _, World.ownsRow_nil _ _ _ _⟩
    case round =>
      obtain ⟨i, hik, rfl, HX⟩ := hrel
      obtain ⟨wS, hwS⟩ : ∃ x, x = wr := ⟨_, rfl⟩
      subst hwS
      obtain ⟨Au, cu, hu⟩ := own_slice HX.out.2
      subst hu
      by_cases hi : i < k
      · have hii : (i : Int) < (k : Int) := by omega
        have HLT : Hid (Sr (wS.alloc (.cells #[.int .i64 (i : Int)] 3)) (some ⟨wS.heap.size, 0, none⟩) 1 1 1 [.int .i64 (i : Int)]) := Sr.lit wS #[.int .i64 (i : Int)] 3 1 1 rfl (by intro u hu; simp at hu; subst hu; rfl)
        have hba := (Below.refl wS.heap.size wS).alloc (Nat.le_refl _) (.cells #[.int .i64 (i : Int)] 3)
        have HO2 := Lib.hid (own_below HX.out.2 hba)
        have HB2 : Hid (Below wD.heap.size wD (wS.alloc (.cells #[.int .i64 (i : Int)] 3))) := HX.out.1.trans (hba.mono HX.out.1.size)
        clear hba HX
        go_wp2_with (at_builtin; refine wpList_app_src rfl (.tmp 26) (.tmp 28) 42 rfl wD.heap.size 3 i3 (.int .i64 0) 1 8 Tryz.underlying42 hi3 hy0 hy1 hy2 rfl (by decide) (.slice Au i cu) i (ivals (upI i)) rfl HO2.out (some ⟨wS.heap.size, 0, none⟩) 1 1 [.int .i64 (i : Int)] rfl HLT.out (by omega) (by decide) HB2.out.size ?_)
        intro v9 w9 hown9 hgr9 _
        have hb9 : Below wD.heap.size wD w9 := HB2.out.trans ⟨hgr9.os, hgr9.tape, hgr9.output, hgr9.size, fun j hj => hgr9.block j (Nat.lt_of_lt_of_le hj HB2.out.size) (fun e => by have := (HO2.out.lt j e.symm).1; omega)⟩
        rw [upI_snoc] at hown9
        have HX9 : Hid (Below wD.heap.size wD w9 ∧ w9.ownsRow wD.heap.size 3 1 v9 (i + 1) (ivals (upI (i + 1)))) := ⟨hb9, hown9⟩
        clear hown9 hgr9 hb9 HO2 HB2 HLT
        go_wp2_with fail
        go_roundw
        case rel => exact ⟨i + 1, by omega, by go_num, HX9⟩
        case measure => simp [intOf]; omega
      · have hie : i = k := by omega
        subst hie
        have hii : ¬ (i : Int) < (i : Int) := by omega
        have hwl := HE.out.row.lt
        have HE2 := Lib.hid (HE.out.call HX.out.1)
        have HO2 := Lib.hid (own_base HX.out.2 hwl)
        have hba := (Below.refl wS.heap.size wS).alloc (Nat.le_refl _) (.cells #[.slice Au i cu] 42)
        have HL2 : Hid ((wS.alloc (.cells #[.slice Au i cu] 42)).ownsRow (nL + 1) 42 1 (.slice (some ⟨wS.heap.size, 0, none⟩) 1 1) 1 [.slice Au i cu]) := World.ownsRow_lit wS #[.slice Au i cu] 1 (by have := HE2.out.row.lt; omega) (by decide) rfl
        have HE3 := Lib.hid (HE2.out.call hba)
        have HO3 := Lib.hid (own_below HO2.out hba)
        clear hba hwl
        have HR3 : Hid (RowsO (wS.alloc (.cells #[.slice Au i cu] 42)) nL (.slice (some ⟨wS.heap.size, 0, none⟩) 1 1) [upI i]) :=
          RowsO.own HL2.out (fun e => by have := (HL2.out.lt nL e).1; omega) rfl (fun j h1 h2 => by
            have hj : j < 1 := h1
            obtain rfl : j = 0 := by omega
            exact RdO.of_own HO3.out (fun e => by have := (HO3.out.lt nL e).1; omega))
        have p0 := HE3.out.row.cell 0
        have p1 := HE3.out.row.cell 1
        have p2 := HE3.out.row.cell 2
        have p3 := HE3.out.row.cell 3
        have p4 := HE3.out.row.cell 4
        have p5 := HE3.out.row.cell 5
        have p6 := HE3.out.row.cell 6
        have p7 := HE3.out.row.cell 7
        have p8 := HE3.out.row.cell 8
        have p9 := HE3.out.row.cell 9
        simp only [layC, List.getElem?_toArray, List.getElem?_cons_zero, List.getElem?_cons_succ] at p0 p1 p2 p3 p4 p5 p6 p7 p8 p9
        have fz := HE3.out.row.frozen 4
        clear HX HE2 HO2
        go_upto_region 30 with (fail)
        clear fz
        clear p0 p1 p2 p3 p4 p5 p6 p7 p8 p9
        have HE4 : Hid (ESt w nL (.slice A0 n0 c0) (.slice A1 n1 c1) (.slice A2 n2 c2) (.slice A3 n3 c3) (.slice (some ⟨wS.heap.size, 0, none⟩) 1 1) { L with routes := [upI i] } ((wS.alloc (.cells #[.slice Au i cu] 42)).setCell ⟨nL, 4, none⟩ (.slice (some ⟨wS.heap.size, 0, none⟩) 1 1))) :=
          HE3.out.put 4 _ rfl ⟨HE3.out.lay.n, HE3.out.lay.s, HE3.out.lay.p, HE3.out.lay.q, HR3.out⟩
        clear HE3 HO3 HL2 HR3
        generalize (wS.alloc (.cells #[.slice Au i cu] 42)).setCell ⟨nL, 4, none⟩ (.slice (some ⟨wS.heap.size, 0, none⟩) 1 1) = wT at *
        have HVA : Hid (Vf2 { L with routes := [upI i] }) := vf_routes HVF.out (by simp) (fun r hr => by rw [List.mem_singleton] at hr; subst hr; rw [upI_len]; omega)
        have p0 := HE4.out.row.cell 0
        have p1 := HE4.out.row.cell 1
        have p2 := HE4.out.row.cell 2
        have p3 := HE4.out.row.cell 3
        have p4 := HE4.out.row.cell 4
        have p5 := HE4.out.row.cell 5
        have p6 := HE4.out.row.cell 6
        have p7 := HE4.out.row.cell 7
        have p8 := HE4.out.row.cell 8
        have p9 := HE4.out.row.cell 9
        simp only [layC, List.getElem?_toArray, List.getElem?_cons_zero, List.getElem?_cons_succ] at p0 p1 p2 p3 p4 p5 p6 p7 p8 p9
        have hj := judged_any wT _ _ HE4.out.v HVA.out
        unfold layC at hj
        have HJD := Lib.hid hj
        clear hj
        go_wp2_with fail
        refine HJD.out.mono ?_; rintro e wZ ⟨rfl, hbZ⟩
        have HZ : Hid (Below w.heap.size w wZ) := HE4.out.bel.trans (hbZ.mono HE4.out.bel.size)
        clear p0 p1 p2 p3 p4 p5 p6 p7 p8 p9
        clear hbZ HJD
        go_wp2_with fail
        go_ret
        exact ⟨rfl, HZ.out⟩

theorem lifted (os : Os) (started : os.Started) (H : Type) (enc : TypeId × Value → H) :
    ReturnsInHanded {} Tryz.checked os 5 .any (Rows.verifyManySpec.pre6 enc Tryz.prog Tryz.f5 Rows.verifyManyRow.domain false) (Rows.verifyManySpec.post enc Tryz.prog Tryz.f5 false true false false) := by
  refine returnsInHanded_of_change (C := Tryz.checked) own started (by kernel_rfl) Tryz.func5
    (ChangeSpec.witness6 (enc := enc) (C := Tryz.checked) false ⟨#[], #[.int .u8 0, .int .u8 0], []⟩ 8 (by kernel_rfl) (by kernel_rfl) (by kernel_rfl) (by kernel_rfl)) ?_
  intro W base args ds gs before hval0 hW hcnd _
  have hval : ∀ (j : Nat) t v, Tryz.f5.params[j]? = some t → args[j]? = some v → Value.okWide Tryz.prog W .any base t v := hval0
  have hW' := hW
  obtain ⟨p, q, hA0, hV, rfl, hfz, hnd⟩ := hW
  have hA : DataW.TrodAll enc Tryz.prog W 0 (fun _ => true) true Tryz.f5.params.toList args.toList ds p := hA0
  rw [Tryz.params5] at hA hval
  obtain ⟨v0, vs0, d0, ds0, p0, q0, hargs, rfl, rfl, h0, r0⟩ := trodAll_cons hA
  obtain ⟨v1, vs1, d1, ds1, p1, q1, rfl, rfl, rfl, h1, r1⟩ := trodAll_cons r0
  obtain ⟨rfl, rfl, rfl⟩ := trodAll_nil r1
  obtain rfl : args = #[v0, v1] := by cases args; simp_all
  obtain ⟨rfl, rfl⟩ := trodVars_none hV
  obtain ⟨a0, rfl, rfl, rfl, w0⟩ := open_int Tryz.underlying5 (hval 0 5 v0 rfl rfl) h0
  obtain ⟨a1, rfl, rfl, rfl, w1⟩ := open_int Tryz.underlying5 (hval 1 5 v1 rfl rfl) h1
  clear hA0 hval0
  refine (walk a0 a1 W w0 w1).mono fun e W' ⟨he, bel⟩ => ?_
  subst he
  exact ⟨_, rfl, _, _, _, [], _, [], hW', trodAll_mk1 (shut_bool Tryz.underlying4 _), (trodAll_cons_mk (shut_int Tryz.underlying5 w0) (trodAll_cons_mk (shut_int Tryz.underlying5 w1) trodAll_mk0)), rfl, bel.frame _, fun h => by cases h⟩

theorem over : Rows.verifyManyRow.holds Tryz.pinned (OpenSpec.ofChange Rows.verifyManySpec) :=
  OpenClaim.holds_of_wide 5 Tryz.f5 rfl rfl rfl rfl rfl rfl rfl ⟨rfl, rfl, rfl, rfl, rfl⟩ rfl rfl rfl rfl rfl (by kernel_rfl) Tryz.func5 (by kernel_rfl)
    (of_decide_eq_true (by kernel_rfl)) (by unfold Func.isWrapper; first | (rw [if_pos (by decide +kernel)]; kernel_rfl) | (rw [if_neg (by decide +kernel)]; exact ⟨rfl, rfl⟩))
    (fun os started H enc _ => lifted os started H enc)

theorem proved : Rows.VerifyManySaid := over
#print axioms proved
end Go.Proofs.YtagkgejdammflaaGreat.verifyMany
