/-
  PROVED: for every input the law GraphNeeds returns true and leaves its arguments as they were: where all points stand as a path needs, the next section is the path's. No condition.
-/
import Derived.Test.YtpipkbdkkbcooaaRows
import Derived.Test.YtpipkbdkkbcooaaNHead
import Derived.WalkKit
import Derived.ProofKit
import Derived.OpenShut
import Derived.ShutString
import Derived.ChangeOld
import Derived.Below
import Derived.Deep.RegionHeld3
namespace Go.Proofs.Ytpipkbdkkbcooaa.graphNeeds
open Go.ChangeShapes Go.WideShapes Go.ChangeAt Go.RowKit
open Go.ChangeMaps (open_string shut_string)
set_option linter.unusedVariables false
set_option maxRecDepth 100000

theorem own : ownKnob Try.prog.godebug = none := by kernel_rfl
theorem laidOut : laidOutB Try.prog = true := by kernel_rfl

/-- What is known of a slice of integers that came in: nil, or a row of 'cap' cells. -/
def IsRow (k : IntKind) (w : World) (a : Option Addr) (len cap : Nat) (zs : List Int) : Prop :=
  (a = none ∧ len = 0 ∧ cap = 0 ∧ zs = []) ∨
  ∃ x, a = some x ∧ len ≤ cap ∧ cap ≤ maxLen ∧ zs.length = cap ∧ (∀ i, i < zs.length → w.cell? (x.add i) = some (.int k (zs.getD i 0))) ∧ ∀ n ∈ zs, (Lit.int k n).wf = true

set_option maxHeartbeats 8000000 in
theorem walk (d0 : Dr) (vr0 : Value) (a1 : Int) (a2 : Option Addr) (len2 cap2 : Nat) (z2 : List Int) (w : World) (w0 : DrOk d0 ∧ BRows w w.heap.size vr0 d0.routes ∧ d0.routes.length ≤ 9223372036854775807 ∧ ∀ r ∈ d0.routes, r.length ≤ 9223372036854775807) (w1 : (Lit.int .u8 a1).wf = true) (w2 : IsRow .u8 w a2 len2 cap2 z2) :
    Calls Try.prog 6 #[drV d0 vr0, .int .u8 a1, .slice a2 len2 cap2] w fun e w' => e = .returned (.bool true) ∧ Below w.heap.size w w' := by
  obtain ⟨n1, hn1, hn2⟩ := u8_nat w1
  subst hn1
  obtain ⟨ts, htl, hby, hts⟩ := arg_any w2
  subst htl
  have HTS := Lib.hid hts
  have HBY := Lib.hid hby
  clear w1 w2 hts hby
  obtain ⟨hd, hbr, hl, hrl⟩ := w0
  obtain ⟨Ar, kr, cr, hvr⟩ : ∃ A k c, vr0 = .slice A k c := by obtain ⟨vs, ⟨A, c, e, _⟩, _⟩ := hbr; exact ⟨A, _, c, e⟩
  subst hvr
  have HDK := Lib.hid hd
  have HL : Hid (d0.routes.length ≤ 9223372036854775807 ∧ ∀ r ∈ d0.routes, r.length ≤ 9223372036854775807) := ⟨hl, hrl⟩
  clear hd hl hrl
  have hb0 := (Below.refl w.heap.size w).alloc (Nat.le_refl _) (.cells #[.int .u8 (d0.form : Int), .int .u8 (d0.len : Int), .int .u8 (d0.speed : Int), .int .u16 (d0.mute : Int), .int .u16 (d0.wait : Int), .int .u8 (d0.cancel : Int), .int .u8 (d0.stay : Int), .int .u8 (d0.join : Int), .slice Ar kr cr] 25)
  have HB0 := Lib.hid hb0
  have HBR := Lib.hid (hbr.up hb0)
  have HRW := Lib.hid (Row.new w 25 #[.int .u8 (d0.form : Int), .int .u8 (d0.len : Int), .int .u8 (d0.speed : Int), .int .u16 (d0.mute : Int), .int .u16 (d0.wait : Int), .int .u8 (d0.cancel : Int), .int .u8 (d0.stay : Int), .int .u8 (d0.join : Int), .slice Ar kr cr])
  clear hb0 hbr
  unfold drV
  cases hs : small d0 with
  | false =>
    go_enter Try.func6, Try.ntmps6
    go_upto_region 1 with (fail)
    obtain ⟨g0, hg0⟩ : ∃ n, n = w.heap.size := ⟨_, rfl⟩
    rw [← hg0] at HRW ⊢
    have HG0 : Hid (g0 = w.heap.size) := hg0
    generalize w.alloc (.cells #[.int .u8 (d0.form : Int), .int .u8 (d0.len : Int), .int .u8 (d0.speed : Int), .int .u16 (d0.mute : Int), .int .u16 (d0.wait : Int), .int .u8 (d0.cancel : Int), .int .u8 (d0.stay : Int), .int .u8 (d0.join : Int), .slice Ar kr cr] 25) = W0 at *
    clear hg0
    go_wp2_with fail
    refine (joins_any _).mono ?_; rintro e wA ⟨rfl, hbA⟩
    have HA := Lib.hid (HB0.out.trans (hbA.mono HB0.out.size))
    have HRA := Lib.hid (Below.row hbA HRW.out HRW.out.lt)
    have HBA := Lib.hid (HBR.out.up hbA)
    clear hbA HB0 HRW HBR
    have f0 := HRA.out.cell 0
    have f1 := HRA.out.cell 1
    have f2 := HRA.out.cell 2
    have f3 := HRA.out.cell 3
    have f4 := HRA.out.cell 4
    have f5 := HRA.out.cell 5
    have f6 := HRA.out.cell 6
    have f7 := HRA.out.cell 7
    have f8 := HRA.out.cell 8
    simp only [List.getElem?_toArray, List.getElem?_cons_zero, List.getElem?_cons_succ] at f0 f1 f2 f3 f4 f5 f6 f7 f8
    go_wp2_with fail
    refine (small_any wA d0 (.slice Ar kr cr) HBA.out HL.out.1 HL.out.2).mono ?_; rintro e wB ⟨rfl, hbB⟩
    clear f0 f1 f2 f3 f4 f5 f6 f7 f8
    rw [hs]
    have HB := Lib.hid (HA.out.trans (hbB.mono HA.out.size))
    have HRB := Lib.hid (Below.row hbB HRA.out HRA.out.lt)
    have HBB := Lib.hid (HBA.out.up hbB)
    clear hbB HA HRA HBA
    go_wp2_with fail
    refine (joins_any _).mono ?_; rintro e wZ ⟨rfl, hbZ⟩
    have HZ := Lib.hid (HB.out.trans (hbZ.mono HB.out.size))
    clear hbZ
    go_wp2_with fail
    go_ret
    exact ⟨rfl, by rw [← HG0.out] at HZ ⊢; exact HZ.out⟩
  | true =>
    have HS := Lib.hid hs
    by_cases h20 : ts.length ≤ 20
    · have h20i : ¬ (20 : Int) < (ts.length : Int) := by omega
      have h20n : ¬ 20 < ts.length := by omega
      go_enter Try.func6, Try.ntmps6
      go_upto_region 1 with (fail)
      obtain ⟨g0, hg0⟩ : ∃ n, n = w.heap.size := ⟨_, rfl⟩
      rw [← hg0] at HRW ⊢
      have HG0 : Hid (g0 = w.heap.size) := hg0
      generalize w.alloc (.cells #[.int .u8 (d0.form : Int), .int .u8 (d0.len : Int), .int .u8 (d0.speed : Int), .int .u16 (d0.mute : Int), .int .u16 (d0.wait : Int), .int .u8 (d0.cancel : Int), .int .u8 (d0.stay : Int), .int .u8 (d0.join : Int), .slice Ar kr cr] 25) = W0 at *
      clear hg0
      go_wp2_with fail
      refine (joins_any _).mono ?_; rintro e wA ⟨rfl, hbA⟩
      have HA := Lib.hid (HB0.out.trans (hbA.mono HB0.out.size))
      have HRA := Lib.hid (Below.row hbA HRW.out HRW.out.lt)
      have HBA := Lib.hid (HBR.out.up hbA)
      clear hbA HB0 HRW HBR
      have f0 := HRA.out.cell 0
      have f1 := HRA.out.cell 1
      have f2 := HRA.out.cell 2
      have f3 := HRA.out.cell 3
      have f4 := HRA.out.cell 4
      have f5 := HRA.out.cell 5
      have f6 := HRA.out.cell 6
      have f7 := HRA.out.cell 7
      have f8 := HRA.out.cell 8
      simp only [List.getElem?_toArray, List.getElem?_cons_zero, List.getElem?_cons_succ] at f0 f1 f2 f3 f4 f5 f6 f7 f8
      go_wp2_with fail
      refine (small_any wA d0 (.slice Ar kr cr) HBA.out HL.out.1 HL.out.2).mono ?_; rintro e wB ⟨rfl, hbB⟩
      clear f0 f1 f2 f3 f4 f5 f6 f7 f8
      rw [hs]
      have HB := Lib.hid (HA.out.trans (hbB.mono HA.out.size))
      have HRB := Lib.hid (Below.row hbB HRA.out HRA.out.lt)
      have HBB := Lib.hid (HBA.out.up hbB)
      clear hbB HA HRA HBA
      have f0 := HRB.out.cell 0
      have f1 := HRB.out.cell 1
      have f2 := HRB.out.cell 2
      have f3 := HRB.out.cell 3
      have f4 := HRB.out.cell 4
      have f5 := HRB.out.cell 5
      have f6 := HRB.out.cell 6
      have f7 := HRB.out.cell 7
      have f8 := HRB.out.cell 8
      simp only [List.getElem?_toArray, List.getElem?_cons_zero, List.getElem?_cons_succ] at f0 f1 f2 f3 f4 f5 f6 f7 f8
      go_wp2_with fail
      refine (full_any wB d0 (.slice Ar kr cr) HDK.out HBB.out hs).mono ?_; rintro e wC ⟨vL, rfl, hvL, hbL⟩
      clear f0 f1 f2 f3 f4 f5 f6 f7 f8
      have HC := Lib.hid (HB.out.trans (hbL.mono HB.out.size))
      clear hbL HB HRB HBB
      have HFT : Hid (Fits (fullL d0)) := fullL_fits d0
      have HWK : Hid (∀ (s : Nat) (_ : s < (fullL d0).secs.length) (k : Int) (_ : k = 0 ∨ k = 1) (ts : List Nat), needsOk (fullL d0) k (walkL (fullL d0) (s : Int) k ts 12) = true) := walks_any d0
      have HSL : Hid (3 ≤ (fullL d0).secs.length ∧ (fullL d0).secs.length ≤ 8 ∧ (fullL d0).points.length ≤ 2) := by
        have h1 := makeEnds_len d0
        refine ⟨?_, ?_, makePoints_len d0⟩
        · show 3 ≤ (makeSecs d0 (makeEnds d0) (makeEnds d0).length).length; rw [makeSecs_len]; exact h1.1
        · show (makeSecs d0 (makeEnds d0) (makeEnds d0).length).length ≤ 8; rw [makeSecs_len]; exact h1.2
      generalize fullL d0 = L at *
      have HVL := Lib.hid hvL
      obtain ⟨A0, k0, c0, A1, k1, c1, A2, k2, c2, A3, k3, c3, A4, k4, c4, t0, t1, t2, t3, t4, hv, hk0, hk1, hk2, hk3⟩ := hvL.lens
      subst hv
      have HK : Hid (L.nodes.length = k0 ∧ L.secs.length = k1 ∧ L.parts.length = k2 ∧ L.points.length = k3) := ⟨hk0, hk1, hk2, hk3⟩
      clear hvL hk0 hk1 hk2 hk3
      have hb2 := (Below.refl wC.heap.size wC).alloc (Nat.le_refl _) (.cells #[.slice A0 k0 c0, .slice A1 k1 c1, .slice A2 k2 c2, .slice A3 k3 c3, .slice A4 k4 c4, .int .i64 t0, .int .i64 t1, .int .i64 t2, .int .i64 t3, .int .i64 t4] 35)
      have HD := Lib.hid (HC.out.trans (hb2.mono HC.out.size))
      have HV2 := Lib.hid (HVL.out.up hb2)
      have HR2 := Lib.hid (Row.new wC 35 #[.slice A0 k0 c0, .slice A1 k1 c1, .slice A2 k2 c2, .slice A3 k3 c3, .slice A4 k4 c4, .int .i64 t0, .int .i64 t1, .int .i64 t2, .int .i64 t3, .int .i64 t4])
      clear hb2 HC HVL
      go_upto_region 4 with (fail)
      obtain ⟨nL, hnL⟩ : ∃ n, n = wC.heap.size := ⟨_, rfl⟩
      rw [← hnL] at HR2 ⊢
      clear hnL
      generalize wC.alloc (.cells #[.slice A0 k0 c0, .slice A1 k1 c1, .slice A2 k2 c2, .slice A3 k3 c3, .slice A4 k4 c4, .int .i64 t0, .int .i64 t1, .int .i64 t2, .int .i64 t3, .int .i64 t4] 35) = wD at *
      have p0 := HR2.out.cell 0
      have p1 := HR2.out.cell 1
      have p2 := HR2.out.cell 2
      have p3 := HR2.out.cell 3
      have p4 := HR2.out.cell 4
      have p5 := HR2.out.cell 5
      have p6 := HR2.out.cell 6
      have p7 := HR2.out.cell 7
      have p8 := HR2.out.cell 8
      have p9 := HR2.out.cell 9
      simp only [List.getElem?_toArray, List.getElem?_cons_zero, List.getElem?_cons_succ] at p0 p1 p2 p3 p4 p5 p6 p7 p8 p9
      go_wp2_with fail
      refine (new_any wD _ L HV2.out HFT.out).mono ?_; rintro e wE ⟨vg, rfl, hg, hbE⟩
      clear p0 p1 p2 p3 p4 p5 p6 p7 p8 p9
      have HST : Hid (GSt w g0 nL wE.heap.size #[.slice A0 k0 c0, .slice A1 k1 c1, .slice A2 k2 c2, .slice A3 k3 c3, .slice A4 k4 c4, .int .i64 t0, .int .i64 t1, .int .i64 t2, .int .i64 t3, .int .i64 t4] vg L wE) := by
        have hDs := HD.out.size; have hEs := hbE.size; have hgl := HG0.out; have hnl := HR2.out.lt
        refine ⟨by rw [hgl]; exact HD.out.trans (hbE.mono HD.out.size), Below.row hbE HR2.out HR2.out.lt, hg, Nat.le_refl _, by omega, by omega⟩
      have HVE := Lib.hid (HV2.out.up hbE)
      obtain ⟨DG, hDG⟩ : ∃ n, n = wE.heap.size := ⟨_, rfl⟩
      rw [← hDG] at HST HVE
      clear hg hbE HD HV2 HR2 hDG
      have HGV : Hid (GSv w g0 nL DG #[.slice A0 k0 c0, .slice A1 k1 c1, .slice A2 k2 c2, .slice A3 k3 c3, .slice A4 k4 c4, .int .i64 t0, .int .i64 t1, .int .i64 t2, .int .i64 t3, .int .i64 t4] vg L wE) := ⟨HST.out, HVE.out⟩
      have HTS2 : Hid (Rd wE DG (.slice a2 ts.length cap2) (bvals ts)) := HTS.out.mono (by have := HST.out.b; have := HG0.out; omega) (fun q hq => HST.out.bel.cell (p := q) (by have := HG0.out; omega))
      clear HST HVE HTS
      obtain ⟨X, hX⟩ : ∃ X, X = n1 % k1 := ⟨_, rfl⟩
      obtain ⟨Y, hY⟩ : ∃ Y, Y = n1 / 128 := ⟨_, rfl⟩
      have hk8 : 3 ≤ k1 ∧ k1 ≤ 8 ∧ k3 ≤ 2 := by have h1 := HSL.out; have h2 := HK.out; omega
      have hX8 : X < k1 := by rw [hX]; exact Nat.mod_lt _ (by omega)
      have hY2 : Y < 2 := by omega
      have hk1n : ¬ k1 = 0 := by omega
      have hk1i : ¬ (k1 : Int) = 0 := by omega
      have f1 : ((n1 : Int)).tmod (k1 : Int) = (X : Int) := by rw [hX, Int.tmod_eq_emod_of_nonneg (by omega)]; omega
      have f2 : ((n1 : Int)).tdiv 128 = (Y : Int) := by rw [hY, Int.tdiv_eq_ediv_of_nonneg (by omega)]; omega
      have f1e : (n1 : Int) % (k1 : Int) = (X : Int) := by omega
      have f2e : (n1 : Int) / 128 = (Y : Int) := by omega
      have hw0 : IntKind.i64.wrap (n1 : Int) = (n1 : Int) := IntWalk.i64_in _ (by omega)
      have hw1 : IntKind.i64.wrap (X : Int) = (X : Int) := IntWalk.i64_in _ (by omega)
      have hw2 : IntKind.i64.wrap (Y : Int) = (Y : Int) := IntWalk.i64_in _ (by omega)
      clear hX hY
      have HOK := Lib.hid (HWK.out X (by have := HK.out.2.1; omega) (Y : Int) (by omega) ts)
      go_upto_region 6 with (fail)
      have HQV : Hid (GSv w g0 nL DG #[.slice A0 k0 c0, .slice A1 k1 c1, .slice A2 k2 c2, .slice A3 k3 c3, .slice A4 k4 c4, .int .i64 t0, .int .i64 t1, .int .i64 t2, .int .i64 t3, .int .i64 t4] vg L wE.drew ∧ Rd wE.drew DG (.slice a2 ts.length cap2) (bvals ts)) := ⟨HGV.out.drewN 1, HTS2.out.mono (Nat.le_refl _) (fun _ _ => rfl)⟩
      refine wp_region_still_tail 9 (by kernel_rfl) (by kernel_rfl) ?_
      change wpStill _ _ wE.drew (fun a' => wpList _ _ _ _ a' wE.drew) _ _
      clear HGV HTS2
      generalize wE.drew = wq at *
      have p0 := HQV.out.1.1.row.cell 0
      have p1 := HQV.out.1.1.row.cell 1
      have p2 := HQV.out.1.1.row.cell 2
      have p3 := HQV.out.1.1.row.cell 3
      have p4 := HQV.out.1.1.row.cell 4
      have p5 := HQV.out.1.1.row.cell 5
      have p6 := HQV.out.1.1.row.cell 6
      have p7 := HQV.out.1.1.row.cell 7
      have p8 := HQV.out.1.1.row.cell 8
      have p9 := HQV.out.1.1.row.cell 9
      simp only [List.getElem?_toArray, List.getElem?_cons_zero, List.getElem?_cons_succ] at p0 p1 p2 p3 p4 p5 p6 p7 p8 p9
      simp only [List.take_succ_cons, List.take_zero, List.drop_succ_cons, List.drop_zero]
      repeat still_step
      refine wpStill_nil ?_
      have HWC : Hid (Calls Try.prog 17 #[.agg #[.slice A0 k0 c0, .slice A1 k1 c1, .slice A2 k2 c2, .slice A3 k3 c3, .slice A4 k4 c4, .int .i64 t0, .int .i64 t1, .int .i64 t2, .int .i64 t3, .int .i64 t4], .int .i64 (X : Int), .int .i64 (Y : Int), .slice a2 ts.length cap2, .int .i64 12] wq (RetOwn wq.heap.size (walkL L (X : Int) (Y : Int) ts 12) wq)) := refWalk_any wq DG _ L (X : Int) (Y : Int) a2 cap2 ts 12 HQV.out.1.2 HQV.out.1.1.sz HFT.out HQV.out.2 HBY.out (by omega) (by omega) (by omega)
      go_wp2_with fail
      refine HWC.out.mono ?_; rintro e wN ⟨vN, rfl, hoN, hbN⟩
      clear p0 p1 p2 p3 p4 p5 p6 p7 p8 p9
      have hp1 : 1 ≤ (walkL L (X : Int) (Y : Int) ts 12).length := walkGo_pos L ts 12 12 0 [(X : Int)] ((X : Int), (Y : Int)) (by simp)
      have hp12 := walkL_len L (X : Int) (Y : Int) ts 12 (by omega)
      generalize walkL L (X : Int) (Y : Int) ts 12 = p at *
      obtain ⟨Ap, cp, hvp⟩ := own_slice hoN
      subst hvp
      have HN1 : Hid (GSv w g0 nL DG #[.slice A0 k0 c0, .slice A1 k1 c1, .slice A2 k2 c2, .slice A3 k3 c3, .slice A4 k4 c4, .int .i64 t0, .int .i64 t1, .int .i64 t2, .int .i64 t3, .int .i64 t4] vg L wN ∧ wN.ownsRow 0 3 1 (.slice Ap p.length cp) p.length (ivals p)) := ⟨HQV.out.1.call hbN, own_base hoN (Nat.zero_le _)⟩
      clear hoN hbN HQV HWC f1 f2 f1e f2e hw0 hw1 hw2
      go_wp2_with fail
      refine (path_any wN DG _ L Ap cp p HN1.out.1.1.gr HN1.out.1.1.sz HFT.out (Rd.of_own HN1.out.2) (by omega)).mono ?_; rintro e wP ⟨vP, rfl, hoP, hbP⟩
      rw [pathL_eq] at hoP ⊢
      have hok := HOK.out
      unfold needsOk at hok
      rw [Bool.and_eq_true, Bool.and_eq_true] at hok
      rw [HK.out.2.2.2] at hok
      have HND : Hid (∀ x ∈ (pathN L p).getD [], 0 ≤ x.1 ∧ x.1 < (k3 : Int)) := fun x hx => by have h := List.all_eq_true.1 hok.1 x hx; simpa using h
      have HFL : Hid (follow L (rightOf k3 ((pathN L p).getD [])) (p.getD 0 0, (Y : Int)) (p.drop 1) = true) := hok.2.1
      have hnl := pathN_le L p
      clear hok HOK
      generalize (pathN L p).isSome = pis at *
      generalize (pathN L p).getD [] = needs at *
      obtain ⟨An, cn, hvn⟩ := own_slice hoP
      subst hvn
      have HP1 : Hid (GSv w g0 nL DG #[.slice A0 k0 c0, .slice A1 k1 c1, .slice A2 k2 c2, .slice A3 k3 c3, .slice A4 k4 c4, .int .i64 t0, .int .i64 t1, .int .i64 t2, .int .i64 t3, .int .i64 t4] vg L wP ∧ wP.ownsRow 0 3 1 (.slice Ap p.length cp) p.length (ivals p) ∧ wP.ownsRow 0 55 2 (.slice An needs.length cn) needs.length (ncells needs)) := ⟨HN1.out.1.call hbP, own_below HN1.out.2 hbP, own_base hoP (Nat.zero_le _)⟩
      clear hoP hbP HN1
      obtain ⟨pz, hp0⟩ : ∃ x, p.getD 0 0 = x := ⟨_, rfl⟩
      have HP0 := Lib.hid hp0
      rw [hp0] at HFL
      clear hp0
      have p0 := HP1.out.1.1.row.cell 0
      have p1 := HP1.out.1.1.row.cell 1
      have p2 := HP1.out.1.1.row.cell 2
      have p3 := HP1.out.1.1.row.cell 3
      simp only [List.getElem?_toArray, List.getElem?_cons_zero, List.getElem?_cons_succ] at p0 p1 p2 p3
      have hmk := make_bools k3 (by omega)
      have hb9 := (Below.refl wP.heap.size wP).alloc (Nat.le_refl _) (.cells (cvals (List.replicate k3 false)).toArray 4)
      have HR1 : Hid (GSv w g0 nL DG #[.slice A0 k0 c0, .slice A1 k1 c1, .slice A2 k2 c2, .slice A3 k3 c3, .slice A4 k4 c4, .int .i64 t0, .int .i64 t1, .int .i64 t2, .int .i64 t3, .int .i64 t4] vg L (wP.alloc (.cells (cvals (List.replicate k3 false)).toArray 4)) ∧ (wP.alloc (.cells (cvals (List.replicate k3 false)).toArray 4)).ownsRow 0 3 1 (.slice Ap p.length cp) p.length (ivals p) ∧ (wP.alloc (.cells (cvals (List.replicate k3 false)).toArray 4)).ownsRow 0 55 2 (.slice An needs.length cn) needs.length (ncells needs)) := ⟨HP1.out.1.call hb9, own_below HP1.out.2.1 hb9, own_below HP1.out.2.2 hb9⟩
      have HRN : Hid (Row (wP.alloc (.cells (cvals (List.replicate k3 false)).toArray 4)) wP.heap.size 4 (cvals (rightTo k3 needs 0)).toArray) := Row.new wP 4 _
      have HNR0 : Hid (DG ≤ wP.heap.size) := HP1.out.1.1.sz
      clear hb9 HP1
      go_upto_region 9 with (fail)
      obtain ⟨nr, hnr⟩ : ∃ n, n = wP.heap.size := ⟨_, rfl⟩
      rw [← hnr] at HRN HNR0 ⊢
      clear hnr hmk p1 p2 p3
      generalize wP.alloc (.cells (cvals (List.replicate k3 false)).toArray 4) = wR at *
      have HR0 : Hid (GSv w g0 nL DG #[.slice A0 k0 c0, .slice A1 k1 c1, .slice A2 k2 c2, .slice A3 k3 c3, .slice A4 k4 c4, .int .i64 t0, .int .i64 t1, .int .i64 t2, .int .i64 t3, .int .i64 t4] vg L wR ∧ wR.ownsRow 0 3 1 (.slice Ap p.length cp) p.length (ivals p) ∧ wR.ownsRow 0 55 2 (.slice An needs.length cn) needs.length (ncells needs) ∧ Row wR nr 4 (cvals (rightTo k3 needs 0)).toArray) := ⟨HR1.out.1, HR1.out.2.1, HR1.out.2.2, HRN.out⟩
      have HNR := Lib.hid HNR0.out
      have HFO := HFL
      clear HR1 HRN HNR0
      go_wp2_with fail
      go_loopw [14] (fun k9 wr => ∃ (j : Nat), j ≤ needs.length ∧ k9 = .int .i64 j ∧ Hid (GSv w g0 nL DG #[.slice A0 k0 c0, .slice A1 k1 c1, .slice A2 k2 c2, .slice A3 k3 c3, .slice A4 k4 c4, .int .i64 t0, .int .i64 t1, .int .i64 t2, .int .i64 t3, .int .i64 t4] vg L wr ∧ wr.ownsRow 0 3 1 (.slice Ap p.length cp) p.length (ivals p) ∧ wr.ownsRow 0 55 2 (.slice An needs.length cn) needs.length (ncells needs) ∧ Row wr nr 4 (cvals (rightTo k3 needs j)).toArray)) (fun k9 _ => needs.length - (intOf k9).toNat)
      case atStart => exact ⟨0, Nat.zero_le _, rfl, HR0.out⟩
      case round =>
        obtain ⟨j, hj, rfl, HJ⟩ := hrel
        by_cases hlt : j < needs.length
        · have HSU := Lib.hid (rightTo_succ k3 needs j hlt)
          have HLE := Lib.hid (rightTo_len k3 needs j (by omega))
          have hnd := HND.out needs[j] (List.getElem_mem _)
          obtain ⟨bn, on, hAn, u0, u1⟩ := nds_at HJ.out.2.2.1 j hlt
          subst hAn
          generalize needs[j] = nd at *
          obtain ⟨q1, mb⟩ := nd
          simp only at u0 u1 HSU hnd
          obtain ⟨q, rfl⟩ := Int.eq_ofNat_of_zero_le hnd.1
          have hqk : q < k3 := by omega
          have hq0 : ¬ (q : Int) < 0 := by omega
          have hq2 : ¬ (k3 : Int) ≤ (q : Int) := by omega
          have hq3 : ¬ k3 ≤ q := by omega
          clear hnd
          simp only [Int.toNat_natCast] at HSU
          generalize rightTo k3 needs j = rs at *
          have HC := Lib.hid HJ.out
          clear HJ
          go_upto_region 14 with (fail)
          go_still_tail 12, (by kernel_rfl)
          change wpList _ _ _ _ _ wr.drew
          have HD8 : Hid (GSv w g0 nL DG #[.slice A0 k0 c0, .slice A1 k1 c1, .slice A2 k2 c2, .slice A3 k3 c3, .slice A4 k4 c4, .int .i64 t0, .int .i64 t1, .int .i64 t2, .int .i64 t3, .int .i64 t4] vg L wr.drew ∧ wr.drew.ownsRow 0 3 1 (.slice Ap p.length cp) p.length (ivals p) ∧ wr.drew.ownsRow 0 55 2 (.slice (some ⟨bn, on, none⟩) needs.length cn) needs.length (ncells needs) ∧ Row wr.drew nr 4 (cvals rs).toArray) := ⟨HC.out.1.drewN 1, HC.out.2.1, HC.out.2.2.1, HC.out.2.2.2⟩
          clear HC u0 u1
          generalize wr.drew = wd at *
          have cc0 := HD8.out.2.2.2.cell q; have cc1 := HD8.out.2.2.2.frozen q
          have hcq : (cvals rs).toArray[q]? = some (.bool (rs.getD q false)) := by
            have hq : q < rs.length := by have := HLE.out; omega
            simp [cvals, List.getD, hq]
          rw [hcq] at cc0
          have HNX : Hid (GSv w g0 nL DG #[.slice A0 k0 c0, .slice A1 k1 c1, .slice A2 k2 c2, .slice A3 k3 c3, .slice A4 k4 c4, .int .i64 t0, .int .i64 t1, .int .i64 t2, .int .i64 t3, .int .i64 t4] vg L (wd.setCell ⟨nr, q, none⟩ (.bool mb)) ∧ (wd.setCell ⟨nr, q, none⟩ (.bool mb)).ownsRow 0 3 1 (.slice Ap p.length cp) p.length (ivals p) ∧ (wd.setCell ⟨nr, q, none⟩ (.bool mb)).ownsRow 0 55 2 (.slice (some ⟨bn, on, none⟩) needs.length cn) needs.length (ncells needs) ∧ Row (wd.setCell ⟨nr, q, none⟩ (.bool mb)) nr 4 (cvals (rightTo k3 needs (j + 1))).toArray) := by
            have h1 := own_ne HD8.out.2.1 HD8.out.2.2.2 (by decide)
            have h2 := own_ne HD8.out.2.2.1 HD8.out.2.2.2 (by decide)
            refine ⟨HD8.out.1.set ⟨nr, q, none⟩ HNR.out _, own_far HD8.out.2.1 (fun e => h1 e.symm) _, own_far HD8.out.2.2.1 (fun e => h2 e.symm) _, ?_⟩
            rw [HSU.out, ← cvals_set]
            exact HD8.out.2.2.2.set q _
          clear HD8 hcq HSU HLE
          go_wp2_with fail
          go_roundw
          case rel => exact ⟨j + 1, by omega, by go_num, HNX⟩
          case measure => simp [intOf]; omega
        · have HRE : Hid (rightTo k3 needs j = rightOf k3 needs) := by show rightOf k3 (needs.take j) = _; rw [List.take_of_length_le (by omega)]
          rw [HRE.out] at HJ
          have HRL : Hid ((rightOf k3 needs).length = k3) := by have h := rightTo_len k3 needs needs.length (Nat.le_refl _); unfold rightTo at h; rw [List.take_length] at h; exact h
          generalize rightOf k3 needs = right at *
          obtain ⟨bp, op, hAp, -, q0⟩ := (Rd.of_own HJ.out.2.1).at (i := 0) (u := .int .i64 pz) (by rw [← HP0.out]; simp [ivals, List.getD]; cases p with | nil => simp at hp1 | cons a r => rfl)
          rw [Nat.add_zero] at q0
          have hb6 := (Below.refl wr.heap.size wr).alloc (Nat.le_refl _) (.cells #[.int .i64 pz, .int .i64 (Y : Int)] 41)
          have HE0 : Hid (GSv w g0 nL DG #[.slice A0 k0 c0, .slice A1 k1 c1, .slice A2 k2 c2, .slice A3 k3 c3, .slice A4 k4 c4, .int .i64 t0, .int .i64 t1, .int .i64 t2, .int .i64 t3, .int .i64 t4] vg L (wr.alloc (.cells #[.int .i64 pz, .int .i64 (Y : Int)] 41)) ∧ (wr.alloc (.cells #[.int .i64 pz, .int .i64 (Y : Int)] 41)).ownsRow 0 3 1 (.slice Ap p.length cp) p.length (ivals p) ∧ Row (wr.alloc (.cells #[.int .i64 pz, .int .i64 (Y : Int)] 41)) nr 4 (cvals right).toArray) := ⟨HJ.out.1.call hb6, own_below HJ.out.2.1 hb6, Below.row hb6 HJ.out.2.2.2 HJ.out.2.2.2.lt⟩
          have HER := Lib.hid (Row.new wr 41 #[.int .i64 pz, .int .i64 (Y : Int)])
          have HNE1 : Hid (DG ≤ wr.heap.size) := HJ.out.1.1.sz
          clear hb6 HJ HRE
          subst hAp
          obtain ⟨wK, hwK⟩ : ∃ x, x = wr := ⟨_, rfl⟩
          subst hwK
          go_upto_region 16 with (fail)
          obtain ⟨ne, hne⟩ : ∃ n, n = wK.heap.size := ⟨_, rfl⟩
          rw [← hne] at HER HNE1 ⊢
          have HNE2 := Lib.hid HNE1.out
          clear hne q0
          generalize wK.alloc (.cells #[.int .i64 pz, .int .i64 (Y : Int)] 41) = wF at *
          obtain ⟨Ap, hAp⟩ : ∃ A, A = some (⟨bp, op, none⟩ : Addr) := ⟨_, rfl⟩
          rw [← hAp] at HE0 ⊢
          clear hAp
          have HE1 : Hid (GSv w g0 nL DG #[.slice A0 k0 c0, .slice A1 k1 c1, .slice A2 k2 c2, .slice A3 k3 c3, .slice A4 k4 c4, .int .i64 t0, .int .i64 t1, .int .i64 t2, .int .i64 t3, .int .i64 t4] vg L wF ∧ wF.ownsRow 0 3 1 (.slice Ap p.length cp) p.length (ivals p) ∧ Row wF nr 4 (cvals right).toArray ∧ Row wF ne 41 #[.int .i64 pz, .int .i64 (Y : Int)]) := ⟨HE0.out.1, HE0.out.2.1, HE0.out.2.2, HER.out⟩
          clear HE0 HER
          go_wp2_with fail
          go_loopw [16] (fun k9 wr => ∃ (i : Nat) (e1 e2 : Int), 1 ≤ i ∧ i ≤ p.length ∧ k9 = .int .i64 i ∧ Hid (follow L right (e1, e2) (p.drop i) = true ∧ GSv w g0 nL DG #[.slice A0 k0 c0, .slice A1 k1 c1, .slice A2 k2 c2, .slice A3 k3 c3, .slice A4 k4 c4, .int .i64 t0, .int .i64 t1, .int .i64 t2, .int .i64 t3, .int .i64 t4] vg L wr ∧ wr.ownsRow 0 3 1 (.slice Ap p.length cp) p.length (ivals p) ∧ Row wr nr 4 (cvals right).toArray ∧ Row wr ne 41 #[.int .i64 e1, .int .i64 e2])) (fun k9 _ => p.length - (intOf k9).toNat)
          case atStart => exact ⟨1, pz, (Y : Int), Nat.le_refl _, hp1, rfl, HFO.out, HE1.out.1, HE1.out.2.1, HE1.out.2.2.1, HE1.out.2.2.2⟩
          case round =>
            obtain ⟨i, e1, e2, hi1, hi2, rfl, HJ⟩ := hrel
            by_cases hlt : i < p.length
            · have hfo := HJ.out.1
              rw [List.drop_eq_getElem_cons hlt] at hfo
              obtain ⟨z, hnx, hz, hfo2⟩ := follow_cons hfo
              have HF2 := Lib.hid hfo2
              obtain ⟨bp, op, hAp, -, q0⟩ := (Rd.of_own HJ.out.2.2.1).at (i := i) (u := .int .i64 p[i]) (by simp [ivals, hlt])
              subst hAp
              obtain ⟨y, hyi⟩ : ∃ y, p[i] = y := ⟨_, rfl⟩
              rw [hyi] at hnx HF2
              have HYI := Lib.hid hyi
              clear hfo hfo2 hyi
              have f0 := HJ.out.2.2.2.2.cell 0; have f1 := HJ.out.2.2.2.2.cell 1
              simp only [List.getElem?_toArray, List.getElem?_cons_zero, List.getElem?_cons_succ] at f0 f1
              obtain ⟨wJ, hwJ⟩ : ∃ x, x = wr := ⟨_, rfl⟩
              subst hwJ
              clear q0
              have HNXT : Hid (Calls Try.prog 20 #[vg, .agg #[.int .i64 e1, .int .i64 e2], .slice (some ⟨nr, 0, none⟩) k3 k3] wJ (RetNext (some (y, z)) wJ)) := by
                have h := next_any wJ DG vg L e1 e2 (some ⟨nr, 0, none⟩) k3 right HJ.out.2.1.1.gr HJ.out.2.1.1.sz HFT.out (by rw [HRL.out]; exact Rd.bools k3 HRL.out HJ.out.2.2.2.1)
                rw [hnx, HRL.out] at h
                exact h
              go_wp2_with fail
              refine HNXT.out.mono ?_; rintro e w5 ⟨rfl, hb5⟩
              simp only [Option.getD_some, Option.isSome_some]
              have hb6 := hb5.alloc hb5.size (.cells #[.int .i64 y, .int .i64 z] 41)
              have HX : Hid (GSv w g0 nL DG #[.slice A0 k0 c0, .slice A1 k1 c1, .slice A2 k2 c2, .slice A3 k3 c3, .slice A4 k4 c4, .int .i64 t0, .int .i64 t1, .int .i64 t2, .int .i64 t3, .int .i64 t4] vg L (w5.alloc (.cells #[.int .i64 y, .int .i64 z] 41)) ∧ (w5.alloc (.cells #[.int .i64 y, .int .i64 z] 41)).ownsRow 0 3 1 (.slice (some ⟨bp, op, none⟩) p.length cp) p.length (ivals p) ∧ Row (w5.alloc (.cells #[.int .i64 y, .int .i64 z] 41)) nr 4 (cvals right).toArray ∧ Row (w5.alloc (.cells #[.int .i64 y, .int .i64 z] 41)) ne 41 #[.int .i64 e1, .int .i64 e2]) := ⟨HJ.out.2.1.call hb6, own_below HJ.out.2.2.1 hb6, Below.row hb6 HJ.out.2.2.2.1 HJ.out.2.2.2.1.lt, Below.row hb6 HJ.out.2.2.2.2 HJ.out.2.2.2.2.lt⟩
              have HXR := Lib.hid (Row.new w5 41 #[.int .i64 y, .int .i64 z])
              have HQY : Hid ((w5.alloc (.cells #[.int .i64 y, .int .i64 z] 41)).cell? ⟨bp, op + i, none⟩ = some (.int .i64 y)) := by
                obtain ⟨b9, o9, hA9, -, q9⟩ := (Rd.of_own HX.out.2.1).at (i := i) (u := .int .i64 p[i]) (by simp [ivals, hlt])
                injection hA9 with hA9
                injection hA9 with h1 h2
                subst h1 h2
                rw [HYI.out] at q9
                exact q9
              have HNE : Hid (w5.heap.size ≠ ne) := by have h1 := HJ.out.2.2.2.2.lt; have h2 := hb5.size; show _ ≠ _; omega
              clear hb5 hb6 f0 f1 HJ hnx HNXT
              go_upto_region 20 with (fail)
              obtain ⟨nx, hnx⟩ : ∃ n, n = w5.heap.size := ⟨_, rfl⟩
              rw [← hnx] at HXR HNE ⊢
              clear hnx
              generalize w5.alloc (.cells #[.int .i64 y, .int .i64 z] 41) = w6 at *
              have x0 := HXR.out.cell 0; have x1 := HXR.out.cell 1; have q0 := HQY.out
              simp only [List.getElem?_toArray, List.getElem?_cons_zero, List.getElem?_cons_succ] at x0 x1
              go_quiet (fail)
              have HX7 : Hid (∀ n, GSv w g0 nL DG #[.slice A0 k0 c0, .slice A1 k1 c1, .slice A2 k2 c2, .slice A3 k3 c3, .slice A4 k4 c4, .int .i64 t0, .int .i64 t1, .int .i64 t2, .int .i64 t3, .int .i64 t4] vg L (w6.drewN n) ∧ (w6.drewN n).ownsRow 0 3 1 (.slice (some ⟨bp, op, none⟩) p.length cp) p.length (ivals p) ∧ Row (w6.drewN n) nr 4 (cvals right).toArray ∧ Row (w6.drewN n) ne 41 #[.int .i64 e1, .int .i64 e2] ∧ Row (w6.drewN n) nx 41 #[.int .i64 y, .int .i64 z]) := fun n => ⟨HX.out.1.drewN n, HX.out.2.1, HX.out.2.2.1, HX.out.2.2.2, HXR.out⟩
              clear HX HXR HQY x0 x1 q0
              go_upto_region 22 with (fail)
              have HX8 := Lib.hid (HX7.out nq)
              generalize w6.drewN nq = w7 at *
              clear HX7
              have x0 := HX8.out.2.2.2.2.cell 0; have x1 := HX8.out.2.2.2.2.cell 1
              have f0 := HX8.out.2.2.2.1.cell 0; have f1 := HX8.out.2.2.2.1.cell 1; have f2 := HX8.out.2.2.2.1.frozen 0; have f3 := HX8.out.2.2.2.1.frozen 1
              simp only [List.getElem?_toArray, List.getElem?_cons_zero, List.getElem?_cons_succ] at x0 x1 f0 f1
              have rs : Row ((w7.setCell ⟨ne, 0, none⟩ (.int .i64 y)).setCell ⟨ne, 1, none⟩ (.int .i64 (1 - z))) ne 41 #[.int .i64 y, .int .i64 (1 - z)] := (HX8.out.2.2.2.1.set 0 (.int .i64 y)).set 1 (.int .i64 (1 - z))
              have HNX : Hid (follow L right (y, 1 - z) (p.drop (i + 1)) = true ∧ GSv w g0 nL DG #[.slice A0 k0 c0, .slice A1 k1 c1, .slice A2 k2 c2, .slice A3 k3 c3, .slice A4 k4 c4, .int .i64 t0, .int .i64 t1, .int .i64 t2, .int .i64 t3, .int .i64 t4] vg L ((w7.setCell ⟨ne, 0, none⟩ (.int .i64 y)).setCell ⟨ne, 1, none⟩ (.int .i64 (1 - z))) ∧ ((w7.setCell ⟨ne, 0, none⟩ (.int .i64 y)).setCell ⟨ne, 1, none⟩ (.int .i64 (1 - z))).ownsRow 0 3 1 (.slice (some ⟨bp, op, none⟩) p.length cp) p.length (ivals p) ∧ Row ((w7.setCell ⟨ne, 0, none⟩ (.int .i64 y)).setCell ⟨ne, 1, none⟩ (.int .i64 (1 - z))) nr 4 (cvals right).toArray ∧ Row ((w7.setCell ⟨ne, 0, none⟩ (.int .i64 y)).setCell ⟨ne, 1, none⟩ (.int .i64 (1 - z))) ne 41 #[.int .i64 y, .int .i64 (1 - z)]) := by
                have h1 := own_ne HX8.out.2.1 HX8.out.2.2.2.1 (by decide)
                have h2 : nr ≠ ne := Row.ne HX8.out.2.2.1 HX8.out.2.2.2.1 (by decide)
                exact ⟨HF2.out, (HX8.out.1.set ⟨ne, 0, none⟩ HNE2.out _).set ⟨ne, 1, none⟩ HNE2.out _, own_far (own_far HX8.out.2.1 (fun e => h1 e.symm) _) (fun e => h1 e.symm) _, (HX8.out.2.2.1.far (p := ⟨ne, 0, none⟩) h2 _).far (p := ⟨ne, 1, none⟩) h2 _, rs⟩
              clear rs HX8
              go_wp2_with fail
              go_roundw
              case rel => exact ⟨i + 1, y, 1 - z, by omega, by omega, by go_num, HNX⟩
              case measure => simp [intOf]; omega
            · have HBF := Lib.hid HJ.out.2.1.1.bel
              clear HJ
              go_wp2_with fail
              go_ret
              exact ⟨rfl, by rw [← HG0.out]; exact HBF.out⟩
    · have h20i : (20 : Int) < (ts.length : Int) := by omega
      have h20n : 20 < ts.length := by omega
      go_enter Try.func6, Try.ntmps6
      go_upto_region 1 with (fail)
      obtain ⟨g0, hg0⟩ : ∃ n, n = w.heap.size := ⟨_, rfl⟩
      rw [← hg0] at HRW ⊢
      have HG0 : Hid (g0 = w.heap.size) := hg0
      generalize w.alloc (.cells #[.int .u8 (d0.form : Int), .int .u8 (d0.len : Int), .int .u8 (d0.speed : Int), .int .u16 (d0.mute : Int), .int .u16 (d0.wait : Int), .int .u8 (d0.cancel : Int), .int .u8 (d0.stay : Int), .int .u8 (d0.join : Int), .slice Ar kr cr] 25) = W0 at *
      clear hg0
      go_wp2_with fail
      refine (joins_any _).mono ?_; rintro e wA ⟨rfl, hbA⟩
      have HA := Lib.hid (HB0.out.trans (hbA.mono HB0.out.size))
      have HRA := Lib.hid (Below.row hbA HRW.out HRW.out.lt)
      have HBA := Lib.hid (HBR.out.up hbA)
      clear hbA HB0 HRW HBR
      have f0 := HRA.out.cell 0
      have f1 := HRA.out.cell 1
      have f2 := HRA.out.cell 2
      have f3 := HRA.out.cell 3
      have f4 := HRA.out.cell 4
      have f5 := HRA.out.cell 5
      have f6 := HRA.out.cell 6
      have f7 := HRA.out.cell 7
      have f8 := HRA.out.cell 8
      simp only [List.getElem?_toArray, List.getElem?_cons_zero, List.getElem?_cons_succ] at f0 f1 f2 f3 f4 f5 f6 f7 f8
      go_wp2_with fail
      refine (small_any wA d0 (.slice Ar kr cr) HBA.out HL.out.1 HL.out.2).mono ?_; rintro e wB ⟨rfl, hbB⟩
      clear f0 f1 f2 f3 f4 f5 f6 f7 f8
      rw [hs]
      have HB := Lib.hid (HA.out.trans (hbB.mono HA.out.size))
      have HRB := Lib.hid (Below.row hbB HRA.out HRA.out.lt)
      have HBB := Lib.hid (HBA.out.up hbB)
      clear hbB HA HRA HBA
      go_wp2_with fail
      refine (joins_any _).mono ?_; rintro e wZ ⟨rfl, hbZ⟩
      have HZ := Lib.hid (HB.out.trans (hbZ.mono HB.out.size))
      clear hbZ
      go_wp2_with fail
      go_ret
      exact ⟨rfl, by rw [← HG0.out] at HZ ⊢; exact HZ.out⟩

theorem lifted (os : Os) (started : os.Started) (H : Type) (enc : TypeId × Value → H) :
    ReturnsInHanded {} Try.checked os 6 .any (Rows.graphNeedsSpec.pre6 enc Try.prog Try.f6 Rows.graphNeedsRow.domain false) (Rows.graphNeedsSpec.post enc Try.prog Try.f6 false true false false) := by
  refine returnsInHanded_of_change (C := Try.checked) own started (by kernel_rfl) Try.func6
    (ChangeSpec.witness6 (enc := enc) (C := Try.checked) false ⟨#[], #[.agg #[.int .u8 0, .int .u8 0, .int .u8 0, .int .u16 0, .int .u16 0, .int .u8 0, .int .u8 0, .int .u8 0, .slice none 0 0], .int .u8 0, .slice none 0 0], []⟩ 8 (by kernel_rfl) (by kernel_rfl) (by kernel_rfl) (by kernel_rfl)) ?_
  intro W base args ds gs before hval0 hW hcnd _
  have hval : ∀ (j : Nat) t v, Try.f6.params[j]? = some t → args[j]? = some v → Value.okWide Try.prog W .any base t v := hval0
  have hW' := hW
  obtain ⟨p, q, hA0, hV, rfl, hfz, hnd⟩ := hW
  have hA : DataW.TrodAll enc Try.prog W 0 (fun _ => true) true Try.f6.params.toList args.toList ds p := hA0
  rw [Try.params6] at hA hval
  obtain ⟨v0, vs0, d0, ds0, p0, q0, hargs, rfl, rfl, h0, r0⟩ := trodAll_cons hA
  obtain ⟨v1, vs1, d1, ds1, p1, q1, rfl, rfl, rfl, h1, r1⟩ := trodAll_cons r0
  obtain ⟨v2, vs2, d2, ds2, p2, q2, rfl, rfl, rfl, h2, r2⟩ := trodAll_cons r1
  obtain ⟨rfl, rfl, rfl⟩ := trodAll_nil r2
  obtain rfl : args = #[v0, v1, v2] := by cases args; simp_all
  obtain ⟨rfl, rfl⟩ := trodVars_none hV
  have k0 := h0
  have lt0 : ∀ x ∈ p0, x.block < W.heap.size := by obtain ⟨m, hm⟩ := k0; exact DataW.trod_lt m _ _ _ hm
  obtain ⟨e0, vr0, hv0, w0⟩ := draft_of_trod (hval 0 25 v0 rfl rfl) h0
  subst hv0
  obtain ⟨a1, rfl, rfl, rfl, w1⟩ := open_int Try.underlying5 (hval 1 5 v1 rfl rfl) h1
  obtain ⟨a2, len2, cap2, rfl⟩ := okWide_slice Try.underlying47 (hval 2 47 v2 rfl rfl)
  have k2 := h2
  have lt2 : ∀ x ∈ p2, x.block < W.heap.size := by obtain ⟨m, hm⟩ := k2; exact DataW.trod_lt m _ _ _ hm
  obtain ⟨z2, w2⟩ : ∃ zs, IsRow .u8 W a2 len2 cap2 zs := by
    obtain ⟨fuel, hf⟩ := h2
    rcases open_ints Try.underlying47 Try.underlying5 (by kernel_rfl) hf with ⟨hcs, _⟩ | ⟨x, l, c, zs, hcs, _, hl, hm, hz, _, hcell, hwz⟩
    · simp [Value.cells] at hcs
      obtain ⟨rfl, rfl, rfl⟩ := hcs
      exact ⟨[], .inl ⟨rfl, rfl, rfl, rfl⟩⟩
    · simp [Value.cells] at hcs
      obtain ⟨rfl, rfl, rfl⟩ := hcs
      exact ⟨zs, .inr ⟨_, rfl, hl, hm, by simpa using hz, hcell, hwz⟩⟩
  clear hA0 hval0
  refine (walk e0 vr0 a1 a2 len2 cap2 z2 W w0 w1 w2).mono fun e W' ⟨he, bel⟩ => ?_
  subst he
  exact ⟨_, rfl, _, _, _, [], _, [], hW', trodAll_mk1 (shut_bool Try.underlying4 _), (trodAll_cons_mk (Below.trod laidOut (by kernel_rfl) (of_decide_eq_true (by kernel_rfl)) k0 bel lt0) (trodAll_cons_mk (shut_int Try.underlying5 w1) (trodAll_cons_mk (Below.trod laidOut (by kernel_rfl) (of_decide_eq_true (by kernel_rfl)) k2 bel lt2) trodAll_mk0))), rfl, bel.frame _, fun h => by cases h⟩

theorem over : Rows.graphNeedsRow.holds Try.pinned (OpenSpec.ofChange Rows.graphNeedsSpec) :=
  OpenClaim.holds_of_wide 6 Try.f6 rfl rfl rfl rfl rfl rfl rfl ⟨rfl, rfl, rfl, rfl, rfl⟩ rfl rfl rfl rfl rfl (by kernel_rfl) Try.func6 (by kernel_rfl)
    (of_decide_eq_true (by kernel_rfl)) (by unfold Func.isWrapper; first | (rw [if_pos (by decide +kernel)]; kernel_rfl) | (rw [if_neg (by decide +kernel)]; exact ⟨rfl, rfl⟩))
    (fun os started H enc _ => lifted os started H enc)

theorem proved : Rows.GraphNeedsSaid := over
#print axioms proved
end Go.Proofs.Ytpipkbdkkbcooaa.graphNeeds
