/- The law ChainHeard. -/
import Derived.Test.YtbomkifnhkmkoaaD1
namespace Go.Proofs.Ytbomkifnhkmkoaa
open Go.RowKit Fl
set_option maxRecDepth 100000

set_option maxHeartbeats 16000000 in
theorem lawHeard (w : World) (d : Dr) (vr : Value) (x : Sp) (At : Option Addr) (ct : Nat) (Ar : Option Addr) (cr : Nat) (hd : DrOk d) (hbr : BRows w w.heap.size vr d.routes) (hl : d.routes.length ≤ 9223372036854775807) (hrl : ∀ r ∈ d.routes, r.length ≤ 9223372036854775807)
    (hx : SpOk x) (ht : Rd w w.heap.size (.slice At x.ts.length ct) (bvals x.ts)) (hri : Rd w w.heap.size (.slice Ar x.ri.length cr) (cvals x.ri)) :
    Calls Try.prog 6 #[drV d vr, spV x (.slice At x.ts.length ct) (.slice Ar x.ri.length cr)] w (RetL true w) := by
  obtain ⟨Ad, kd, cd, hvr⟩ : ∃ A k c, vr = .slice A k c := by obtain ⟨vs, ⟨A, c, e, _⟩, _⟩ := hbr; exact ⟨A, _, c, e⟩
  subst hvr
  have HSM : Hid (∀ W, Below w.heap.size w W → Calls Try.prog 10 #[.agg #[.int .u8 (d.form : Int), .int .u8 (d.len : Int), .int .u8 (d.speed : Int), .int .u16 (d.mute : Int), .int .u16 (d.wait : Int), .int .u8 (d.cancel : Int), .int .u8 (d.stay : Int), .int .u8 (d.join : Int), .slice Ad kd cd], .agg #[.int .u8 (x.fr : Int), .int .u8 (x.lo : Int), .slice At x.ts.length ct, .int .u16 (x.ah : Int), .int .u16 (x.he : Int), .int .u16 (x.tk : Int), .int .u16 (x.sp : Int), .slice Ar x.ri.length cr]] W (RetL (smallX d x) W)) := fun W hW => smallX_any W d (.slice Ad kd cd) x At ct Ar cr (hbr.up hW) hl hrl
  have HOF : Hid (smallX d x = true → ∀ W, Below w.heap.size w W → Calls Try.prog 11 #[.agg #[.int .u8 (d.form : Int), .int .u8 (d.len : Int), .int .u8 (d.speed : Int), .int .u16 (d.mute : Int), .int .u16 (d.wait : Int), .int .u8 (d.cancel : Int), .int .u8 (d.stay : Int), .int .u8 (d.join : Int), .slice Ad kd cd], .agg #[.int .u8 (x.fr : Int), .int .u8 (x.lo : Int), .slice At x.ts.length ct, .int .u16 (x.ah : Int), .int .u16 (x.he : Int), .int .u16 (x.tk : Int), .int .u16 (x.sp : Int), .slice Ar x.ri.length cr]] W (RetOf (fullL d) x W)) := fun hs W hW => by
    unfold smallX at hs
    rw [Bool.and_eq_true, Bool.and_eq_true, decide_eq_true_iff, decide_eq_true_iff] at hs
    exact of_any W d (.slice Ad kd cd) x At ct Ar cr hd (hbr.up hW) hs.1 hx ((ht.below hW (Nat.le_refl _)).mono hW.size (fun _ _ => rfl)) (by omega)
  have HLF := Lib.hid (full_f d)
  have HTRA : Hid (Tra (fullL d) (repT (fullL d) x.fr x.lo x.ts) (1 - ((x.fr / 128 : Nat) : Int))) := rep_tra (tame_full d) x.fr x.lo x.ts (full_secs d).1 hx.fr
  have HNUM : Hid ((0 ≤ (x.he : Int) ∧ (x.he : Int) < 65536) ∧ (0 ≤ (x.tk : Int) ∧ (x.tk : Int) < 65536) ∧ (0 ≤ ((x.sp % 10001 : Nat) : Int) ∧ ((x.sp % 10001 : Nat) : Int) ≤ 10000) ∧ (0 ≤ ((repA (fullL d) x.fr x.ah : Nat) : Int) ∧ ((repA (fullL d) x.fr x.ah : Nat) : Int) < 65536)) := by
    have h1 := hx.he; have h2 := hx.tk; have h3 := hx.ah
    have h4 : repA (fullL d) x.fr x.ah ≤ x.ah := Nat.mod_le _ _
    show (_ ∧ _) ∧ (_ ∧ _) ∧ (_ ∧ _) ∧ (_ ∧ _)
    omega
  have HRI := Lib.hid hri
  clear hbr hl hrl hx ht hri hd
  unfold drV spV
  have HB0 := Lib.hid (below2 w (.cells #[.int .u8 (d.form : Int), .int .u8 (d.len : Int), .int .u8 (d.speed : Int), .int .u16 (d.mute : Int), .int .u16 (d.wait : Int), .int .u8 (d.cancel : Int), .int .u8 (d.stay : Int), .int .u8 (d.join : Int), .slice Ad kd cd] 25) (.cells #[.int .u8 (x.fr : Int), .int .u8 (x.lo : Int), .slice At x.ts.length ct, .int .u16 (x.ah : Int), .int .u16 (x.he : Int), .int .u16 (x.tk : Int), .int .u16 (x.sp : Int), .slice Ar x.ri.length cr] 29))
  have HRD := Lib.hid ((Row.new w 25 #[.int .u8 (d.form : Int), .int .u8 (d.len : Int), .int .u8 (d.speed : Int), .int .u16 (d.mute : Int), .int .u16 (d.wait : Int), .int .u8 (d.cancel : Int), .int .u8 (d.stay : Int), .int .u8 (d.join : Int), .slice Ad kd cd]).alloc (.cells #[.int .u8 (x.fr : Int), .int .u8 (x.lo : Int), .slice At x.ts.length ct, .int .u16 (x.ah : Int), .int .u16 (x.he : Int), .int .u16 (x.tk : Int), .int .u16 (x.sp : Int), .slice Ar x.ri.length cr] 29))
  have hr1 := Row.new (w.alloc (.cells #[.int .u8 (d.form : Int), .int .u8 (d.len : Int), .int .u8 (d.speed : Int), .int .u16 (d.mute : Int), .int .u16 (d.wait : Int), .int .u8 (d.cancel : Int), .int .u8 (d.stay : Int), .int .u8 (d.join : Int), .slice Ad kd cd] 25)) 29 #[.int .u8 (x.fr : Int), .int .u8 (x.lo : Int), .slice At x.ts.length ct, .int .u16 (x.ah : Int), .int .u16 (x.he : Int), .int .u16 (x.tk : Int), .int .u16 (x.sp : Int), .slice Ar x.ri.length cr]
  rw [World.size_alloc] at hr1
  have HRX := Lib.hid hr1
  clear hr1
  obtain ⟨tn, htn⟩ : ∃ n, x.ts.length = n := ⟨_, rfl⟩
  rw [htn] at HSM HOF HB0 HRD HRX ⊢
  generalize fullL d = L at *
  obtain ⟨T, hT⟩ : ∃ T, repT L x.fr x.lo x.ts = T := ⟨_, rfl⟩
  have HTT : Hid (repT L x.fr x.lo x.ts = T) := hT
  rw [hT] at HTRA
  clear hT
  obtain ⟨R, hR⟩ : ∃ R, x.ri = R := ⟨_, rfl⟩
  rw [hR] at HSM HOF HB0 HRD HRX HRI ⊢
  cases hs : smallX d x with
  | false =>
    go_enter Try.func6, Try.ntmps6
    go_upto_region 1 with (fail)
    obtain ⟨n0, hn0⟩ : ∃ n, n = w.heap.size := ⟨_, rfl⟩
    obtain ⟨n1, hn1⟩ : ∃ n, n = n0 + 1 := ⟨_, rfl⟩
    have HN : Hid (n0 = w.heap.size) := hn0
    rw [← hn0] at HRD HRX ⊢
    rw [← hn1] at HRX ⊢
    clear hn0 hn1
    generalize (w.alloc (.cells #[.int .u8 (d.form : Int), .int .u8 (d.len : Int), .int .u8 (d.speed : Int), .int .u16 (d.mute : Int), .int .u16 (d.wait : Int), .int .u8 (d.cancel : Int), .int .u8 (d.stay : Int), .int .u8 (d.join : Int), .slice Ad kd cd] 25)).alloc (.cells #[.int .u8 (x.fr : Int), .int .u8 (x.lo : Int), .slice At tn ct, .int .u16 (x.ah : Int), .int .u16 (x.he : Int), .int .u16 (x.tk : Int), .int .u16 (x.sp : Int), .slice Ar R.length cr] 29) = W0 at *
    go_wp2_with fail
    refine (later_any W0).mono ?_; rintro e wA ⟨rfl, hbA⟩
    have HA := Lib.hid (HB0.out.trans (hbA.mono HB0.out.size))
    have HDA := Lib.hid (Below.row hbA HRD.out HRD.out.lt)
    have HXA := Lib.hid (Below.row hbA HRX.out HRX.out.lt)
    clear hbA HB0 HRD HRX
    have f0 := HDA.out.cell 0; have f1 := HDA.out.cell 1; have f2 := HDA.out.cell 2; have f3 := HDA.out.cell 3; have f4 := HDA.out.cell 4; have f5 := HDA.out.cell 5; have f6 := HDA.out.cell 6; have f7 := HDA.out.cell 7; have f8 := HDA.out.cell 8
    simp only [List.getElem?_toArray, List.getElem?_cons_zero, List.getElem?_cons_succ] at f0 f1 f2 f3 f4 f5 f6 f7 f8
    have x0 := HXA.out.cell 0; have x1 := HXA.out.cell 1; have x2 := HXA.out.cell 2; have x3 := HXA.out.cell 3; have x4 := HXA.out.cell 4; have x5 := HXA.out.cell 5; have x6 := HXA.out.cell 6; have x7 := HXA.out.cell 7
    simp only [List.getElem?_toArray, List.getElem?_cons_zero, List.getElem?_cons_succ] at x0 x1 x2 x3 x4 x5 x6 x7
    go_wp2_with fail
    refine (HSM.out wA HA.out).mono ?_; rintro e wB ⟨rfl, hbB⟩
    rw [hs]
    have HB := Lib.hid (HA.out.trans (hbB.mono HA.out.size))
    clear hbB f0 f1 f2 f3 f4 f5 f6 f7 f8 x0 x1 x2 x3 x4 x5 x6 x7 HA HDA HXA
    go_wp2_with fail
    refine (later_any wB).mono ?_; rintro e wZ ⟨rfl, hbZ⟩
    have HZ := Lib.hid (HB.out.trans (hbZ.mono HB.out.size))
    clear hbZ
    go_wp2_with fail
    go_ret
    exact ⟨rfl, HZ.out⟩
  | true =>
    go_enter Try.func6, Try.ntmps6
    go_upto_region 1 with (fail)
    obtain ⟨n0, hn0⟩ : ∃ n, n = w.heap.size := ⟨_, rfl⟩
    obtain ⟨n1, hn1⟩ : ∃ n, n = n0 + 1 := ⟨_, rfl⟩
    have HN : Hid (n0 = w.heap.size) := hn0
    rw [← hn0] at HRD HRX ⊢
    rw [← hn1] at HRX ⊢
    clear hn0 hn1
    generalize (w.alloc (.cells #[.int .u8 (d.form : Int), .int .u8 (d.len : Int), .int .u8 (d.speed : Int), .int .u16 (d.mute : Int), .int .u16 (d.wait : Int), .int .u8 (d.cancel : Int), .int .u8 (d.stay : Int), .int .u8 (d.join : Int), .slice Ad kd cd] 25)).alloc (.cells #[.int .u8 (x.fr : Int), .int .u8 (x.lo : Int), .slice At tn ct, .int .u16 (x.ah : Int), .int .u16 (x.he : Int), .int .u16 (x.tk : Int), .int .u16 (x.sp : Int), .slice Ar R.length cr] 29) = W0 at *
    go_wp2_with fail
    refine (later_any W0).mono ?_; rintro e wA ⟨rfl, hbA⟩
    have HA := Lib.hid (HB0.out.trans (hbA.mono HB0.out.size))
    have HDA := Lib.hid (Below.row hbA HRD.out HRD.out.lt)
    have HXA := Lib.hid (Below.row hbA HRX.out HRX.out.lt)
    clear hbA HB0 HRD HRX
    have f0 := HDA.out.cell 0; have f1 := HDA.out.cell 1; have f2 := HDA.out.cell 2; have f3 := HDA.out.cell 3; have f4 := HDA.out.cell 4; have f5 := HDA.out.cell 5; have f6 := HDA.out.cell 6; have f7 := HDA.out.cell 7; have f8 := HDA.out.cell 8
    simp only [List.getElem?_toArray, List.getElem?_cons_zero, List.getElem?_cons_succ] at f0 f1 f2 f3 f4 f5 f6 f7 f8
    have x0 := HXA.out.cell 0; have x1 := HXA.out.cell 1; have x2 := HXA.out.cell 2; have x3 := HXA.out.cell 3; have x4 := HXA.out.cell 4; have x5 := HXA.out.cell 5; have x6 := HXA.out.cell 6; have x7 := HXA.out.cell 7
    simp only [List.getElem?_toArray, List.getElem?_cons_zero, List.getElem?_cons_succ] at x0 x1 x2 x3 x4 x5 x6 x7
    go_wp2_with fail
    refine (HSM.out wA HA.out).mono ?_; rintro e wB ⟨rfl, hbB⟩
    rw [hs]
    have HB := Lib.hid (HA.out.trans (hbB.mono HA.out.size))
    have HDB := Lib.hid (Below.row hbB HDA.out HDA.out.lt)
    have HXB := Lib.hid (Below.row hbB HXA.out HXA.out.lt)
    clear hbB f0 f1 f2 f3 f4 f5 f6 f7 f8 x0 x1 x2 x3 x4 x5 x6 x7 HA HDA HXA HSM
    have f0 := HDB.out.cell 0; have f1 := HDB.out.cell 1; have f2 := HDB.out.cell 2; have f3 := HDB.out.cell 3; have f4 := HDB.out.cell 4; have f5 := HDB.out.cell 5; have f6 := HDB.out.cell 6; have f7 := HDB.out.cell 7; have f8 := HDB.out.cell 8
    simp only [List.getElem?_toArray, List.getElem?_cons_zero, List.getElem?_cons_succ] at f0 f1 f2 f3 f4 f5 f6 f7 f8
    have x0 := HXB.out.cell 0; have x1 := HXB.out.cell 1; have x2 := HXB.out.cell 2; have x3 := HXB.out.cell 3; have x4 := HXB.out.cell 4; have x5 := HXB.out.cell 5; have x6 := HXB.out.cell 6; have x7 := HXB.out.cell 7
    simp only [List.getElem?_toArray, List.getElem?_cons_zero, List.getElem?_cons_succ] at x0 x1 x2 x3 x4 x5 x6 x7
    go_wp2_with fail
    refine (HOF.out hs wB HB.out).mono ?_; rintro e' wC ⟨vL, A, c, rfl, hvL, hrd, hbC⟩
    clear f0 f1 f2 f3 f4 f5 f6 f7 f8 x0 x1 x2 x3 x4 x5 x6 x7
    obtain ⟨he, hhe⟩ : ∃ z : Int, (x.he : Int) = z := ⟨_, rfl⟩
    obtain ⟨tk, htk⟩ : ∃ z : Int, (x.tk : Int) = z := ⟨_, rfl⟩
    obtain ⟨s8, hs8⟩ : ∃ z : Int, ((x.sp % 10001 : Nat) : Int) = z := ⟨_, rfl⟩
    obtain ⟨e, hee⟩ : ∃ z : Int, ((repA L x.fr x.ah : Nat) : Int) = z := ⟨_, rfl⟩
    obtain ⟨dv, hdv⟩ : ∃ z : Int, 1 - ((x.fr / 128 : Nat) : Int) = z := ⟨_, rfl⟩
    have HT2 : Hid (repT L x.fr x.lo x.ts = T) := HTT.out
    rw [HT2.out] at hrd ⊢
    rw [hhe, htk, hs8, hee] at HNUM
    rw [hdv] at HTRA
    rw [hdv, hhe, htk, hs8, hee]
    obtain ⟨A0, k0, c0, A1, k1, c1, A2, k2, c2, A3, k3, c3, A4, k4, c4, t0, t1, t2, t3, t4, hv, hlens⟩ := hvL.lens
    subst hv
    have HLENS := Lib.hid hlens
    have hba := ((Below.refl wC.heap.size wC).alloc (Nat.le_refl _) (.cells #[.slice A0 k0 c0, .slice A1 k1 c1, .slice A2 k2 c2, .slice A3 k3 c3, .slice A4 k4 c4, .int .i64 t0, .int .i64 t1, .int .i64 t2, .int .i64 t3, .int .i64 t4] 37)).alloc (by simp) (.cells (tcells 4 he (-1) dv e (.slice A T.length c)) 40)
    have hbb := hba.alloc hba.size (.cells (tcells 4 he (-1) dv e (.slice A T.length c)) 41)
    have HB1 := Lib.hid (HB.out.trans ((hbC.trans (hbb.mono hbC.size)).mono HB.out.size))
    have HXL : Hid (n1 < wC.heap.size) := by have h1 := HXB.out.lt; have h2 := hbC.size; show _ < _; omega
    have HX1 := Lib.hid (Below.row (hbC.trans (hbb.mono hbC.size)) HXB.out HXB.out.lt)
    have HV1 := Lib.hid (hvL.up hbb)
    have HT1 := Lib.hid (hrd.up hbb)
    have hy1 := ((Row.new wC 37 #[.slice A0 k0 c0, .slice A1 k1 c1, .slice A2 k2 c2, .slice A3 k3 c3, .slice A4 k4 c4, .int .i64 t0, .int .i64 t1, .int .i64 t2, .int .i64 t3, .int .i64 t4]).alloc (.cells (tcells 4 he (-1) dv e (.slice A T.length c)) 40)).alloc (.cells (tcells 4 he (-1) dv e (.slice A T.length c)) 41)
    have hy2 := (Row.new (wC.alloc (.cells #[.slice A0 k0 c0, .slice A1 k1 c1, .slice A2 k2 c2, .slice A3 k3 c3, .slice A4 k4 c4, .int .i64 t0, .int .i64 t1, .int .i64 t2, .int .i64 t3, .int .i64 t4] 37)) 40 (tcells 4 he (-1) dv e (.slice A T.length c))).alloc (.cells (tcells 4 he (-1) dv e (.slice A T.length c)) 41)
    have hy3 := Row.new ((wC.alloc (.cells #[.slice A0 k0 c0, .slice A1 k1 c1, .slice A2 k2 c2, .slice A3 k3 c3, .slice A4 k4 c4, .int .i64 t0, .int .i64 t1, .int .i64 t2, .int .i64 t3, .int .i64 t4] 37)).alloc (.cells (tcells 4 he (-1) dv e (.slice A T.length c)) 40)) 41 (tcells 4 he (-1) dv e (.slice A T.length c))
    rw [World.size_alloc] at hy2
    rw [World.size_alloc, World.size_alloc] at hy3
    have HL1 := Lib.hid hy1; have HTT1 := Lib.hid hy2; have HRR1 := Lib.hid hy3
    clear hba hbb hbC hvL hrd hy1 hy2 hy3 hlens HB HDB HXB HOF
    go_upto_region 4 with (fail)
    obtain ⟨nL, hnL⟩ : ∃ n, n = wC.heap.size := ⟨_, rfl⟩
    obtain ⟨nT, hnT⟩ : ∃ n, n = nL + 1 := ⟨_, rfl⟩
    obtain ⟨nR, hnR⟩ : ∃ n, n = nT + 1 := ⟨_, rfl⟩
    rw [← hnL] at HL1 HTT1 HRR1 ⊢
    rw [← hnT] at HTT1 HRR1 ⊢
    rw [← hnR] at HRR1 ⊢
    have HNB : Hid (n1 < nL ∧ nT = nL + 1 ∧ nR = nT + 1) := ⟨by have := HXL.out; omega, hnT, hnR⟩
    clear hnL hnT hnR
    generalize ((wC.alloc (.cells #[.slice A0 k0 c0, .slice A1 k1 c1, .slice A2 k2 c2, .slice A3 k3 c3, .slice A4 k4 c4, .int .i64 t0, .int .i64 t1, .int .i64 t2, .int .i64 t3, .int .i64 t4] 37)).alloc (.cells (tcells 4 he (-1) dv e (.slice A T.length c)) 40)).alloc (.cells (tcells 4 he (-1) dv e (.slice A T.length c)) 41) = wD at *
    have p0 := HL1.out.cell 0; have p1 := HL1.out.cell 1; have p2 := HL1.out.cell 2; have p3 := HL1.out.cell 3; have p4 := HL1.out.cell 4; have p5 := HL1.out.cell 5; have p6 := HL1.out.cell 6; have p7 := HL1.out.cell 7; have p8 := HL1.out.cell 8; have p9 := HL1.out.cell 9
    simp only [List.getElem?_toArray, List.getElem?_cons_zero, List.getElem?_cons_succ] at p0 p1 p2 p3 p4 p5 p6 p7 p8 p9
    go_wp2_with fail
    refine (new_any wD _ L HV1.out HLF.out.fits).mono ?_; rintro e' wE ⟨vg, rfl, hg, hbE⟩
    have HST : Hid (CSt w n1 nL nT nR #[.int .u8 (x.fr : Int), .int .u8 (x.lo : Int), .slice At tn ct, .int .u16 (x.ah : Int), .int .u16 (x.he : Int), .int .u16 (x.tk : Int), .int .u16 (x.sp : Int), .slice Ar R.length cr] #[.slice A0 k0 c0, .slice A1 k1 c1, .slice A2 k2 c2, .slice A3 k3 c3, .slice A4 k4 c4, .int .i64 t0, .int .i64 t1, .int .i64 t2, .int .i64 t3, .int .i64 t4] (tcells 4 he (-1) dv e (.slice A T.length c)) vg wE.heap.size L A c T Ar cr R wE) :=
      ⟨HB1.out.trans (hbE.mono HB1.out.size), Below.row hbE HX1.out HX1.out.lt, Below.row hbE HL1.out HL1.out.lt, Below.row hbE HTT1.out HTT1.out.lt, Below.row hbE HRR1.out HRR1.out.lt, HV1.out.up hbE, hg, HT1.out.up hbE, (HRI.out.below (HB1.out.trans (hbE.mono HB1.out.size)) (Nat.le_refl _)).mono (HB1.out.trans (hbE.mono HB1.out.size)).size (fun _ _ => rfl), Nat.le_refl _⟩
    clear hg hbE p0 p1 p2 p3 p4 p5 p6 p7 p8 p9 HB1 HX1 HL1 HTT1 HRR1 HV1 HT1 HRI HTT HT2
    generalize wE.heap.size = DG at *
    clear hhe htk hs8 hee hdv hs hR htn
    obtain ⟨x0, hx0⟩ : ∃ q, T.getD 0 0 = q := ⟨_, rfl⟩
    have HX0 := Lib.hid hx0
    have hTp := HTRA.out.pos
    have hT0 : T[0]? = some x0 := by rw [← hx0]; simp [List.getD, hTp]
    have HT0 := Lib.hid hT0
    clear hx0 hT0
    obtain ⟨hn1, hn2, hn3, hn4⟩ := HNUM.out
    obtain ⟨k, hk0, hk1, hk2, hk3⟩ : ∃ k : Int, 0 ≤ k ∧ k < 65536 ∧ s8 * k ≤ e ∧ ((0 < s8 → e.tdiv s8 = k ∧ e / s8 = k) ∧ (¬ 0 < s8 → k = 0)) := by
      by_cases h : 0 < s8
      · refine ⟨e / s8, Int.ediv_nonneg hn4.1 (by omega), ?_, ?_, fun _ => ⟨Int.tdiv_eq_ediv_of_nonneg hn4.1, rfl⟩, fun h' => absurd h h'⟩
        · have := Int.ediv_le_self s8 hn4.1; omega
        · rw [Int.mul_comm]; exact Int.ediv_mul_le e (by omega)
      · exact ⟨0, by omega, by omega, by omega, fun h' => absurd h' h, fun _ => rfl⟩
    have HK3 := Lib.hid hk3
    have HS1 : Hid (∀ W, CSt w n1 nL nT nR #[.int .u8 (x.fr : Int), .int .u8 (x.lo : Int), .slice At tn ct, .int .u16 (x.ah : Int), .int .u16 (x.he : Int), .int .u16 (x.tk : Int), .int .u16 (x.sp : Int), .slice Ar R.length cr] #[.slice A0 k0 c0, .slice A1 k1 c1, .slice A2 k2 c2, .slice A3 k3 c3, .slice A4 k4 c4, .int .i64 t0, .int .i64 t1, .int .i64 t2, .int .i64 t3, .int .i64 t4] (tcells 4 he (-1) dv e (.slice A T.length c)) vg DG L A c T Ar cr R W → Calls Try.prog 15 #[vg, .agg (tcells 4 he (-1) dv e (.slice A T.length c)), .int .i64 he, .int .i64 s8, .slice Ar R.length cr] W (RetOwn W.heap.size T W)) := fun W h => by
      have h1 := h.span HLF.out HTRA.out he s8 (by omega) (by omega) (by omega)
      rw [span_still (by omega) (by rw [Int.sub_self, Int.mul_zero]; omega)] at h1
      exact h1
    have HS2 : Hid (∀ W, CSt w n1 nL nT nR #[.int .u8 (x.fr : Int), .int .u8 (x.lo : Int), .slice At tn ct, .int .u16 (x.ah : Int), .int .u16 (x.he : Int), .int .u16 (x.tk : Int), .int .u16 (x.sp : Int), .slice Ar R.length cr] #[.slice A0 k0 c0, .slice A1 k1 c1, .slice A2 k2 c2, .slice A3 k3 c3, .slice A4 k4 c4, .int .i64 t0, .int .i64 t1, .int .i64 t2, .int .i64 t3, .int .i64 t4] (tcells 4 he (-1) dv e (.slice A T.length c)) vg DG L A c T Ar cr R W → Calls Try.prog 15 #[vg, .agg (tcells 4 he (-1) dv e (.slice A T.length c)), .int .i64 (he + k), .int .i64 s8, .slice Ar R.length cr] W (RetOwn W.heap.size T W)) := fun W h => by
      have h1 := h.span HLF.out HTRA.out (he + k) s8 (by omega) (by omega) (by omega)
      rw [span_still (by omega) (by rw [show he + k - he = k by omega]; omega)] at h1
      exact h1
    have HF1 : Hid (∀ W, CSt w n1 nL nT nR #[.int .u8 (x.fr : Int), .int .u8 (x.lo : Int), .slice At tn ct, .int .u16 (x.ah : Int), .int .u16 (x.he : Int), .int .u16 (x.tk : Int), .int .u16 (x.sp : Int), .slice Ar R.length cr] #[.slice A0 k0 c0, .slice A1 k1 c1, .slice A2 k2 c2, .slice A3 k3 c3, .slice A4 k4 c4, .int .i64 t0, .int .i64 t1, .int .i64 t2, .int .i64 t3, .int .i64 t4] (tcells 4 he (-1) dv e (.slice A T.length c)) vg DG L A c T Ar cr R W → Calls Try.prog 16 #[vg, .agg (tcells 4 he (-1) dv e (.slice A T.length c)), .int .i64 he, .int .i64 s8, .slice Ar R.length cr] W (fun y w' => y = .returned (.agg #[.int .i64 x0, .int .i64 dv]) ∧ Below W.heap.size W w')) := fun W h => by
      have h1 := h.front HLF.out HTRA.out he s8 (by omega) (by omega) (by omega)
      rw [ahead_still (by omega) (by rw [Int.sub_self, Int.mul_zero]; omega), HX0.out] at h1
      exact h1
    have HS3 : Hid (∀ W : World, Calls Try.prog 15 #[vg, .agg (tcells 4 he (-1) dv e (.slice none 0 0)), .int .i64 (he + 9), .int .i64 s8, .slice Ar R.length cr] W (RetOwn W.heap.size [] W)) := fun W =>
      span_of W vg _ 4 he (-1) dv e none 0 [] (he + 9) s8 ([], (-1, 0)) (Rd.empty _ _) (by decide) (by decide) (fun V _ => ahead_bare V vg _ 4 he (-1) dv e none 0 (he + 9) s8)
    have HF2 : Hid (∀ W : World, Calls Try.prog 16 #[vg, .agg (tcells 4 he (-1) dv e (.slice none 0 0)), .int .i64 (he + 9), .int .i64 s8, .slice Ar R.length cr] W (fun y w' => y = .returned (.agg #[.int .i64 (-1), .int .i64 0]) ∧ Below W.heap.size W w')) := fun W =>
      front_of W vg _ 4 he (-1) dv e none 0 [] (he + 9) s8 ([], (-1, 0)) (fun V _ => ahead_bare V vg _ 4 he (-1) dv e none 0 (he + 9) s8)
    have hv1 : IntKind.i64.wrap (he + k) = he + k := IntWalk.i64_in _ (by omega)
    have hv2 : IntKind.i64.wrap (he + 9) = he + 9 := IntWalk.i64_in _ (by omega)
    have hw3 : IntKind.i64.wrap k = k := IntWalk.i64_in _ (by omega)
    have HWS : Hid (IntKind.i64.wrap (he + k) = he + k ∧ IntKind.i64.wrap (he + 9) = he + 9) := ⟨hv1, hv2⟩
    have hKB : Hid (0 ≤ k ∧ k < 65536) := ⟨hk0, hk1⟩
    clear hv1 hv2 hk0 hk1 hk2 hk3 hTp hn1 hn2 hn3 hn4
    go_upto_if 34 with (fail)
    go_cut [11] (fun v wx => v = .int .i64 k ∧ wx = wE)
    case first =>
      by_cases h : 0 < s8
      · have hk1 := (HK3.out.1 h).1; have hk2 := (HK3.out.1 h).2
        have hs0 : ¬ s8 = 0 := by omega
        have q4 := HST.out.rt.cell 4
        simp only [List.getElem?_toArray, List.getElem?_cons_zero, List.getElem?_cons_succ] at q4
        go_wp2_with fail
        go_meet
        case rel => exact ⟨rfl, rfl⟩
      · have hkk := HK3.out.2 (by omega)
        go_wp2_with fail
        go_meet
        case rel => exact ⟨by rw [hkk], rfl⟩
    case rest =>
    obtain ⟨rfl, hwc⟩ := hcut
    have hwd := hwc.symm
    subst hwd
    obtain ⟨bt, ot, hAt, -, z0⟩ := HST.out.tr.at (i := 0) (u := .int .i64 x0) (by simp [ivals, HT0.out])
    subst hAt
    clear z0
    have HZ : Hid (∀ V, CSt w n1 nL nT nR #[.int .u8 (x.fr : Int), .int .u8 (x.lo : Int), .slice At tn ct, .int .u16 (x.ah : Int), .int .u16 (x.he : Int), .int .u16 (x.tk : Int), .int .u16 (x.sp : Int), .slice Ar R.length cr] #[.slice A0 k0 c0, .slice A1 k1 c1, .slice A2 k2 c2, .slice A3 k3 c3, .slice A4 k4 c4, .int .i64 t0, .int .i64 t1, .int .i64 t2, .int .i64 t3, .int .i64 t4] (tcells 4 he (-1) dv e (.slice (some ⟨bt, ot, none⟩) T.length c)) vg DG L (some ⟨bt, ot, none⟩) c T Ar cr R V → V.cell? ⟨bt, ot, none⟩ = some (.int .i64 x0)) := fun V h => by
      obtain ⟨b2, o2, hA2, -, z0⟩ := h.tr.at (i := 0) (u := .int .i64 x0) (by simp [ivals, HT0.out])
      injection hA2 with hA2
      injection hA2 with h1 h2
      rw [h1, h2]
      rw [Nat.add_zero] at z0
      exact z0
    have q0 := HST.out.rt.cell 0; have q1 := HST.out.rt.cell 1; have q2 := HST.out.rt.cell 2; have q3 := HST.out.rt.cell 3; have q4 := HST.out.rt.cell 4; have q5 := HST.out.rt.cell 5
    simp only [List.getElem?_toArray, List.getElem?_cons_zero, List.getElem?_cons_succ] at q0 q1 q2 q3 q4 q5
    go_upto_region 9 with (fail)
    clear q0 q1 q2 q3 q4 q5
    obtain ⟨nB, hnB⟩ : ∃ n, n = wE.heap.size := ⟨_, rfl⟩
    have HBq := Lib.hid (Row.new wE 40 (tcells 4 he (-1) dv e (.slice (some ⟨bt, ot, none⟩) T.length c)))
    have hbq : Below wE.heap.size wE ((wE.alloc (.cells (tcells 4 he (-1) dv e (.slice (some ⟨bt, ot, none⟩) T.length c)) 40)).setCell ⟨nB, 5, none⟩ (.slice none 0 0)) := ((Below.refl wE.heap.size wE).alloc (Nat.le_refl _) (.cells (tcells 4 he (-1) dv e (.slice (some ⟨bt, ot, none⟩) T.length c)) 40)).setCell (p := ⟨nB, 5, none⟩) (by show _ ≤ nB; omega) _
    have HSq := Lib.hid (HST.out.call hbq)
    rw [← hnB] at HBq ⊢
    clear hnB hbq HST
    generalize wE.alloc (.cells (tcells 4 he (-1) dv e (.slice (some ⟨bt, ot, none⟩) T.length c)) 40) = wQ at *
    have bb5 := HBq.out.cell 5; have zb5 := HBq.out.frozen 5
    simp only [List.getElem?_toArray, List.getElem?_cons_zero, List.getElem?_cons_succ] at bb5
    have HBr : Hid (Row (wQ.setCell ⟨nB, 5, none⟩ (.slice none 0 0)) nB 40 (tcells 4 he (-1) dv e (.slice none 0 0))) := HBq.out.set 5 _
    clear HBq
    go_upto_region 10 with (fail)
    clear bb5 zb5
    generalize wQ.setCell ⟨nB, 5, none⟩ (.slice none 0 0) = wR at *
    have HC0 := Lib.hid (HSq.out.call ((Below.refl wR.heap.size wR).drew))
    have HB0 : Hid (Row wR.drew nB 40 (tcells 4 he (-1) dv e (.slice none 0 0))) := HBr.out
    have HSS : Hid (∀ V, CSt w n1 nL nT nR #[.int .u8 (x.fr : Int), .int .u8 (x.lo : Int), .slice At tn ct, .int .u16 (x.ah : Int), .int .u16 (x.he : Int), .int .u16 (x.tk : Int), .int .u16 (x.sp : Int), .slice Ar R.length cr] #[.slice A0 k0 c0, .slice A1 k1 c1, .slice A2 k2 c2, .slice A3 k3 c3, .slice A4 k4 c4, .int .i64 t0, .int .i64 t1, .int .i64 t2, .int .i64 t3, .int .i64 t4] (tcells 4 he (-1) dv e (.slice (some ⟨bt, ot, none⟩) T.length c)) vg DG L (some ⟨bt, ot, none⟩) c T Ar cr R V → Row V nB 40 (tcells 4 he (-1) dv e (.slice none 0 0)) → V.cell? ⟨nT, 0, none⟩ = some (.int .i64 4) ∧ V.cell? ⟨nT, 1, none⟩ = some (.int .i64 he) ∧ V.cell? ⟨nT, 2, none⟩ = some (.int .i64 (-1)) ∧ V.cell? ⟨nT, 3, none⟩ = some (.int .i64 dv) ∧ V.cell? ⟨nT, 4, none⟩ = some (.int .i64 e) ∧ V.cell? ⟨nT, 5, none⟩ = some (.slice (some ⟨bt, ot, none⟩) T.length c) ∧ V.cell? ⟨nB, 0, none⟩ = some (.int .i64 4) ∧ V.cell? ⟨nB, 1, none⟩ = some (.int .i64 he) ∧ V.cell? ⟨nB, 2, none⟩ = some (.int .i64 (-1)) ∧ V.cell? ⟨nB, 3, none⟩ = some (.int .i64 dv) ∧ V.cell? ⟨nB, 4, none⟩ = some (.int .i64 e) ∧ V.cell? ⟨nB, 5, none⟩ = some (.slice none 0 0) ∧ V.cell? ⟨n1, 7, none⟩ = some (.slice Ar R.length cr) ∧ V.cell? ⟨bt, ot, none⟩ = some (.int .i64 x0)) := fun V h1 h2 => ⟨h1.rt.cell 0, h1.rt.cell 1, h1.rt.cell 2, h1.rt.cell 3, h1.rt.cell 4, h1.rt.cell 5, h2.cell 0, h2.cell 1, h2.cell 2, h2.cell 3, h2.cell 4, h2.cell 5, h1.rs.cell 7, HZ.out V h1⟩
    have HI : Hid (∀ (V : World) (v : Value), Rd V V.heap.size v (ivals T) → CSt w n1 nL nT nR #[.int .u8 (x.fr : Int), .int .u8 (x.lo : Int), .slice At tn ct, .int .u16 (x.ah : Int), .int .u16 (x.he : Int), .int .u16 (x.tk : Int), .int .u16 (x.sp : Int), .slice Ar R.length cr] #[.slice A0 k0 c0, .slice A1 k1 c1, .slice A2 k2 c2, .slice A3 k3 c3, .slice A4 k4 c4, .int .i64 t0, .int .i64 t1, .int .i64 t2, .int .i64 t3, .int .i64 t4] (tcells 4 he (-1) dv e (.slice (some ⟨bt, ot, none⟩) T.length c)) vg DG L (some ⟨bt, ot, none⟩) c T Ar cr R V → Calls Try.prog 14 #[v, .slice (some ⟨bt, ot, none⟩) T.length c] V (RetB true V)) := fun V v h1 h2 => ints_lit V v _ T h1 h2.tr (by have := HTRA.out.le; omega)
    have s0 := HSS.out wR.drew HC0.out HB0.out
    obtain ⟨r0, r1, r2, r3, r4, r5, r6, r7, r8, r9, r10, r11, r12, r13⟩ := (show _ from s0)
    have hx1 : (x0 == x0) = true := by simp
    have hx2 : (dv == dv) = true := by simp
    have hx3 : 0 < T.length := HTRA.out.pos
    have hx4 : (0 : Int) < (T.length : Int) := by omega
    have heql := eql_end
    have hw1 := HWS.out.1; have hw2 := HWS.out.2
    clear HZ HSq HBr
    simp only [List.append]
    go_region_held3 (fun w' => w'.cell? ⟨nT, 0, none⟩ = some (.int .i64 4) ∧ w'.cell? ⟨nT, 1, none⟩ = some (.int .i64 he) ∧ w'.cell? ⟨nT, 2, none⟩ = some (.int .i64 (-1)) ∧ w'.cell? ⟨nT, 3, none⟩ = some (.int .i64 dv) ∧ w'.cell? ⟨nT, 4, none⟩ = some (.int .i64 e) ∧ w'.cell? ⟨nT, 5, none⟩ = some (.slice (some ⟨bt, ot, none⟩) T.length c) ∧ w'.cell? ⟨nB, 0, none⟩ = some (.int .i64 4) ∧ w'.cell? ⟨nB, 1, none⟩ = some (.int .i64 he) ∧ w'.cell? ⟨nB, 2, none⟩ = some (.int .i64 (-1)) ∧ w'.cell? ⟨nB, 3, none⟩ = some (.int .i64 dv) ∧ w'.cell? ⟨nB, 4, none⟩ = some (.int .i64 e) ∧ w'.cell? ⟨nB, 5, none⟩ = some (.slice none 0 0) ∧ w'.cell? ⟨n1, 7, none⟩ = some (.slice Ar R.length cr) ∧ w'.cell? ⟨bt, ot, none⟩ = some (.int .i64 x0)) (first | (with_reducible assumption) | (with_reducible exact s0) | go_keep) (first | (go_at_call 15; (with_reducible refine (HS1.out wR.drew HC0.out).mono ?_); rintro y v1 ⟨vv1, rfl, ho1, hb1⟩; obtain ⟨AA1, cc1, hv1⟩ := own_slice ho1; subst hv1; have HR1 := Lib.hid (Rd.of_own ho1); have HC1 := Lib.hid (HC0.out.call hb1); have HB1 := Lib.hid (Below.row hb1 HB0.out HB0.out.lt); have d1 := HSS.out v1 HC1.out HB1.out; clear hb1 ho1) | (go_at_call 14; (with_reducible refine (HI.out v1 _ HR1.out HC1.out).mono ?_); rintro y v2 ⟨rfl, k2, rfl⟩; have hb2 : Below v1.heap.size v1 (v1.drewN k2) := Below.drewN (Below.refl _ _) _; have HC2 := Lib.hid (HC1.out.call hb2); have HB2 := Lib.hid (Below.row hb2 HB1.out HB1.out.lt); have d2 := HSS.out (v1.drewN k2) HC2.out HB2.out; clear hb2) | (go_at_call 15; (with_reducible refine (HS2.out (v1.drewN k2) HC2.out).mono ?_); rintro y v3 ⟨vv3, rfl, ho3, hb3⟩; obtain ⟨AA3, cc3, hv3⟩ := own_slice ho3; subst hv3; have HR3 := Lib.hid (Rd.of_own ho3); have HC3 := Lib.hid (HC2.out.call hb3); have HB3 := Lib.hid (Below.row hb3 HB2.out HB2.out.lt); have d3 := HSS.out v3 HC3.out HB3.out; clear hb3 ho3) | (go_at_call 14; (with_reducible refine (HI.out v3 _ HR3.out HC3.out).mono ?_); rintro y v4 ⟨rfl, k4, rfl⟩; have hb4 : Below v3.heap.size v3 (v3.drewN k4) := Below.drewN (Below.refl _ _) _; have HC4 := Lib.hid (HC3.out.call hb4); have HB4 := Lib.hid (Below.row hb4 HB3.out HB3.out.lt); have d4 := HSS.out (v3.drewN k4) HC4.out HB4.out; clear hb4) | (go_at_call 16; (with_reducible refine (HF1.out (v3.drewN k4) HC4.out).mono ?_); rintro y v5 ⟨rfl, hb5⟩; have HC5 := Lib.hid (HC4.out.call hb5); have HB5 := Lib.hid (Below.row hb5 HB4.out HB4.out.lt); have d5 := HSS.out v5 HC5.out HB5.out; clear hb5) | (go_at_call 15; (with_reducible refine (HS3.out v5).mono ?_); rintro y v6 ⟨vv6, rfl, ho6, hb6⟩; obtain ⟨AA6, cc6, hv6⟩ := own_slice ho6; subst hv6; have HC6 := Lib.hid (HC5.out.call hb6); have HB6 := Lib.hid (Below.row hb6 HB5.out HB5.out.lt); have d6 := HSS.out v6 HC6.out HB6.out; clear hb6 ho6) | (go_at_call 16; (with_reducible refine (HF2.out v6).mono ?_); rintro y v7 ⟨rfl, hb7⟩; have HC7 := Lib.hid (HC6.out.call hb7); have HB7 := Lib.hid (Below.row hb7 HB6.out HB6.out.lt); have d7 := HSS.out v7 HC7.out HB7.out; clear hb7))
    clear r0 r1 r2 r3 r4 r5 r6 r7 r8 r9 r10 r11 r12 r13 s0 d1 d2 d3 d4 d5 d6 d7
    go_wp2_with fail
    go_ret
    exact ⟨rfl, HC7.out.bel⟩

end Go.Proofs.Ytbomkifnhkmkoaa
