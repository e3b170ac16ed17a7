/- The law ChainSpans. -/
import Derived.Test.YtbomkifnhkmkoaaD1
namespace Go.Proofs.Ytbomkifnhkmkoaa
open Go.RowKit Fl
set_option maxRecDepth 100000

set_option maxHeartbeats 16000000 in
theorem lawSpans (w : World) (d : Dr) (vr : Value) (x : Sp) (At : Option Addr) (ct : Nat) (Ar : Option Addr) (cr : Nat) (hd : DrOk d) (hbr : BRows w w.heap.size vr d.routes) (hl : d.routes.length ≤ 9223372036854775807) (hrl : ∀ r ∈ d.routes, r.length ≤ 9223372036854775807)
    (hx : SpOk x) (ht : Rd w w.heap.size (.slice At x.ts.length ct) (bvals x.ts)) (hri : Rd w w.heap.size (.slice Ar x.ri.length cr) (cvals x.ri)) :
    Calls Try.prog 3 #[drV d vr, spV x (.slice At x.ts.length ct) (.slice Ar x.ri.length cr)] w (RetL true w) := by
  obtain ⟨Ad, kd, cd, hvr⟩ : ∃ A k c, vr = .slice A k c := by obtain ⟨vs, ⟨A, c, e, _⟩, _⟩ := hbr; exact ⟨A, _, c, e⟩
  subst hvr
  have HSM : Hid (∀ W, Below w.heap.size w W → Calls Try.prog 10 #[.agg #[.int .u8 (d.form : Int), .int .u8 (d.len : Int), .int .u8 (d.speed : Int), .int .u16 (d.mute : Int), .int .u16 (d.wait : Int), .int .u8 (d.cancel : Int), .int .u8 (d.stay : Int), .int .u8 (d.join : Int), .slice Ad kd cd], .agg #[.int .u8 (x.fr : Int), .int .u8 (x.lo : Int), .slice At x.ts.length ct, .int .u16 (x.ah : Int), .int .u16 (x.he : Int), .int .u16 (x.tk : Int), .int .u16 (x.sp : Int), .slice Ar x.ri.length cr]] W (RetL (smallX d x) W)) := fun W hW => smallX_any W d (.slice Ad kd cd) x At ct Ar cr (hbr.up hW) hl hrl
  have HOF : Hid (smallX d x = true → ∀ W, Below w.heap.size w W → Calls Try.prog 11 #[.agg #[.int .u8 (d.form : Int), .int .u8 (d.len : Int), .int .u8 (d.speed : Int), .int .u16 (d.mute : Int), .int .u16 (d.wait : Int), .int .u8 (d.cancel : Int), .int .u8 (d.stay : Int), .int .u8 (d.join : Int), .slice Ad kd cd], .agg #[.int .u8 (x.fr : Int), .int .u8 (x.lo : Int), .slice At x.ts.length ct, .int .u16 (x.ah : Int), .int .u16 (x.he : Int), .int .u16 (x.tk : Int), .int .u16 (x.sp : Int), .slice Ar x.ri.length cr]] W (RetOf (fullL d) x W)) := fun hs W hW => by
    unfold smallX at hs
    rw [Bool.and_eq_true, Bool.and_eq_true, decide_eq_true_iff, decide_eq_true_iff] at hs
    exact of_any W d (.slice Ad kd cd) x At ct Ar cr hd (hbr.up hW) hs.1 hx ((ht.below hW (Nat.le_refl _)).mono hW.size (fun _ _ => rfl)) (by omega)
  have HLF := Lib.hid (full_f d)
  have HTRA : Hid (Tra (fullL d) (repT (fullL d) x.fr x.lo x.ts) (1 - ((x.fr / 128 : Nat) : Int))) := rep_tra (tame_full d) x.fr x.lo x.ts (full_secs d).1 hx.fr
  have HNUM : Hid ((0 ≤ (x.he : Int) ∧ (x.he : Int) < 65536) ∧ (0 ≤ (x.tk : Int) ∧ (x.tk : Int) < 65536) ∧ (0 ≤ ((x.sp % 10001 : Nat) : Int) ∧ ((x.sp % 10001 : Nat) : Int) ≤ 10000) ∧ (0 ≤ ((repA (fullL d) x.fr x.ah : Nat) : Int) ∧ ((repA (fullL d) x.fr x.ah : Nat) : Int) < 65536)) := by
    have h1 := hx.he; have h2 := hx.tk; have h3 := hx.ah
    have h4 : repA (fullL d) x.fr x.ah ≤ x.ah := Nat.mod_le _ _
    show (_ ∧ _) ∧ (_ ∧ _) ∧ (_ ∧ _) ∧ (_ ∧ _)
    omega
  have HRI := Lib.hid hri
  clear hbr hl hrl hx ht hri hd
  unfold drV spV
  have HB0 := Lib.hid (below2 w (.cells #[.int .u8 (d.form : Int), .int .u8 (d.len : Int), .int .u8 (d.speed : Int), .int .u16 (d.mute : Int), .int .u16 (d.wait : Int), .int .u8 (d.cancel : Int), .int .u8 (d.stay : Int), .int .u8 (d.join : Int), .slice Ad kd cd] 25) (.cells #[.int .u8 (x.fr : Int), .int .u8 (x.lo : Int), .slice At x.ts.length ct, .int .u16 (x.ah : Int), .int .u16 (x.he : Int), .int .u16 (x.tk : Int), .int .u16 (x.sp : Int), .slice Ar x.ri.length cr] 29))
  have HRD := Lib.hid ((Row.new w 25 #[.int .u8 (d.form : Int), .int .u8 (d.len : Int), .int .u8 (d.speed : Int), .int .u16 (d.mute : Int), .int .u16 (d.wait : Int), .int .u8 (d.cancel : Int), .int .u8 (d.stay : Int), .int .u8 (d.join : Int), .slice Ad kd cd]).alloc (.cells #[.int .u8 (x.fr : Int), .int .u8 (x.lo : Int), .slice At x.ts.length ct, .int .u16 (x.ah : Int), .int .u16 (x.he : Int), .int .u16 (x.tk : Int), .int .u16 (x.sp : Int), .slice Ar x.ri.length cr] 29))
  have hr1 := Row.new (w.alloc (.cells #[.int .u8 (d.form : Int), .int .u8 (d.len : Int), .int .u8 (d.speed : Int), .int .u16 (d.mute : Int), .int .u16 (d.wait : Int), .int .u8 (d.cancel : Int), .int .u8 (d.stay : Int), .int .u8 (d.join : Int), .slice Ad kd cd] 25)) 29 #[.int .u8 (x.fr : Int), .int .u8 (x.lo : Int), .slice At x.ts.length ct, .int .u16 (x.ah : Int), .int .u16 (x.he : Int), .int .u16 (x.tk : Int), .int .u16 (x.sp : Int), .slice Ar x.ri.length cr]
  rw [World.size_alloc] at hr1
  have HRX := Lib.hid hr1
  clear hr1
  obtain ⟨tn, htn⟩ : ∃ n, x.ts.length = n := ⟨_, rfl⟩
  rw [htn] at HSM HOF HB0 HRD HRX ⊢
  generalize fullL d = L at *
  obtain ⟨T, hT⟩ : ∃ T, repT L x.fr x.lo x.ts = T := ⟨_, rfl⟩
  have HTT : Hid (repT L x.fr x.lo x.ts = T) := hT
  rw [hT] at HTRA
  clear hT
  obtain ⟨R, hR⟩ : ∃ R, x.ri = R := ⟨_, rfl⟩
  rw [hR] at HSM HOF HB0 HRD HRX HRI ⊢
  cases hs : smallX d x with
  | false =>
    go_enter Try.func3, Try.ntmps3
    go_upto_region 1 with (fail)
    obtain ⟨n0, hn0⟩ : ∃ n, n = w.heap.size := ⟨_, rfl⟩
    obtain ⟨n1, hn1⟩ : ∃ n, n = n0 + 1 := ⟨_, rfl⟩
    have HN : Hid (n0 = w.heap.size) := hn0
    rw [← hn0] at HRD HRX ⊢
    rw [← hn1] at HRX ⊢
    clear hn0 hn1
    generalize (w.alloc (.cells #[.int .u8 (d.form : Int), .int .u8 (d.len : Int), .int .u8 (d.speed : Int), .int .u16 (d.mute : Int), .int .u16 (d.wait : Int), .int .u8 (d.cancel : Int), .int .u8 (d.stay : Int), .int .u8 (d.join : Int), .slice Ad kd cd] 25)).alloc (.cells #[.int .u8 (x.fr : Int), .int .u8 (x.lo : Int), .slice At tn ct, .int .u16 (x.ah : Int), .int .u16 (x.he : Int), .int .u16 (x.tk : Int), .int .u16 (x.sp : Int), .slice Ar R.length cr] 29) = W0 at *
    go_wp2_with fail
    refine (later_any W0).mono ?_; rintro e wA ⟨rfl, hbA⟩
    have HA := Lib.hid (HB0.out.trans (hbA.mono HB0.out.size))
    have HDA := Lib.hid (Below.row hbA HRD.out HRD.out.lt)
    have HXA := Lib.hid (Below.row hbA HRX.out HRX.out.lt)
    clear hbA HB0 HRD HRX
    have f0 := HDA.out.cell 0; have f1 := HDA.out.cell 1; have f2 := HDA.out.cell 2; have f3 := HDA.out.cell 3; have f4 := HDA.out.cell 4; have f5 := HDA.out.cell 5; have f6 := HDA.out.cell 6; have f7 := HDA.out.cell 7; have f8 := HDA.out.cell 8
    simp only [List.getElem?_toArray, List.getElem?_cons_zero, List.getElem?_cons_succ] at f0 f1 f2 f3 f4 f5 f6 f7 f8
    have x0 := HXA.out.cell 0; have x1 := HXA.out.cell 1; have x2 := HXA.out.cell 2; have x3 := HXA.out.cell 3; have x4 := HXA.out.cell 4; have x5 := HXA.out.cell 5; have x6 := HXA.out.cell 6; have x7 := HXA.out.cell 7
    simp only [List.getElem?_toArray, List.getElem?_cons_zero, List.getElem?_cons_succ] at x0 x1 x2 x3 x4 x5 x6 x7
    go_wp2_with fail
    refine (HSM.out wA HA.out).mono ?_; rintro e wB ⟨rfl, hbB⟩
    rw [hs]
    have HB := Lib.hid (HA.out.trans (hbB.mono HA.out.size))
    clear hbB f0 f1 f2 f3 f4 f5 f6 f7 f8 x0 x1 x2 x3 x4 x5 x6 x7 HA HDA HXA
    go_wp2_with fail
    refine (later_any wB).mono ?_; rintro e wZ ⟨rfl, hbZ⟩
    have HZ := Lib.hid (HB.out.trans (hbZ.mono HB.out.size))
    clear hbZ
    go_wp2_with fail
    go_ret
    exact ⟨rfl, HZ.out⟩
  | true =>
    go_enter Try.func3, Try.ntmps3
    go_upto_region 1 with (fail)
    obtain ⟨n0, hn0⟩ : ∃ n, n = w.heap.size := ⟨_, rfl⟩
    obtain ⟨n1, hn1⟩ : ∃ n, n = n0 + 1 := ⟨_, rfl⟩
    have HN : Hid (n0 = w.heap.size) := hn0
    rw [← hn0] at HRD HRX ⊢
    rw [← hn1] at HRX ⊢
    clear hn0 hn1
    generalize (w.alloc (.cells #[.int .u8 (d.form : Int), .int .u8 (d.len : Int), .int .u8 (d.speed : Int), .int .u16 (d.mute : Int), .int .u16 (d.wait : Int), .int .u8 (d.cancel : Int), .int .u8 (d.stay : Int), .int .u8 (d.join : Int), .slice Ad kd cd] 25)).alloc (.cells #[.int .u8 (x.fr : Int), .int .u8 (x.lo : Int), .slice At tn ct, .int .u16 (x.ah : Int), .int .u16 (x.he : Int), .int .u16 (x.tk : Int), .int .u16 (x.sp : Int), .slice Ar R.length cr] 29) = W0 at *
    go_wp2_with fail
    refine (later_any W0).mono ?_; rintro e wA ⟨rfl, hbA⟩
    have HA := Lib.hid (HB0.out.trans (hbA.mono HB0.out.size))
    have HDA := Lib.hid (Below.row hbA HRD.out HRD.out.lt)
    have HXA := Lib.hid (Below.row hbA HRX.out HRX.out.lt)
    clear hbA HB0 HRD HRX
    have f0 := HDA.out.cell 0; have f1 := HDA.out.cell 1; have f2 := HDA.out.cell 2; have f3 := HDA.out.cell 3; have f4 := HDA.out.cell 4; have f5 := HDA.out.cell 5; have f6 := HDA.out.cell 6; have f7 := HDA.out.cell 7; have f8 := HDA.out.cell 8
    simp only [List.getElem?_toArray, List.getElem?_cons_zero, List.getElem?_cons_succ] at f0 f1 f2 f3 f4 f5 f6 f7 f8
    have x0 := HXA.out.cell 0; have x1 := HXA.out.cell 1; have x2 := HXA.out.cell 2; have x3 := HXA.out.cell 3; have x4 := HXA.out.cell 4; have x5 := HXA.out.cell 5; have x6 := HXA.out.cell 6; have x7 := HXA.out.cell 7
    simp only [List.getElem?_toArray, List.getElem?_cons_zero, List.getElem?_cons_succ] at x0 x1 x2 x3 x4 x5 x6 x7
    go_wp2_with fail
    refine (HSM.out wA HA.out).mono ?_; rintro e wB ⟨rfl, hbB⟩
    rw [hs]
    have HB := Lib.hid (HA.out.trans (hbB.mono HA.out.size))
    have HDB := Lib.hid (Below.row hbB HDA.out HDA.out.lt)
    have HXB := Lib.hid (Below.row hbB HXA.out HXA.out.lt)
    clear hbB f0 f1 f2 f3 f4 f5 f6 f7 f8 x0 x1 x2 x3 x4 x5 x6 x7 HA HDA HXA HSM
    have f0 := HDB.out.cell 0; have f1 := HDB.out.cell 1; have f2 := HDB.out.cell 2; have f3 := HDB.out.cell 3; have f4 := HDB.out.cell 4; have f5 := HDB.out.cell 5; have f6 := HDB.out.cell 6; have f7 := HDB.out.cell 7; have f8 := HDB.out.cell 8
    simp only [List.getElem?_toArray, List.getElem?_cons_zero, List.getElem?_cons_succ] at f0 f1 f2 f3 f4 f5 f6 f7 f8
    have x0 := HXB.out.cell 0; have x1 := HXB.out.cell 1; have x2 := HXB.out.cell 2; have x3 := HXB.out.cell 3; have x4 := HXB.out.cell 4; have x5 := HXB.out.cell 5; have x6 := HXB.out.cell 6; have x7 := HXB.out.cell 7
    simp only [List.getElem?_toArray, List.getElem?_cons_zero, List.getElem?_cons_succ] at x0 x1 x2 x3 x4 x5 x6 x7
    go_wp2_with fail
    refine (HOF.out hs wB HB.out).mono ?_; rintro e' wC ⟨vL, A, c, rfl, hvL, hrd, hbC⟩
    clear f0 f1 f2 f3 f4 f5 f6 f7 f8 x0 x1 x2 x3 x4 x5 x6 x7
    obtain ⟨he, hhe⟩ : ∃ z : Int, (x.he : Int) = z := ⟨_, rfl⟩
    obtain ⟨tk, htk⟩ : ∃ z : Int, (x.tk : Int) = z := ⟨_, rfl⟩
    obtain ⟨s8, hs8⟩ : ∃ z : Int, ((x.sp % 10001 : Nat) : Int) = z := ⟨_, rfl⟩
    obtain ⟨e, hee⟩ : ∃ z : Int, ((repA L x.fr x.ah : Nat) : Int) = z := ⟨_, rfl⟩
    obtain ⟨dv, hdv⟩ : ∃ z : Int, 1 - ((x.fr / 128 : Nat) : Int) = z := ⟨_, rfl⟩
    have HT2 : Hid (repT L x.fr x.lo x.ts = T) := HTT.out
    rw [HT2.out] at hrd ⊢
    rw [hhe, htk, hs8, hee] at HNUM
    rw [hdv] at HTRA
    rw [hdv, hhe, htk, hs8, hee]
    obtain ⟨nw, hnw⟩ : ∃ z : Int, he + tk = z := ⟨_, rfl⟩
    rw [hnw]
    obtain ⟨A0, k0, c0, A1, k1, c1, A2, k2, c2, A3, k3, c3, A4, k4, c4, t0, t1, t2, t3, t4, hv, hlens⟩ := hvL.lens
    subst hv
    have HLENS := Lib.hid hlens
    have hba := ((Below.refl wC.heap.size wC).alloc (Nat.le_refl _) (.cells #[.slice A0 k0 c0, .slice A1 k1 c1, .slice A2 k2 c2, .slice A3 k3 c3, .slice A4 k4 c4, .int .i64 t0, .int .i64 t1, .int .i64 t2, .int .i64 t3, .int .i64 t4] 37)).alloc (by simp) (.cells (tcells 4 he (-1) dv e (.slice A T.length c)) 40)
    have hbb := hba.alloc hba.size (.cells (tcells 4 he (-1) dv e (.slice A T.length c)) 41)
    have HB1 := Lib.hid (HB.out.trans ((hbC.trans (hbb.mono hbC.size)).mono HB.out.size))
    have HXL : Hid (n1 < wC.heap.size) := by have h1 := HXB.out.lt; have h2 := hbC.size; show _ < _; omega
    have HX1 := Lib.hid (Below.row (hbC.trans (hbb.mono hbC.size)) HXB.out HXB.out.lt)
    have HV1 := Lib.hid (hvL.up hbb)
    have HT1 := Lib.hid (hrd.up hbb)
    have hy1 := ((Row.new wC 37 #[.slice A0 k0 c0, .slice A1 k1 c1, .slice A2 k2 c2, .slice A3 k3 c3, .slice A4 k4 c4, .int .i64 t0, .int .i64 t1, .int .i64 t2, .int .i64 t3, .int .i64 t4]).alloc (.cells (tcells 4 he (-1) dv e (.slice A T.length c)) 40)).alloc (.cells (tcells 4 he (-1) dv e (.slice A T.length c)) 41)
    have hy2 := (Row.new (wC.alloc (.cells #[.slice A0 k0 c0, .slice A1 k1 c1, .slice A2 k2 c2, .slice A3 k3 c3, .slice A4 k4 c4, .int .i64 t0, .int .i64 t1, .int .i64 t2, .int .i64 t3, .int .i64 t4] 37)) 40 (tcells 4 he (-1) dv e (.slice A T.length c))).alloc (.cells (tcells 4 he (-1) dv e (.slice A T.length c)) 41)
    have hy3 := Row.new ((wC.alloc (.cells #[.slice A0 k0 c0, .slice A1 k1 c1, .slice A2 k2 c2, .slice A3 k3 c3, .slice A4 k4 c4, .int .i64 t0, .int .i64 t1, .int .i64 t2, .int .i64 t3, .int .i64 t4] 37)).alloc (.cells (tcells 4 he (-1) dv e (.slice A T.length c)) 40)) 41 (tcells 4 he (-1) dv e (.slice A T.length c))
    rw [World.size_alloc] at hy2
    rw [World.size_alloc, World.size_alloc] at hy3
    have HL1 := Lib.hid hy1; have HTT1 := Lib.hid hy2; have HRR1 := Lib.hid hy3
    clear hba hbb hbC hvL hrd hy1 hy2 hy3 hlens HB HDB HXB HOF
    go_upto_region 4 with (fail)
    obtain ⟨nL, hnL⟩ : ∃ n, n = wC.heap.size := ⟨_, rfl⟩
    obtain ⟨nT, hnT⟩ : ∃ n, n = nL + 1 := ⟨_, rfl⟩
    obtain ⟨nR, hnR⟩ : ∃ n, n = nT + 1 := ⟨_, rfl⟩
    rw [← hnL] at HL1 HTT1 HRR1 ⊢
    rw [← hnT] at HTT1 HRR1 ⊢
    rw [← hnR] at HRR1 ⊢
    have HNB : Hid (n1 < nL ∧ nT = nL + 1 ∧ nR = nT + 1) := ⟨by have := HXL.out; omega, hnT, hnR⟩
    clear hnL hnT hnR
    generalize ((wC.alloc (.cells #[.slice A0 k0 c0, .slice A1 k1 c1, .slice A2 k2 c2, .slice A3 k3 c3, .slice A4 k4 c4, .int .i64 t0, .int .i64 t1, .int .i64 t2, .int .i64 t3, .int .i64 t4] 37)).alloc (.cells (tcells 4 he (-1) dv e (.slice A T.length c)) 40)).alloc (.cells (tcells 4 he (-1) dv e (.slice A T.length c)) 41) = wD at *
    have p0 := HL1.out.cell 0; have p1 := HL1.out.cell 1; have p2 := HL1.out.cell 2; have p3 := HL1.out.cell 3; have p4 := HL1.out.cell 4; have p5 := HL1.out.cell 5; have p6 := HL1.out.cell 6; have p7 := HL1.out.cell 7; have p8 := HL1.out.cell 8; have p9 := HL1.out.cell 9
    simp only [List.getElem?_toArray, List.getElem?_cons_zero, List.getElem?_cons_succ] at p0 p1 p2 p3 p4 p5 p6 p7 p8 p9
    go_wp2_with fail
    refine (new_any wD _ L HV1.out HLF.out.fits).mono ?_; rintro e' wE ⟨vg, rfl, hg, hbE⟩
    have HST : Hid (CSt w n1 nL nT nR #[.int .u8 (x.fr : Int), .int .u8 (x.lo : Int), .slice At tn ct, .int .u16 (x.ah : Int), .int .u16 (x.he : Int), .int .u16 (x.tk : Int), .int .u16 (x.sp : Int), .slice Ar R.length cr] #[.slice A0 k0 c0, .slice A1 k1 c1, .slice A2 k2 c2, .slice A3 k3 c3, .slice A4 k4 c4, .int .i64 t0, .int .i64 t1, .int .i64 t2, .int .i64 t3, .int .i64 t4] (tcells 4 he (-1) dv e (.slice A T.length c)) vg wE.heap.size L A c T Ar cr R wE) :=
      ⟨HB1.out.trans (hbE.mono HB1.out.size), Below.row hbE HX1.out HX1.out.lt, Below.row hbE HL1.out HL1.out.lt, Below.row hbE HTT1.out HTT1.out.lt, Below.row hbE HRR1.out HRR1.out.lt, HV1.out.up hbE, hg, HT1.out.up hbE, (HRI.out.below (HB1.out.trans (hbE.mono HB1.out.size)) (Nat.le_refl _)).mono (HB1.out.trans (hbE.mono HB1.out.size)).size (fun _ _ => rfl), Nat.le_refl _⟩
    clear hg hbE p0 p1 p2 p3 p4 p5 p6 p7 p8 p9 HB1 HX1 HL1 HTT1 HRR1 HV1 HT1 HRI HTT HT2
    generalize wE.heap.size = DG at *
    clear hhe htk hs8 hee hdv hs hR htn
    have HNW : Hid (he + tk = nw) := hnw
    clear hnw
    obtain ⟨hn1, hn2, hn3, hn4⟩ := HNUM.out
    obtain ⟨U, hU⟩ : ∃ U, spanL L R T dv (s8 * (nw - he) - e) = U := ⟨_, rfl⟩
    obtain ⟨q1, hq1⟩ : ∃ q, (aheadL L R T dv (s8 * (nw - he) - e)).2.1 = q := ⟨_, rfl⟩
    obtain ⟨q2, hq2⟩ : ∃ q, (aheadL L R T dv (s8 * (nw - he) - e)).2.2 = q := ⟨_, rfl⟩
    have HUL : Hid (U.length ≤ 1000) := by
      show _ ≤ _
      rw [← hU]; unfold spanL
      have h1 := ahead_len HLF.out.tame R (s8 * (nw - he) - e) HTRA.out.ok
      have h2 := HLF.out.fits.s; have h3 := HTRA.out.le
      rw [List.length_append, List.length_reverse]; omega
    have HS1 : Hid (∀ W, CSt w n1 nL nT nR #[.int .u8 (x.fr : Int), .int .u8 (x.lo : Int), .slice At tn ct, .int .u16 (x.ah : Int), .int .u16 (x.he : Int), .int .u16 (x.tk : Int), .int .u16 (x.sp : Int), .slice Ar R.length cr] #[.slice A0 k0 c0, .slice A1 k1 c1, .slice A2 k2 c2, .slice A3 k3 c3, .slice A4 k4 c4, .int .i64 t0, .int .i64 t1, .int .i64 t2, .int .i64 t3, .int .i64 t4] (tcells 4 he (-1) dv e (.slice A T.length c)) vg DG L A c T Ar cr R W → Calls Try.prog 15 #[vg, .agg (tcells 4 he (-1) dv e (.slice A T.length c)), .int .i64 nw, .int .i64 s8, .slice Ar R.length cr] W (RetOwn W.heap.size U W)) := fun W h => by
      have h1 := h.span HLF.out HTRA.out nw s8 (by omega) (by have := HNW.out; omega) (by omega)
      rw [hU] at h1; exact h1
    have HF1 : Hid (∀ W, CSt w n1 nL nT nR #[.int .u8 (x.fr : Int), .int .u8 (x.lo : Int), .slice At tn ct, .int .u16 (x.ah : Int), .int .u16 (x.he : Int), .int .u16 (x.tk : Int), .int .u16 (x.sp : Int), .slice Ar R.length cr] #[.slice A0 k0 c0, .slice A1 k1 c1, .slice A2 k2 c2, .slice A3 k3 c3, .slice A4 k4 c4, .int .i64 t0, .int .i64 t1, .int .i64 t2, .int .i64 t3, .int .i64 t4] (tcells 4 he (-1) dv e (.slice A T.length c)) vg DG L A c T Ar cr R W → Calls Try.prog 16 #[vg, .agg (tcells 4 he (-1) dv e (.slice A T.length c)), .int .i64 nw, .int .i64 s8, .slice Ar R.length cr] W (fun y w' => y = .returned (.agg #[.int .i64 q1, .int .i64 q2]) ∧ Below W.heap.size W w')) := fun W h => by
      have h1 := h.front HLF.out HTRA.out nw s8 (by omega) (by have := HNW.out; omega) (by omega)
      rw [hq1, hq2] at h1; exact h1
    have HD1 : Hid (∀ W, CSt w n1 nL nT nR #[.int .u8 (x.fr : Int), .int .u8 (x.lo : Int), .slice At tn ct, .int .u16 (x.ah : Int), .int .u16 (x.he : Int), .int .u16 (x.tk : Int), .int .u16 (x.sp : Int), .slice Ar R.length cr] #[.slice A0 k0 c0, .slice A1 k1 c1, .slice A2 k2 c2, .slice A3 k3 c3, .slice A4 k4 c4, .int .i64 t0, .int .i64 t1, .int .i64 t2, .int .i64 t3, .int .i64 t4] (tcells 4 he (-1) dv e (.slice A T.length c)) vg DG L A c T Ar cr R W → Calls Try.prog 13 #[.agg #[.slice A0 k0 c0, .slice A1 k1 c1, .slice A2 k2 c2, .slice A3 k3 c3, .slice A4 k4 c4, .int .i64 t0, .int .i64 t1, .int .i64 t2, .int .i64 t3, .int .i64 t4], .agg (tcells 4 he (-1) dv e (.slice A T.length c)), .int .i64 nw, .int .i64 s8, .slice Ar R.length cr] W (fun y w' => ∃ v, y = .returned (.tuple #[v, .agg #[.int .i64 q1, .int .i64 q2]]) ∧ w'.ownsRow W.heap.size 3 1 v U.length (ivals U) ∧ Below W.heap.size W w')) := fun W h => by
      have h1 := h.refSpan HLF.out HTRA.out nw s8 (by omega) (by have := HNW.out; omega) (by omega)
      unfold RetAhead at h1
      simp only [hU, hq1, hq2] at h1; exact h1
    clear hn1 hn2 hn3 hn4 hU hq1 hq2
    have p0 := HST.out.rl.cell 0; have p1 := HST.out.rl.cell 1; have p2 := HST.out.rl.cell 2; have p3 := HST.out.rl.cell 3; have p4 := HST.out.rl.cell 4; have p5 := HST.out.rl.cell 5; have p6 := HST.out.rl.cell 6; have p7 := HST.out.rl.cell 7; have p8 := HST.out.rl.cell 8; have p9 := HST.out.rl.cell 9
    simp only [List.getElem?_toArray, List.getElem?_cons_zero, List.getElem?_cons_succ] at p0 p1 p2 p3 p4 p5 p6 p7 p8 p9
    have u0 := HST.out.rr.cell 0; have u1 := HST.out.rr.cell 1; have u2 := HST.out.rr.cell 2; have u3 := HST.out.rr.cell 3; have u4 := HST.out.rr.cell 4; have u5 := HST.out.rr.cell 5
    simp only [List.getElem?_toArray, List.getElem?_cons_zero, List.getElem?_cons_succ] at u0 u1 u2 u3 u4 u5
    have s7 := HST.out.rs.cell 7
    simp only [List.getElem?_toArray, List.getElem?_cons_zero, List.getElem?_cons_succ] at s7
    go_wp2_with fail
    refine (HD1.out wE HST.out).mono ?_; rintro y v1 ⟨va, rfl, ho1, hb1⟩
    obtain ⟨AA, ca, hva⟩ := own_slice ho1
    subst hva
    have hba := hb1.alloc hb1.size (.cells #[.int .i64 q1, .int .i64 q2] 47)
    have HC1 := Lib.hid (HST.out.call hba)
    have HE1 := Lib.hid (Row.new v1 47 #[.int .i64 q1, .int .i64 q2])
    have HU1 := Lib.hid ((Rd.of_own ho1).up ((Below.refl v1.heap.size v1).alloc (Nat.le_refl _) (.cells #[.int .i64 q1, .int .i64 q2] 47)))
    clear p0 p1 p2 p3 p4 p5 p6 p7 p8 p9 u0 u1 u2 u3 u4 u5 s7 hba hb1 ho1 HST HD1
    go_upto_region 6 with (fail)
    obtain ⟨nE, hnE⟩ : ∃ n, n = v1.heap.size := ⟨_, rfl⟩
    rw [← hnE] at HE1 ⊢
    clear hnE
    generalize v1.alloc (.cells #[.int .i64 q1, .int .i64 q2] 47) = wR at *
    have hbd := (Below.refl wR.heap.size wR).drew
    have HC0 := Lib.hid (HC1.out.call hbd)
    have HB0 := Lib.hid (Below.row hbd HE1.out HE1.out.lt)
    have HU0 := Lib.hid (HU1.out.up hbd)
    have HSS : Hid (∀ V, CSt w n1 nL nT nR #[.int .u8 (x.fr : Int), .int .u8 (x.lo : Int), .slice At tn ct, .int .u16 (x.ah : Int), .int .u16 (x.he : Int), .int .u16 (x.tk : Int), .int .u16 (x.sp : Int), .slice Ar R.length cr] #[.slice A0 k0 c0, .slice A1 k1 c1, .slice A2 k2 c2, .slice A3 k3 c3, .slice A4 k4 c4, .int .i64 t0, .int .i64 t1, .int .i64 t2, .int .i64 t3, .int .i64 t4] (tcells 4 he (-1) dv e (.slice A T.length c)) vg DG L A c T Ar cr R V → Row V nE 47 #[.int .i64 q1, .int .i64 q2] → V.cell? ⟨nT, 0, none⟩ = some (.int .i64 4) ∧ V.cell? ⟨nT, 1, none⟩ = some (.int .i64 he) ∧ V.cell? ⟨nT, 2, none⟩ = some (.int .i64 (-1)) ∧ V.cell? ⟨nT, 3, none⟩ = some (.int .i64 dv) ∧ V.cell? ⟨nT, 4, none⟩ = some (.int .i64 e) ∧ V.cell? ⟨nT, 5, none⟩ = some (.slice A T.length c) ∧ V.cell? ⟨nE, 0, none⟩ = some (.int .i64 q1) ∧ V.cell? ⟨nE, 1, none⟩ = some (.int .i64 q2) ∧ V.cell? ⟨n1, 7, none⟩ = some (.slice Ar R.length cr)) := fun V h1 h2 => ⟨h1.rt.cell 0, h1.rt.cell 1, h1.rt.cell 2, h1.rt.cell 3, h1.rt.cell 4, h1.rt.cell 5, h2.cell 0, h2.cell 1, h1.rs.cell 7⟩
    have HI : Hid (∀ (V : World) (v v' : Value), Rd V V.heap.size v (ivals U) → Rd V V.heap.size v' (ivals U) → Calls Try.prog 14 #[v, v'] V (RetB true V)) := fun V v v' h1 h2 => ints_lit V v v' U h1 h2 HUL.out
    have s0 := HSS.out wR.drew HC0.out HB0.out
    obtain ⟨r0, r1, r2, r3, r4, r5, r6, r7, r8⟩ := (show _ from s0)
    have hx1 : (q1 == q1) = true := by simp
    have hx2 : (q2 == q2) = true := by simp
    have heql := eql_end
    clear hbd HC1 HE1 HU1
    go_region_held3 (fun w' => w'.cell? ⟨nT, 0, none⟩ = some (.int .i64 4) ∧ w'.cell? ⟨nT, 1, none⟩ = some (.int .i64 he) ∧ w'.cell? ⟨nT, 2, none⟩ = some (.int .i64 (-1)) ∧ w'.cell? ⟨nT, 3, none⟩ = some (.int .i64 dv) ∧ w'.cell? ⟨nT, 4, none⟩ = some (.int .i64 e) ∧ w'.cell? ⟨nT, 5, none⟩ = some (.slice A T.length c) ∧ w'.cell? ⟨nE, 0, none⟩ = some (.int .i64 q1) ∧ w'.cell? ⟨nE, 1, none⟩ = some (.int .i64 q2) ∧ w'.cell? ⟨n1, 7, none⟩ = some (.slice Ar R.length cr)) (first | (with_reducible assumption) | (with_reducible exact s0) | go_keep) (first | (go_at_call 15; (with_reducible refine (HS1.out wR.drew HC0.out).mono ?_); rintro y v2 ⟨vv2, rfl, ho2, hb2⟩; obtain ⟨AA2, cc2, hv2⟩ := own_slice ho2; subst hv2; have HR2 := Lib.hid (Rd.of_own ho2); have HC2 := Lib.hid (HC0.out.call hb2); have HB2 := Lib.hid (Below.row hb2 HB0.out HB0.out.lt); have HU2 := Lib.hid (HU0.out.up hb2); have d2 := HSS.out v2 HC2.out HB2.out; clear hb2 ho2) | (go_at_call 14; (with_reducible refine (HI.out v2 _ _ HR2.out HU2.out).mono ?_); rintro y v3 ⟨rfl, k3, rfl⟩; have hb3 : Below v2.heap.size v2 (v2.drewN k3) := Below.drewN (Below.refl _ _) _; have HC3 := Lib.hid (HC2.out.call hb3); have HB3 := Lib.hid (Below.row hb3 HB2.out HB2.out.lt); have d3 := HSS.out (v2.drewN k3) HC3.out HB3.out; clear hb3) | (go_at_call 16; (with_reducible refine (HF1.out (v2.drewN k3) HC3.out).mono ?_); rintro y v4 ⟨rfl, hb4⟩; have HC4 := Lib.hid (HC3.out.call hb4); have HB4 := Lib.hid (Below.row hb4 HB3.out HB3.out.lt); have d4 := HSS.out v4 HC4.out HB4.out; clear hb4))
    clear r0 r1 r2 r3 r4 r5 r6 r7 r8 s0 d2 d3 d4
    go_wp2_with fail
    go_ret
    exact ⟨rfl, HC4.out.bel⟩

end Go.Proofs.Ytbomkifnhkmkoaa
