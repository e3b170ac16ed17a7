/- The law ChainCovers. -/
import Derived.Test.YtbomkifnhkmkoaaX1
import Derived.BigQuiet
namespace Go.Proofs.Ytbomkifnhkmkoaa
open Go.RowKit Fl
set_option maxRecDepth 100000

set_option maxHeartbeats 16000000 in
theorem lawCovers (w : World) (d : Dr) (vr : Value) (x : Sp) (At : Option Addr) (ct : Nat) (Ar : Option Addr) (cr : Nat) (st : List Nat) (As : Option Addr) (cs : Nat) (hst : Rd w w.heap.size (.slice As st.length cs) (bvals st)) (hsb : ∀ y ∈ st, y < 256) (hd : DrOk d) (hbr : BRows w w.heap.size vr d.routes) (hl : d.routes.length ≤ 9223372036854775807) (hrl : ∀ r ∈ d.routes, r.length ≤ 9223372036854775807)
    (hx : SpOk x) (ht : Rd w w.heap.size (.slice At x.ts.length ct) (bvals x.ts)) (hri : Rd w w.heap.size (.slice Ar x.ri.length cr) (cvals x.ri)) :
    Calls Try.prog 5 #[drV d vr, spV x (.slice At x.ts.length ct) (.slice Ar x.ri.length cr), .slice As st.length cs] w (RetL true w) := by
  obtain ⟨Ad, kd, cd, hvr⟩ : ∃ A k c, vr = .slice A k c := by obtain ⟨vs, ⟨A, c, e, _⟩, _⟩ := hbr; exact ⟨A, _, c, e⟩
  subst hvr
  have HSM : Hid (∀ W, Below w.heap.size w W → Calls Try.prog 10 #[.agg #[.int .u8 (d.form : Int), .int .u8 (d.len : Int), .int .u8 (d.speed : Int), .int .u16 (d.mute : Int), .int .u16 (d.wait : Int), .int .u8 (d.cancel : Int), .int .u8 (d.stay : Int), .int .u8 (d.join : Int), .slice Ad kd cd], .agg #[.int .u8 (x.fr : Int), .int .u8 (x.lo : Int), .slice At x.ts.length ct, .int .u16 (x.ah : Int), .int .u16 (x.he : Int), .int .u16 (x.tk : Int), .int .u16 (x.sp : Int), .slice Ar x.ri.length cr]] W (RetL (smallX d x) W)) := fun W hW => smallX_any W d (.slice Ad kd cd) x At ct Ar cr (hbr.up hW) hl hrl
  have HOF : Hid (smallX d x = true → ∀ W, Below w.heap.size w W → Calls Try.prog 11 #[.agg #[.int .u8 (d.form : Int), .int .u8 (d.len : Int), .int .u8 (d.speed : Int), .int .u16 (d.mute : Int), .int .u16 (d.wait : Int), .int .u8 (d.cancel : Int), .int .u8 (d.stay : Int), .int .u8 (d.join : Int), .slice Ad kd cd], .agg #[.int .u8 (x.fr : Int), .int .u8 (x.lo : Int), .slice At x.ts.length ct, .int .u16 (x.ah : Int), .int .u16 (x.he : Int), .int .u16 (x.tk : Int), .int .u16 (x.sp : Int), .slice Ar x.ri.length cr]] W (RetOf (fullL d) x W)) := fun hs W hW => by
    unfold smallX at hs
    rw [Bool.and_eq_true, Bool.and_eq_true, decide_eq_true_iff, decide_eq_true_iff] at hs
    exact of_any W d (.slice Ad kd cd) x At ct Ar cr hd (hbr.up hW) hs.1 hx ((ht.below hW (Nat.le_refl _)).mono hW.size (fun _ _ => rfl)) (by omega)
  have HLF := Lib.hid (full_f d)
  have HTRA : Hid (Tra (fullL d) (repT (fullL d) x.fr x.lo x.ts) (1 - ((x.fr / 128 : Nat) : Int))) := rep_tra (tame_full d) x.fr x.lo x.ts (full_secs d).1 hx.fr
  have HNUM : Hid ((0 ≤ (x.he : Int) ∧ (x.he : Int) < 65536) ∧ (0 ≤ (x.tk : Int) ∧ (x.tk : Int) < 65536) ∧ (0 ≤ ((x.sp % 10001 : Nat) : Int) ∧ ((x.sp % 10001 : Nat) : Int) ≤ 10000) ∧ (0 ≤ ((repA (fullL d) x.fr x.ah : Nat) : Int) ∧ ((repA (fullL d) x.fr x.ah : Nat) : Int) < 65536)) := by
    have h1 := hx.he; have h2 := hx.tk; have h3 := hx.ah
    have h4 : repA (fullL d) x.fr x.ah ≤ x.ah := Nat.mod_le _ _
    show (_ ∧ _) ∧ (_ ∧ _) ∧ (_ ∧ _) ∧ (_ ∧ _)
    omega
  have HRI := Lib.hid hri
  clear hbr hl hrl hx ht hri hd
  unfold drV spV
  have HB0 := Lib.hid (below2 w (.cells #[.int .u8 (d.form : Int), .int .u8 (d.len : Int), .int .u8 (d.speed : Int), .int .u16 (d.mute : Int), .int .u16 (d.wait : Int), .int .u8 (d.cancel : Int), .int .u8 (d.stay : Int), .int .u8 (d.join : Int), .slice Ad kd cd] 25) (.cells #[.int .u8 (x.fr : Int), .int .u8 (x.lo : Int), .slice At x.ts.length ct, .int .u16 (x.ah : Int), .int .u16 (x.he : Int), .int .u16 (x.tk : Int), .int .u16 (x.sp : Int), .slice Ar x.ri.length cr] 29))
  have HRD := Lib.hid ((Row.new w 25 #[.int .u8 (d.form : Int), .int .u8 (d.len : Int), .int .u8 (d.speed : Int), .int .u16 (d.mute : Int), .int .u16 (d.wait : Int), .int .u8 (d.cancel : Int), .int .u8 (d.stay : Int), .int .u8 (d.join : Int), .slice Ad kd cd]).alloc (.cells #[.int .u8 (x.fr : Int), .int .u8 (x.lo : Int), .slice At x.ts.length ct, .int .u16 (x.ah : Int), .int .u16 (x.he : Int), .int .u16 (x.tk : Int), .int .u16 (x.sp : Int), .slice Ar x.ri.length cr] 29))
  have hr1 := Row.new (w.alloc (.cells #[.int .u8 (d.form : Int), .int .u8 (d.len : Int), .int .u8 (d.speed : Int), .int .u16 (d.mute : Int), .int .u16 (d.wait : Int), .int .u8 (d.cancel : Int), .int .u8 (d.stay : Int), .int .u8 (d.join : Int), .slice Ad kd cd] 25)) 29 #[.int .u8 (x.fr : Int), .int .u8 (x.lo : Int), .slice At x.ts.length ct, .int .u16 (x.ah : Int), .int .u16 (x.he : Int), .int .u16 (x.tk : Int), .int .u16 (x.sp : Int), .slice Ar x.ri.length cr]
  rw [World.size_alloc] at hr1
  have HRX := Lib.hid hr1
  clear hr1
  obtain ⟨tn, htn⟩ : ∃ n, x.ts.length = n := ⟨_, rfl⟩
  rw [htn] at HSM HOF HB0 HRD HRX ⊢
  have HSPD := Lib.hid (full_speed d)
  generalize fullL d = L at *
  obtain ⟨T, hT⟩ : ∃ T, repT L x.fr x.lo x.ts = T := ⟨_, rfl⟩
  have HTT : Hid (repT L x.fr x.lo x.ts = T) := hT
  rw [hT] at HTRA
  clear hT
  obtain ⟨R, hR⟩ : ∃ R, x.ri = R := ⟨_, rfl⟩
  rw [hR] at HSM HOF HB0 HRD HRX HRI ⊢
  obtain ⟨sl, hsl⟩ : ∃ n, st.length = n := ⟨_, rfl⟩
  rw [hsl] at hst ⊢
  have HSTP : Hid (Rd w w.heap.size (.slice As sl cs) (bvals st) ∧ (∀ y ∈ st, y < 256) ∧ st.length = sl) := ⟨hst, hsb, hsl⟩
  clear hst hsb hsl
  cases hs : smallX d x with
  | false =>
    go_enter Try.func5, Try.ntmps5
    go_upto_region 1 with (fail)
    obtain ⟨n0, hn0⟩ : ∃ n, n = w.heap.size := ⟨_, rfl⟩
    obtain ⟨n1, hn1⟩ : ∃ n, n = n0 + 1 := ⟨_, rfl⟩
    have HN : Hid (n0 = w.heap.size) := hn0
    rw [← hn0] at HRD HRX ⊢
    rw [← hn1] at HRX ⊢
    clear hn0 hn1
    generalize (w.alloc (.cells #[.int .u8 (d.form : Int), .int .u8 (d.len : Int), .int .u8 (d.speed : Int), .int .u16 (d.mute : Int), .int .u16 (d.wait : Int), .int .u8 (d.cancel : Int), .int .u8 (d.stay : Int), .int .u8 (d.join : Int), .slice Ad kd cd] 25)).alloc (.cells #[.int .u8 (x.fr : Int), .int .u8 (x.lo : Int), .slice At tn ct, .int .u16 (x.ah : Int), .int .u16 (x.he : Int), .int .u16 (x.tk : Int), .int .u16 (x.sp : Int), .slice Ar R.length cr] 29) = W0 at *
    go_wp2_with fail
    refine (later_any W0).mono ?_; rintro e wA ⟨rfl, hbA⟩
    have HA := Lib.hid (HB0.out.trans (hbA.mono HB0.out.size))
    have HDA := Lib.hid (Below.row hbA HRD.out HRD.out.lt)
    have HXA := Lib.hid (Below.row hbA HRX.out HRX.out.lt)
    clear hbA HB0 HRD HRX
    have f0 := HDA.out.cell 0; have f1 := HDA.out.cell 1; have f2 := HDA.out.cell 2; have f3 := HDA.out.cell 3; have f4 := HDA.out.cell 4; have f5 := HDA.out.cell 5; have f6 := HDA.out.cell 6; have f7 := HDA.out.cell 7; have f8 := HDA.out.cell 8
    simp only [List.getElem?_toArray, List.getElem?_cons_zero, List.getElem?_cons_succ] at f0 f1 f2 f3 f4 f5 f6 f7 f8
    have x0 := HXA.out.cell 0; have x1 := HXA.out.cell 1; have x2 := HXA.out.cell 2; have x3 := HXA.out.cell 3; have x4 := HXA.out.cell 4; have x5 := HXA.out.cell 5; have x6 := HXA.out.cell 6; have x7 := HXA.out.cell 7
    simp only [List.getElem?_toArray, List.getElem?_cons_zero, List.getElem?_cons_succ] at x0 x1 x2 x3 x4 x5 x6 x7
    go_wp2_with fail
    refine (HSM.out wA HA.out).mono ?_; rintro e wB ⟨rfl, hbB⟩
    rw [hs]
    have HB := Lib.hid (HA.out.trans (hbB.mono HA.out.size))
    clear hbB f0 f1 f2 f3 f4 f5 f6 f7 f8 x0 x1 x2 x3 x4 x5 x6 x7 HA HDA HXA
    go_wp2_with fail
    refine (later_any wB).mono ?_; rintro e wZ ⟨rfl, hbZ⟩
    have HZ := Lib.hid (HB.out.trans (hbZ.mono HB.out.size))
    clear hbZ
    go_wp2_with fail
    go_ret
    exact ⟨rfl, HZ.out⟩
  | true =>
    by_cases h40 : sl ≤ 40
    · have h40i : ¬ (40 : Int) < (sl : Int) := by omega
      go_enter Try.func5, Try.ntmps5
      go_upto_region 1 with (fail)
      obtain ⟨n0, hn0⟩ : ∃ n, n = w.heap.size := ⟨_, rfl⟩
      obtain ⟨n1, hn1⟩ : ∃ n, n = n0 + 1 := ⟨_, rfl⟩
      have HN : Hid (n0 = w.heap.size) := hn0
      rw [← hn0] at HRD HRX ⊢
      rw [← hn1] at HRX ⊢
      clear hn0 hn1
      generalize (w.alloc (.cells #[.int .u8 (d.form : Int), .int .u8 (d.len : Int), .int .u8 (d.speed : Int), .int .u16 (d.mute : Int), .int .u16 (d.wait : Int), .int .u8 (d.cancel : Int), .int .u8 (d.stay : Int), .int .u8 (d.join : Int), .slice Ad kd cd] 25)).alloc (.cells #[.int .u8 (x.fr : Int), .int .u8 (x.lo : Int), .slice At tn ct, .int .u16 (x.ah : Int), .int .u16 (x.he : Int), .int .u16 (x.tk : Int), .int .u16 (x.sp : Int), .slice Ar R.length cr] 29) = W0 at *
      go_wp2_with fail
      refine (later_any W0).mono ?_; rintro e wA ⟨rfl, hbA⟩
      have HA := Lib.hid (HB0.out.trans (hbA.mono HB0.out.size))
      have HDA := Lib.hid (Below.row hbA HRD.out HRD.out.lt)
      have HXA := Lib.hid (Below.row hbA HRX.out HRX.out.lt)
      clear hbA HB0 HRD HRX
      have f0 := HDA.out.cell 0; have f1 := HDA.out.cell 1; have f2 := HDA.out.cell 2; have f3 := HDA.out.cell 3; have f4 := HDA.out.cell 4; have f5 := HDA.out.cell 5; have f6 := HDA.out.cell 6; have f7 := HDA.out.cell 7; have f8 := HDA.out.cell 8
      simp only [List.getElem?_toArray, List.getElem?_cons_zero, List.getElem?_cons_succ] at f0 f1 f2 f3 f4 f5 f6 f7 f8
      have x0 := HXA.out.cell 0; have x1 := HXA.out.cell 1; have x2 := HXA.out.cell 2; have x3 := HXA.out.cell 3; have x4 := HXA.out.cell 4; have x5 := HXA.out.cell 5; have x6 := HXA.out.cell 6; have x7 := HXA.out.cell 7
      simp only [List.getElem?_toArray, List.getElem?_cons_zero, List.getElem?_cons_succ] at x0 x1 x2 x3 x4 x5 x6 x7
      go_wp2_with fail
      refine (HSM.out wA HA.out).mono ?_; rintro e wB ⟨rfl, hbB⟩
      rw [hs]
      have HB := Lib.hid (HA.out.trans (hbB.mono HA.out.size))
      have HDB := Lib.hid (Below.row hbB HDA.out HDA.out.lt)
      have HXB := Lib.hid (Below.row hbB HXA.out HXA.out.lt)
      clear hbB f0 f1 f2 f3 f4 f5 f6 f7 f8 x0 x1 x2 x3 x4 x5 x6 x7 HA HDA HXA HSM
      have f0 := HDB.out.cell 0; have f1 := HDB.out.cell 1; have f2 := HDB.out.cell 2; have f3 := HDB.out.cell 3; have f4 := HDB.out.cell 4; have f5 := HDB.out.cell 5; have f6 := HDB.out.cell 6; have f7 := HDB.out.cell 7; have f8 := HDB.out.cell 8
      simp only [List.getElem?_toArray, List.getElem?_cons_zero, List.getElem?_cons_succ] at f0 f1 f2 f3 f4 f5 f6 f7 f8
      have x0 := HXB.out.cell 0; have x1 := HXB.out.cell 1; have x2 := HXB.out.cell 2; have x3 := HXB.out.cell 3; have x4 := HXB.out.cell 4; have x5 := HXB.out.cell 5; have x6 := HXB.out.cell 6; have x7 := HXB.out.cell 7
      simp only [List.getElem?_toArray, List.getElem?_cons_zero, List.getElem?_cons_succ] at x0 x1 x2 x3 x4 x5 x6 x7
      go_wp2_with fail
      refine (HOF.out hs wB HB.out).mono ?_; rintro e' wC ⟨vL, A, c, rfl, hvL, hrd, hbC⟩
      clear f0 f1 f2 f3 f4 f5 f6 f7 f8 x0 x1 x2 x3 x4 x5 x6 x7
      obtain ⟨he, hhe⟩ : ∃ z : Int, (x.he : Int) = z := ⟨_, rfl⟩
      obtain ⟨tk, htk⟩ : ∃ z : Int, (x.tk : Int) = z := ⟨_, rfl⟩
      obtain ⟨s8, hs8⟩ : ∃ z : Int, ((x.sp % 10001 : Nat) : Int) = z := ⟨_, rfl⟩
      obtain ⟨e, hee⟩ : ∃ z : Int, ((repA L x.fr x.ah : Nat) : Int) = z := ⟨_, rfl⟩
      obtain ⟨dv, hdv⟩ : ∃ z : Int, 1 - ((x.fr / 128 : Nat) : Int) = z := ⟨_, rfl⟩
      have HT2 : Hid (repT L x.fr x.lo x.ts = T) := HTT.out
      rw [HT2.out] at hrd ⊢
      rw [hhe, htk, hs8, hee] at HNUM
      rw [hdv] at HTRA
      rw [hdv, hhe, htk, hs8, hee]
      obtain ⟨nw, hnw⟩ : ∃ z : Int, he + tk = z := ⟨_, rfl⟩
      rw [hnw]
      obtain ⟨A0, k0, c0, A1, k1, c1, A2, k2, c2, A3, k3, c3, A4, k4, c4, t0, t1, t2, t3, t4, hv, hlens⟩ := hvL.lens
      subst hv
      have HLENS := Lib.hid hlens
      have hba := ((Below.refl wC.heap.size wC).alloc (Nat.le_refl _) (.cells #[.slice A0 k0 c0, .slice A1 k1 c1, .slice A2 k2 c2, .slice A3 k3 c3, .slice A4 k4 c4, .int .i64 t0, .int .i64 t1, .int .i64 t2, .int .i64 t3, .int .i64 t4] 37)).alloc (by simp) (.cells (tcells 4 he (-1) dv e (.slice A T.length c)) 40)
      have hbb := hba.alloc hba.size (.cells (tcells 4 he (-1) dv e (.slice A T.length c)) 41)
      have HB1 := Lib.hid (HB.out.trans ((hbC.trans (hbb.mono hbC.size)).mono HB.out.size))
      have HXL : Hid (n1 < wC.heap.size) := by have h1 := HXB.out.lt; have h2 := hbC.size; show _ < _; omega
      have HX1 := Lib.hid (Below.row (hbC.trans (hbb.mono hbC.size)) HXB.out HXB.out.lt)
      have HV1 := Lib.hid (hvL.up hbb)
      have HT1 := Lib.hid (hrd.up hbb)
      have hy1 := ((Row.new wC 37 #[.slice A0 k0 c0, .slice A1 k1 c1, .slice A2 k2 c2, .slice A3 k3 c3, .slice A4 k4 c4, .int .i64 t0, .int .i64 t1, .int .i64 t2, .int .i64 t3, .int .i64 t4]).alloc (.cells (tcells 4 he (-1) dv e (.slice A T.length c)) 40)).alloc (.cells (tcells 4 he (-1) dv e (.slice A T.length c)) 41)
      have hy2 := (Row.new (wC.alloc (.cells #[.slice A0 k0 c0, .slice A1 k1 c1, .slice A2 k2 c2, .slice A3 k3 c3, .slice A4 k4 c4, .int .i64 t0, .int .i64 t1, .int .i64 t2, .int .i64 t3, .int .i64 t4] 37)) 40 (tcells 4 he (-1) dv e (.slice A T.length c))).alloc (.cells (tcells 4 he (-1) dv e (.slice A T.length c)) 41)
      have hy3 := Row.new ((wC.alloc (.cells #[.slice A0 k0 c0, .slice A1 k1 c1, .slice A2 k2 c2, .slice A3 k3 c3, .slice A4 k4 c4, .int .i64 t0, .int .i64 t1, .int .i64 t2, .int .i64 t3, .int .i64 t4] 37)).alloc (.cells (tcells 4 he (-1) dv e (.slice A T.length c)) 40)) 41 (tcells 4 he (-1) dv e (.slice A T.length c))
      rw [World.size_alloc] at hy2
      rw [World.size_alloc, World.size_alloc] at hy3
      have HL1 := Lib.hid hy1; have HTT1 := Lib.hid hy2; have HRR1 := Lib.hid hy3
      clear hba hbb hbC hvL hrd hy1 hy2 hy3 hlens HB HDB HXB HOF
      go_upto_region 4 with (fail)
      obtain ⟨nL, hnL⟩ : ∃ n, n = wC.heap.size := ⟨_, rfl⟩
      obtain ⟨nT, hnT⟩ : ∃ n, n = nL + 1 := ⟨_, rfl⟩
      obtain ⟨nR, hnR⟩ : ∃ n, n = nT + 1 := ⟨_, rfl⟩
      rw [← hnL] at HL1 HTT1 HRR1 ⊢
      rw [← hnT] at HTT1 HRR1 ⊢
      rw [← hnR] at HRR1 ⊢
      have HNB : Hid (n1 < nL ∧ nT = nL + 1 ∧ nR = nT + 1) := ⟨by have := HXL.out; omega, hnT, hnR⟩
      clear hnL hnT hnR
      generalize ((wC.alloc (.cells #[.slice A0 k0 c0, .slice A1 k1 c1, .slice A2 k2 c2, .slice A3 k3 c3, .slice A4 k4 c4, .int .i64 t0, .int .i64 t1, .int .i64 t2, .int .i64 t3, .int .i64 t4] 37)).alloc (.cells (tcells 4 he (-1) dv e (.slice A T.length c)) 40)).alloc (.cells (tcells 4 he (-1) dv e (.slice A T.length c)) 41) = wD at *
      have p0 := HL1.out.cell 0; have p1 := HL1.out.cell 1; have p2 := HL1.out.cell 2; have p3 := HL1.out.cell 3; have p4 := HL1.out.cell 4; have p5 := HL1.out.cell 5; have p6 := HL1.out.cell 6; have p7 := HL1.out.cell 7; have p8 := HL1.out.cell 8; have p9 := HL1.out.cell 9
      simp only [List.getElem?_toArray, List.getElem?_cons_zero, List.getElem?_cons_succ] at p0 p1 p2 p3 p4 p5 p6 p7 p8 p9
      go_wp2_with fail
      refine (new_any wD _ L HV1.out HLF.out.fits).mono ?_; rintro e' wE ⟨vg, rfl, hg, hbE⟩
      have HST : Hid (CSt w n1 nL nT nR #[.int .u8 (x.fr : Int), .int .u8 (x.lo : Int), .slice At tn ct, .int .u16 (x.ah : Int), .int .u16 (x.he : Int), .int .u16 (x.tk : Int), .int .u16 (x.sp : Int), .slice Ar R.length cr] #[.slice A0 k0 c0, .slice A1 k1 c1, .slice A2 k2 c2, .slice A3 k3 c3, .slice A4 k4 c4, .int .i64 t0, .int .i64 t1, .int .i64 t2, .int .i64 t3, .int .i64 t4] (tcells 4 he (-1) dv e (.slice A T.length c)) vg wE.heap.size L A c T Ar cr R wE) :=
        ⟨HB1.out.trans (hbE.mono HB1.out.size), Below.row hbE HX1.out HX1.out.lt, Below.row hbE HL1.out HL1.out.lt, Below.row hbE HTT1.out HTT1.out.lt, Below.row hbE HRR1.out HRR1.out.lt, HV1.out.up hbE, hg, HT1.out.up hbE, (HRI.out.below (HB1.out.trans (hbE.mono HB1.out.size)) (Nat.le_refl _)).mono (HB1.out.trans (hbE.mono HB1.out.size)).size (fun _ _ => rfl), Nat.le_refl _⟩
      clear hg hbE p0 p1 p2 p3 p4 p5 p6 p7 p8 p9 HB1 HX1 HL1 HTT1 HRR1 HV1 HT1 HRI HTT HT2
      generalize wE.heap.size = DG at *
      clear hhe htk hs8 hee hdv hs hR htn hnw
      obtain ⟨x0, hx0⟩ : ∃ q, T.getD 0 0 = q := ⟨_, rfl⟩
      have HX0 := Lib.hid hx0
      have hTp := HTRA.out.pos
      have hTl := HTRA.out.le
      have hT0 : T[0]? = some x0 := by rw [← hx0]; simp [List.getD, hTp]
      have hTi : (0 : Int) < (T.length : Int) := by omega
      clear hx0
      obtain ⟨bt, ot, hAt, -, z0⟩ := HST.out.tr.at (i := 0) (u := .int .i64 x0) (by simp [ivals, hT0])
      subst hAt
      rw [Nat.add_zero] at z0
      have HZ : Hid (∀ V, CSt w n1 nL nT nR #[.int .u8 (x.fr : Int), .int .u8 (x.lo : Int), .slice At tn ct, .int .u16 (x.ah : Int), .int .u16 (x.he : Int), .int .u16 (x.tk : Int), .int .u16 (x.sp : Int), .slice Ar R.length cr] #[.slice A0 k0 c0, .slice A1 k1 c1, .slice A2 k2 c2, .slice A3 k3 c3, .slice A4 k4 c4, .int .i64 t0, .int .i64 t1, .int .i64 t2, .int .i64 t3, .int .i64 t4] (tcells 4 he (-1) dv e (.slice (some ⟨bt, ot, none⟩) T.length c)) vg DG L (some ⟨bt, ot, none⟩) c T Ar cr R V → V.cell? ⟨bt, ot, none⟩ = some (.int .i64 x0)) := fun V h => by
        obtain ⟨b2, o2, hA2, -, z0⟩ := h.tr.at (i := 0) (u := .int .i64 x0) (by simp [ivals, hT0])
        injection hA2 with hA2
        injection hA2 with h1 h2
        rw [h1, h2]
        rw [Nat.add_zero] at z0
        exact z0
      obtain ⟨nA, hnA⟩ : ∃ n, wE.heap.size = n := ⟨_, rfl⟩
      have HNA : Hid (wE.heap.size = nA) := hnA
      clear hT0
      go_upto_region 5 with (fail)
      go_cut [13, 14] (fun v1 v2 wx => v1 = .pointer (some ⟨nA, 0, none⟩) ∧ v2 = .int .i64 e ∧ Hid (Row wx nA 47 #[.int .i64 x0, .int .i64 dv] ∧ Below nA wE wx))
      case first =>
        rename_i J K' hJ hK
        have s0 : wE.drew.cell? ⟨nT, 3, none⟩ = some (.int .i64 dv) ∧ wE.drew.cell? ⟨nT, 4, none⟩ = some (.int .i64 e) ∧ wE.drew.cell? ⟨nT, 5, none⟩ = some (.slice (some ⟨bt, ot, none⟩) T.length c) ∧ wE.drew.cell? ⟨bt, ot, none⟩ = some (.int .i64 x0) := ⟨HST.out.rt.cell 3, HST.out.rt.cell 4, HST.out.rt.cell 5, z0⟩
        obtain ⟨s1, s2, s3, s4⟩ := id s0
        have HCa := Lib.hid (HST.out.call ((Below.refl wE.heap.size wE).alloc (Nat.le_refl _) (.cells #[.int .i64 0, .int .i64 0] 47)).drew)
        have sA : (wE.alloc (.cells #[.int .i64 0, .int .i64 0] 47)).drew.cell? ⟨nT, 3, none⟩ = some (.int .i64 dv) ∧ (wE.alloc (.cells #[.int .i64 0, .int .i64 0] 47)).drew.cell? ⟨nT, 4, none⟩ = some (.int .i64 e) ∧ (wE.alloc (.cells #[.int .i64 0, .int .i64 0] 47)).drew.cell? ⟨nT, 5, none⟩ = some (.slice (some ⟨bt, ot, none⟩) T.length c) ∧ (wE.alloc (.cells #[.int .i64 0, .int .i64 0] 47)).drew.cell? ⟨bt, ot, none⟩ = some (.int .i64 x0) := ⟨HCa.out.rt.cell 3, HCa.out.rt.cell 4, HCa.out.rt.cell 5, HZ.out _ HCa.out⟩
        have HCb := Lib.hid (HST.out.call ((Below.refl wE.heap.size wE).alloc (Nat.le_refl _) (.cells #[.int .i64 x0, .int .i64 dv] 47)).drew)
        have sB : (wE.alloc (.cells #[.int .i64 x0, .int .i64 dv] 47)).drew.cell? ⟨nT, 3, none⟩ = some (.int .i64 dv) ∧ (wE.alloc (.cells #[.int .i64 x0, .int .i64 dv] 47)).drew.cell? ⟨nT, 4, none⟩ = some (.int .i64 e) ∧ (wE.alloc (.cells #[.int .i64 x0, .int .i64 dv] 47)).drew.cell? ⟨nT, 5, none⟩ = some (.slice (some ⟨bt, ot, none⟩) T.length c) ∧ (wE.alloc (.cells #[.int .i64 x0, .int .i64 dv] 47)).drew.cell? ⟨bt, ot, none⟩ = some (.int .i64 x0) := ⟨HCb.out.rt.cell 3, HCb.out.rt.cell 4, HCb.out.rt.cell 5, HZ.out _ HCb.out⟩
        have hrn := Row.new wE 47 #[.int .i64 x0, .int .i64 dv]
        have hba := (Below.refl wE.heap.size wE).alloc (Nat.le_refl _) (.cells #[.int .i64 x0, .int .i64 dv] 47)
        rw [hnA] at hrn hba
        have HC : Hid (Row (wE.alloc (.cells #[.int .i64 x0, .int .i64 dv] 47)).drew nA 47 #[.int .i64 x0, .int .i64 dv] ∧ Below nA wE (wE.alloc (.cells #[.int .i64 x0, .int .i64 dv] 47)).drew) := ⟨hrn, hba.drew⟩
        clear hrn hba
        go_region_held3 (fun w' => w'.cell? ⟨nT, 3, none⟩ = some (.int .i64 dv) ∧ w'.cell? ⟨nT, 4, none⟩ = some (.int .i64 e) ∧ w'.cell? ⟨nT, 5, none⟩ = some (.slice (some ⟨bt, ot, none⟩) T.length c) ∧ w'.cell? ⟨bt, ot, none⟩ = some (.int .i64 x0)) (first | (with_reducible assumption) | (with_reducible exact s0) | (with_reducible exact sA) | (with_reducible exact sB) | go_keep) (fail)
        all_goals (refine hK _ _ (Met.intro (hJ _ _ ?_)); (repeat apply Exists.intro); refine ⟨?rel, rfl⟩; case rel => exact ⟨rfl, rfl, HC.out⟩)
      case rest =>
      obtain ⟨rfl, rfl, HC⟩ := hcut
      obtain ⟨w1, hw1⟩ : ∃ W, W = wc := ⟨_, rfl⟩
      subst hw1
      clear z0
      have hb1 : Below wE.heap.size wE w1 := by rw [hnA]; exact HC.out.2
      have HC1 := Lib.hid (HST.out.call hb1)
      have HR1 := Lib.hid HC.out.1
      have HB1 := Lib.hid HC.out.2
      clear HC hb1 hnA
      obtain ⟨i3, hi3, hz30, hz31, hz32⟩ := info_parts Try.info3n
      have q5 := HC1.out.rt.cell 5
      simp only [List.getElem?_toArray, List.getElem?_cons_zero, List.getElem?_cons_succ] at q5
      have hbw : nA ≤ w1.heap.size := by have := HB1.out.size; have := HNA.out; omega
      go_wp2_with (at_builtin; refine wpList_app_rd rfl (.const (.slice none 0 0)) (.tmp 56) 38 rfl nA 3 i3 (.int .i64 0) Try.underlying38 hi3 hz30 hz31 hz32 rfl _ 0 [] rfl (World.ownsRow_nil _ _ _ _) _ T rfl HC1.out.tr (by omega) hbw ?_)
      intro v2 w2 hown2 hgrow2
      try rw [Nat.zero_add, List.nil_append] at hown2
      have hb2 : Below w1.heap.size w1 w2 := (Below.refl w1.heap.size w1).grown hgrow2 (Nat.le_refl _) (fun kk hk => by cases hk)
      obtain ⟨Az0, cz0, hv2⟩ := own_slice hown2
      subst hv2
      have HST9 : Hid (∀ V, Below nA wE V → Below w.heap.size w V) := fun V h => HST.out.bel.trans (h.mono (by rw [← HNA.out]; exact HST.out.bel.size))
      have HCS : Hid (∀ V, Below nA wE V → CSt w n1 nL nT nR #[.int .u8 (x.fr : Int), .int .u8 (x.lo : Int), .slice At tn ct, .int .u16 (x.ah : Int), .int .u16 (x.he : Int), .int .u16 (x.tk : Int), .int .u16 (x.sp : Int), .slice Ar R.length cr] #[.slice A0 k0 c0, .slice A1 k1 c1, .slice A2 k2 c2, .slice A3 k3 c3, .slice A4 k4 c4, .int .i64 t0, .int .i64 t1, .int .i64 t2, .int .i64 t3, .int .i64 t4] (tcells 4 he (-1) dv e (.slice (some ⟨bt, ot, none⟩) T.length c)) vg DG L (some ⟨bt, ot, none⟩) c T Ar cr R V) := fun V h => HST.out.call (by rw [HNA.out]; exact h)
      have HCV0 : Hid (CvSt wE nA (.slice Az0 T.length cz0) x0 dv T w2) := ⟨HB1.out.trans (hb2.mono hbw), Below.row hb2 HR1.out HR1.out.lt, hown2⟩
      have hcov : Cov L R T dv e (t0 * ((0 : Nat) : Int)) (x0, dv) e [] := by
        have h := Cov.start (R := R) (e := e) HTRA.out.pos HTRA.out.ok (t0 * ((0 : Nat) : Int))
        rw [HX0.out] at h
        exact h
      have HCO0 := Lib.hid hcov
      have hsp := HSPD.out
      have hl5 := HC1.out.lay
      have ht0 : t0 = L.speed := by
        obtain ⟨vN, vS, vP, vQ, vR, ps, hv, hd⟩ := hl5
        injection hv with hv
        have := congrArg (fun x : Array Value => x[5]?) hv
        simpa using this
      rw [← ht0] at hsp
      have HSPT := Lib.hid hsp
      have hn1 := HNUM.out.1; have hn4 := HNUM.out.2.2.2
      clear hown2 hgrow2 hb2 hcov hl5 ht0 q5 hbw HC1 HR1 HB1 HST hTp hTi
      go_wp2_with fail
      go_loopw [14, 15, 16] (fun va vs vi wr => ∃ (i : Nat) (acc zs : List Int) (a1 a2 ah D : Int) (Az : Option Addr) (cz : Nat), Hid (zs = T ++ acc) ∧ i ≤ sl ∧ vi = .int .i64 i ∧ va = .int .i64 ah ∧ vs = .slice Az zs.length cz ∧ (0 ≤ ah ∧ ah ≤ 100000) ∧ Hid (CvSt wE nA (.slice Az zs.length cz) a1 a2 zs wr) ∧ Hid (Cov L R T dv e (t0 * (i : Int)) (a1, a2) D acc) ∧ Hid (D - ah ≤ t0 * (i : Int))) (fun _ _ vi _ => sl - (RowKit.intOf vi).toNat)
      case atStart => exact ⟨0, [], T, x0, dv, e, e, Az0, cz0, (List.append_nil T).symm, Nat.zero_le _, rfl, rfl, rfl, by omega, HCV0.out, HCO0.out, by show e - e ≤ _; simp⟩
      case round =>
        clear HCV0 HCO0
        obtain ⟨i, acc, zs, a1, a2, ah, D, Az, cz, HZS, hi, rfl, rfl, rfl, hah, HCV, HCO, HDG⟩ := hrel
        by_cases hlt : i < sl
        · have hli : (i : Int) < (sl : Int) := by omega
          have hist : i < st.length := by have := HSTP.out.2.2; omega
          have hbel := HST9.out wr HCV.out.bel
          obtain ⟨bs, os, hAs, hbs, qs⟩ := (HSTP.out.1.below hbel (Nat.le_refl _)).at (i := i) (u := .int .u8 (st[i] : Int)) (by simp [bvals, hist])
          subst hAs
          have hyb := HSTP.out.2.1 st[i] (List.getElem_mem hist)
          generalize st[i] = y at *
          have p5 := (HCS.out wr HCV.out.bel).rl.cell 5
          simp only [List.getElem?_toArray, List.getElem?_cons_zero, List.getElem?_cons_succ] at p5
          have hs0 := HSPT.out
          have hmul : 0 ≤ (y : Int) * t0 ∧ (y : Int) * t0 ≤ 255 * t0 := ⟨Int.mul_nonneg (by omega) hs0.1, Int.mul_le_mul_of_nonneg_right (by omega) hs0.1⟩
          have hwm : IntKind.i64.wrap ((y : Int) * t0) = (y : Int) * t0 := IntWalk.i64_in _ (by omega)
          obtain ⟨M, hMd⟩ : ∃ M, ((y : Int) * t0) / 255 = M := ⟨_, rfl⟩
          have hMt : ((y : Int) * t0).tdiv 255 = M := by rw [Int.tdiv_eq_ediv_of_nonneg hmul.1]; exact hMd
          have hMb : 0 ≤ M ∧ M ≤ t0 := by omega
          have HMB := Lib.hid hMb
          have hwM : IntKind.i64.wrap M = M := IntWalk.i64_in _ (by omega)
          obtain ⟨ym, hym⟩ : ∃ z, (y : Int) * t0 = z := ⟨_, rfl⟩
          rw [hym] at hwm hMd hMt
          have hwy : IntKind.i64.wrap (y : Int) = (y : Int) := IntWalk.i64_in _ (by omega)
          clear hbel hmul hMb hs0
          go_upto_region 10 with (fail)
          go_cut [17] (fun v wx => v = .int .i64 M ∧ ∃ n, wx = wr.drewN n)
          case first =>
            rename_i J K' hJ hK
            go_quiet (fail)
            refine hK _ _ (Met.intro (hJ _ _ ?_)); (repeat apply Exists.intro); refine ⟨?rel, rfl⟩; case rel => exact ⟨by first | rfl | simp [hym, hwm, hMt, hMd, hwM], _, rfl⟩
          case rest =>
          obtain ⟨rfl, m0, hwc⟩ := hcut
          have hb0 : Below wr.heap.size wr wc := by rw [hwc]; exact Below.drewN (Below.refl _ _) m0
          have HCVq := Lib.hid (HCV.out.call hb0)
          obtain ⟨Bn, hBn⟩ : ∃ z, t0 * ((i + 1 : Nat) : Int) = z := ⟨_, rfl⟩
          have hB2 : t0 * (i : Int) + t0 = Bn := by rw [← hBn, show ((i + 1 : Nat) : Int) = (i : Int) + 1 by omega, Int.mul_add, Int.mul_one]
          have HBN := Lib.hid hBn
          have HCOq := Lib.hid (HCO.out.mono (B2 := Bn) (by have := HSPT.out; omega))
          have HDGq : Hid (D - ah + M ≤ Bn) := by have h1 := HDG.out; have h2 := HMB.out; show _ ≤ _; omega
          have hMr : 0 ≤ M ∧ M ≤ 1000 := by have h1 := HMB.out; have h2 := HSPT.out; omega
          clear hb0 hwc HCV HCO HDG hBn hB2 p5 qs hwm hMd hMt hwM hym hwy
          go_upto_block 2 with (fail)
          go_cut [14, 15, 17, 18, 19, 20] from 73 to 118 (fun va vs v17 v18 v19 v20 wx => ∃ (acc zs : List Int) (a1 a2 ah D : Int) (Az : Option Addr) (cz : Nat), Hid (zs = T ++ acc) ∧ va = .int .i64 ah ∧ vs = .slice Az zs.length cz ∧ (0 ≤ ah ∧ ah ≤ 100000) ∧ Hid (CvSt wE nA (.slice Az zs.length cz) a1 a2 zs wx) ∧ Hid (Cov L R T dv e Bn (a1, a2) D acc) ∧ Hid (D - ah ≤ Bn))
          case first =>
            go_wp2_with fail
            go_loopw [14, 15, 17] (fun va vs vm wr => ∃ (acc zs : List Int) (a1 a2 ah D M : Int) (Az : Option Addr) (cz : Nat), Hid (zs = T ++ acc) ∧ va = .int .i64 ah ∧ vm = .int .i64 M ∧ vs = .slice Az zs.length cz ∧ (0 ≤ ah ∧ ah ≤ 100000) ∧ (0 ≤ M ∧ M ≤ 1000) ∧ Hid (CvSt wE nA (.slice Az zs.length cz) a1 a2 zs wr) ∧ Hid (Cov L R T dv e Bn (a1, a2) D acc) ∧ Hid (D - ah + M ≤ Bn)) (fun _ _ vm _ => (RowKit.intOf vm).toNat)
            case atStart => exact ⟨acc, zs, a1, a2, ah, D, M, Az, cz, HZS.out, rfl, rfl, rfl, hah, by omega, HCVq.out, HCOq.out, HDGq.out⟩
            case round =>
              clear HCVq HCOq HDGq hah
              obtain ⟨acc, zs, a1, a2, ah, D, M, Az, cz, HZS, rfl, rfl, rfl, hah, hM, HCV, HCO, HDG⟩ := hrel
              by_cases hm : 0 < M
              · by_cases h0 : ah = 0
                · subst h0
                  have HCC := Lib.hid (HCS.out wr HCV.out.bel)
                  have p0 := HCC.out.rl.cell 0; have p1 := HCC.out.rl.cell 1; have p2 := HCC.out.rl.cell 2; have p3 := HCC.out.rl.cell 3; have p4 := HCC.out.rl.cell 4; have p5 := HCC.out.rl.cell 5; have p6 := HCC.out.rl.cell 6; have p7 := HCC.out.rl.cell 7; have p8 := HCC.out.rl.cell 8; have p9 := HCC.out.rl.cell 9
                  simp only [List.getElem?_toArray, List.getElem?_cons_zero, List.getElem?_cons_succ] at p0 p1 p2 p3 p4 p5 p6 p7 p8 p9
                  have u0 := HCV.out.ra.cell 0; have u1 := HCV.out.ra.cell 1
                  simp only [List.getElem?_toArray, List.getElem?_cons_zero, List.getElem?_cons_succ] at u0 u1
                  have s7 := HCC.out.rs.cell 7
                  simp only [List.getElem?_toArray, List.getElem?_cons_zero, List.getElem?_cons_succ] at s7
                  have HNX := Lib.hid (refNext_any wr wr.heap.size _ L a1 a2 Ar cr R HCC.out.lay (Nat.le_refl _) HLF.out.fits HCC.out.ri)
                  have HNE : Hid (nextL L (a1, a2) R = nextR L (a1, a2) R) := next_eq L (a1, a2) R
                  obtain ⟨r, hr⟩ : ∃ r, nextR L (a1, a2) R = r := ⟨_, rfl⟩
                  rw [hr] at HNX HNE
                  clear hr
                  go_wp2_with fail
                  refine HNX.out.mono ?_; rintro y w3 ⟨rfl, hb3⟩
                  clear p0 p1 p2 p3 p4 p5 p6 p7 p8 p9 u0 u1 s7 HNX
                  cases r with
                  | none =>
                    have hba := (Below.refl w3.heap.size w3).alloc (Nat.le_refl _) (.cells #[.int .i64 0, .int .i64 0] 47)
                    have HCV4 : Hid (CvSt wE nA (.slice Az zs.length cz) a1 a2 zs (w3.alloc (.cells #[.int .i64 0, .int .i64 0] 47))) := HCV.out.call (hb3.trans (hba.mono hb3.size))
                    clear hba hb3 HCV HCC
                    simp only [Option.getD_none, Option.isSome_none]
                    go_upto_region 14 with (fail)
                    generalize w3.alloc (.cells #[.int .i64 0, .int .i64 0] 47) = w4 at *
                    have hahz : (0 : Int) ≤ 0 ∧ (0 : Int) ≤ 100000 := by omega
                    go_wp2_with fail
                    go_meet
                    case rel => exact ⟨acc, zs, a1, a2, 0, D, Az, cz, HZS.out, rfl, rfl, by omega, HCV4.out, HCO.out, by have := HDG.out; show _ ≤ _; omega⟩
                  | some x =>
                    obtain ⟨x1, x2⟩ := x
                    have hba := (Below.refl w3.heap.size w3).alloc (Nat.le_refl _) (.cells #[.int .i64 x1, .int .i64 x2] 47)
                    have hbb := hb3.trans (hba.mono hb3.size)
                    have HCV4 : Hid (CvSt wE nA (.slice Az zs.length cz) a1 a2 zs (w3.alloc (.cells #[.int .i64 x1, .int .i64 x2] 47))) := HCV.out.call hbb
                    have HR8 := Lib.hid (Row.new w3 47 #[.int .i64 x1, .int .i64 x2])
                    have HN8 : Hid (nA < w3.heap.size) := by have := HCV.out.ra.lt; have := hb3.size; show _ < _; omega
                    clear hba hb3 hbb HCV HCC
                    simp only [Option.getD_some, Option.isSome_some]
                    go_upto_region 14 with (fail)
                    obtain ⟨n8, hn8⟩ : ∃ n, n = w3.heap.size := ⟨_, rfl⟩
                    rw [← hn8] at HR8 HN8 ⊢
                    clear hn8
                    generalize w3.alloc (.cells #[.int .i64 x1, .int .i64 x2] 47) = w4 at *
                    have z0 := HR8.out.cell 0
                    simp only [List.getElem?_toArray, List.getElem?_cons_zero] at z0
                    have hla : zs.length ≤ 100000 := by
                      have h1 := (HCO.out.go Bn (Int.le_refl _)).len
                      have h2 := HLF.out.fits.s
                      rw [HZS.out, List.length_append]; omega
                    have HHS := Lib.hid (refHas_any w4 w4.heap.size _ zs x1 (Rd.of_own HCV4.out.so) hla)
                    go_wp2_with fail
                    refine HHS.out.mono ?_; rintro y w5 ⟨rfl, rfl⟩
                    clear HHS z0
                    cases hcn : zs.contains x1 with
                    | true =>
                      clear hcn
                      have hahz : (0 : Int) ≤ 0 ∧ (0 : Int) ≤ 100000 := by omega
                      go_wp2_with fail
                      go_meet
                      case rel => exact ⟨acc, zs, a1, a2, 0, D, Az, cz, HZS.out, rfl, rfl, by omega, HCV4.out, HCO.out, by have := HDG.out; show _ ≤ _; omega⟩
                    | false =>
                      rw [HZS.out, contains_app, Bool.or_eq_false_iff] at hcn
                      have hen := HCO.out.enter HLF.out.tame (by have := HDG.out; omega) HNE.out hcn.1 hcn.2
                      obtain ⟨xn, hxn, hxl⟩ := hen.2
                      have hxs := HLF.out.secs.2 xn hxl
                      rw [← hxn] at hxs
                      have HCO2 := Lib.hid hen.1
                      have hok2 := (hen.1.go Bn (Int.le_refl _)).ok
                      obtain ⟨_, -, -, hx2⟩ := hok2
                      have hx2' : 1 - x2 = 0 ∨ 1 - x2 = 1 := hx2
                      have hwx : IntKind.i64.wrap (1 - x2) = 1 - x2 := IntWalk.i64_in _ (by omega)
                      clear hx2 hx2'
                      clear hen hxn hxl hcn HNE HCO
                      obtain ⟨ah2, hah2⟩ : ∃ z, lenL L.secs x1 = z := ⟨_, rfl⟩
                      rw [hah2] at HCO2 hxs
                      have HAH := Lib.hid hah2
                      clear hah2
                      have HKS : Hid (∀ V, Below nA wE V → Row V n8 47 #[.int .i64 x1, .int .i64 x2] → V.cell? ⟨nL, 0, none⟩ = some (.slice A0 k0 c0) ∧ V.cell? ⟨nL, 1, none⟩ = some (.slice A1 k1 c1) ∧ V.cell? ⟨nL, 2, none⟩ = some (.slice A2 k2 c2) ∧ V.cell? ⟨nL, 3, none⟩ = some (.slice A3 k3 c3) ∧ V.cell? ⟨nL, 4, none⟩ = some (.slice A4 k4 c4) ∧ V.cell? ⟨nL, 5, none⟩ = some (.int .i64 t0) ∧ V.cell? ⟨nL, 6, none⟩ = some (.int .i64 t1) ∧ V.cell? ⟨nL, 7, none⟩ = some (.int .i64 t2) ∧ V.cell? ⟨nL, 8, none⟩ = some (.int .i64 t3) ∧ V.cell? ⟨nL, 9, none⟩ = some (.int .i64 t4) ∧ V.cell? ⟨n8, 0, none⟩ = some (.int .i64 x1) ∧ V.cell? ⟨n8, 1, none⟩ = some (.int .i64 x2)) := fun V h1 h2 => by
                        have h := HCS.out V h1
                        exact ⟨h.rl.cell 0, h.rl.cell 1, h.rl.cell 2, h.rl.cell 3, h.rl.cell 4, h.rl.cell 5, h.rl.cell 6, h.rl.cell 7, h.rl.cell 8, h.rl.cell 9, h2.cell 0, h2.cell 1⟩
                      go_upto_region 15 with (fail)
                      go_cut [14] (fun v wx => v = .int .i64 ah2 ∧ Hid (CvSt wE nA (.slice Az zs.length cz) x1 (1 - x2) zs wx ∧ Row wx n8 47 #[.int .i64 x1, .int .i64 x2]))
                      case first =>
                        rename_i J K' hJ hK
                        have hbd := (Below.refl w4.heap.size w4).drew
                        have HA := Lib.hid (HCV4.out.call hbd)
                        have HA8 : Hid (Row w4.drew n8 47 #[.int .i64 x1, .int .i64 x2]) := HR8.out
                        have HB := Lib.hid (HA.out.set x1 (1 - x2))
                        have hne8 : n8 ≠ nA := by have := HN8.out; omega
                        have HB8 : Hid (Row ((w4.drew.setCell ⟨nA, 0, none⟩ (.int .i64 x1)).setCell ⟨nA, 1, none⟩ (.int .i64 (1 - x2))) n8 47 #[.int .i64 x1, .int .i64 x2]) := Row.other (Row.other HA8.out (a := ⟨nA, 0, none⟩) hne8 _) (a := ⟨nA, 1, none⟩) hne8 _
                        have s0 := HKS.out _ HA.out.bel HA8.out
                        have sB := HKS.out _ HB.out.bel HB8.out
                        have HLA := Lib.hid (refLen_any w4.drew w4.drew.heap.size _ L x1 (HCS.out _ HA.out.bel).lay (Nat.le_refl _) HLF.out.fits)
                        have HLB := Lib.hid (refLen_any ((w4.drew.setCell ⟨nA, 0, none⟩ (.int .i64 x1)).setCell ⟨nA, 1, none⟩ (.int .i64 (1 - x2))) ((w4.drew.setCell ⟨nA, 0, none⟩ (.int .i64 x1)).setCell ⟨nA, 1, none⟩ (.int .i64 (1 - x2))).heap.size _ L x1 (HCS.out _ HB.out.bel).lay (Nat.le_refl _) HLF.out.fits)
                        rw [HAH.out] at HLA HLB
                        have y0 := HA.out.ra.cell 0; have y1 := HA.out.ra.cell 1; have zy0 := HA.out.ra.frozen 0; have zy1 := HA.out.ra.frozen 1
                        simp only [List.getElem?_toArray, List.getElem?_cons_zero, List.getElem?_cons_succ] at y0 y1
                        obtain ⟨r0, r1, r2, r3, r4, r5, r6, r7, r8, r9, r10, r11⟩ := (show _ from s0)
                        have HNE8 := Lib.hid hne8
                        clear hbd hne8
                        go_region_held3 (fun w' => w'.cell? ⟨nL, 0, none⟩ = some (.slice A0 k0 c0) ∧ w'.cell? ⟨nL, 1, none⟩ = some (.slice A1 k1 c1) ∧ w'.cell? ⟨nL, 2, none⟩ = some (.slice A2 k2 c2) ∧ w'.cell? ⟨nL, 3, none⟩ = some (.slice A3 k3 c3) ∧ w'.cell? ⟨nL, 4, none⟩ = some (.slice A4 k4 c4) ∧ w'.cell? ⟨nL, 5, none⟩ = some (.int .i64 t0) ∧ w'.cell? ⟨nL, 6, none⟩ = some (.int .i64 t1) ∧ w'.cell? ⟨nL, 7, none⟩ = some (.int .i64 t2) ∧ w'.cell? ⟨nL, 8, none⟩ = some (.int .i64 t3) ∧ w'.cell? ⟨nL, 9, none⟩ = some (.int .i64 t4) ∧ w'.cell? ⟨n8, 0, none⟩ = some (.int .i64 x1) ∧ w'.cell? ⟨n8, 1, none⟩ = some (.int .i64 x2)) (first | (with_reducible assumption) | (with_reducible exact s0) | (with_reducible exact sB) | go_keep) (first | (go_at_call 20; (with_reducible refine HLA.out.mono ?_); rintro y v1 ⟨rfl, hb⟩; have HC := Lib.hid (HA.out.call hb); have HC8 := Lib.hid (Below.row hb HA8.out HA8.out.lt); have s1 := HKS.out _ HC.out.bel HC8.out; have HD := Lib.hid (HC.out.set x1 (1 - x2)); have HD8 : Hid (Row ((v1.setCell ⟨nA, 0, none⟩ (.int .i64 x1)).setCell ⟨nA, 1, none⟩ (.int .i64 (1 - x2))) n8 47 #[.int .i64 x1, .int .i64 x2]) := Row.other (Row.other HC8.out (a := ⟨nA, 0, none⟩) HNE8.out _) (a := ⟨nA, 1, none⟩) HNE8.out _; have s2 := HKS.out _ HD.out.bel HD8.out; have y0 := HC.out.ra.cell 0; have y1 := HC.out.ra.cell 1; have zy0 := HC.out.ra.frozen 0; have zy1 := HC.out.ra.frozen 1; simp only [List.getElem?_toArray, List.getElem?_cons_zero, List.getElem?_cons_succ] at y0 y1; clear hb) | (go_at_call 20; (with_reducible refine HLB.out.mono ?_); rintro y v1 ⟨rfl, hb⟩; have HD := Lib.hid (HB.out.call hb); have HD8 := Lib.hid (Below.row hb HB8.out HB8.out.lt); have s1 := HKS.out _ HD.out.bel HD8.out; clear hb))
                        all_goals (refine hK _ _ (Met.intro (hJ _ _ ?_)); (repeat apply Exists.intro); refine ⟨?rel, rfl⟩; case rel => exact ⟨rfl, HD.out, HD8.out⟩)
                      case rest =>
                      obtain ⟨rfl, HCX⟩ := hcut
                      have HCV5 := Lib.hid HCX.out.1; have HR85 := Lib.hid HCX.out.2
                      clear HCX HCV4 HR8 HKS
                      have z0 := HR85.out.cell 0
                      simp only [List.getElem?_toArray, List.getElem?_cons_zero] at z0
                      have hAs := Nat.le_of_lt HCV5.out.ra.lt
                      go_upto_region 17 with (at_builtin; refine wpList_append_own_at _ rfl (.tmp 103) (.tmp 106) 38 rfl nA 3 i3 (.int .i64 0) 1 8 Try.underlying38 hi3 hz30 hz31 hz32 rfl (by decide) _ _ _ rfl (HCV5.out.so.alloc _) ⟨wc.heap.size, 0, none⟩ 1 1 [.int .i64 x1] rfl rfl (one_new wc 3 _) (one_cell rfl) (by unfold maxLen; omega) (by omega) (by simp; omega) ?_)
                      intro v7 w7 hown7 hgrow7 _ _
                      have hcv7 := HCV5.out.put hown7 hgrow7
                      obtain ⟨Az2, cz2, hv7⟩ := own_slice hcv7.so
                      subst hv7
                      obtain ⟨acc2, hacc2⟩ : ∃ l, acc ++ [x1] = l := ⟨_, rfl⟩
                      obtain ⟨zs2, hzs2⟩ : ∃ l, zs ++ [x1] = l := ⟨_, rfl⟩
                      have HZ2 : Hid (zs2 = T ++ acc2) := by show _ = _; rw [← hzs2, ← hacc2, HZS.out, List.append_assoc]
                      have hzl2 : zs.length + 1 = zs2.length := by rw [← hzs2]; simp
                      rw [hzs2] at hcv7
                      have HCV7 := Lib.hid hcv7
                      rw [hacc2] at HCO2
                      try rw [hzs2]
                      clear hown7 hgrow7 hcv7 HCV5 HR85 z0 hacc2 hzs2 hAs hzl2
                      obtain ⟨b1, b2, D2, hbd⟩ : ∃ b1 b2 D2 : Int, b1 = x1 ∧ b2 = 1 - x2 ∧ D2 = D + ah2 := ⟨_, _, _, rfl, rfl, rfl⟩
                      have HBD := Lib.hid hbd
                      have HDG2 : Hid (D2 - ah2 + M ≤ Bn) := by have h1 := HDG.out; have h2 := hbd.2.2; show _ ≤ _; omega
                      rw [← hbd.1, ← hbd.2.1] at HCV7
                      rw [← hbd.1, ← hbd.2.1, ← hbd.2.2] at HCO2
                      clear hbd HDG
                      go_upto_region 17 with (fail)
                      have hMp : 0 < M := hm
                      by_cases hk : ah2 < M
                      · have hah0 : 0 < ah2 := by omega
                        go_wp2_with fail
                        go_roundw
                        case rel => exact ⟨acc2, zs2, b1, b2, ah2 - ah2, D2, M - ah2, Az2, cz2, HZ2.out, by go_num, by go_num, rfl, by omega, by omega, HCV7.out, HCO2.out, by have := HDG2.out; show _ ≤ _; omega⟩
                        case measure => simp [RowKit.intOf]; omega
                      · have hah0 : 0 < ah2 := by omega
                        go_wp2_with fail
                        go_roundw
                        case rel => exact ⟨acc2, zs2, b1, b2, ah2 - M, D2, M - M, Az2, cz2, HZ2.out, by go_num, by go_num, rfl, by omega, by omega, HCV7.out, HCO2.out, by have := HDG2.out; show _ ≤ _; omega⟩
                        case measure => simp [RowKit.intOf]; omega
                · obtain ⟨acc2, zs2, b1, b2, ah2, D2, Az2, cz2, h1, h2, h3, h4, h5, h6, h7, h8⟩ : ∃ acc2 zs2 b1 b2 ah2 D2 Az2 cz2, acc2 = acc ∧ zs2 = zs ∧ b1 = a1 ∧ b2 = a2 ∧ ah2 = ah ∧ D2 = D ∧ Az2 = Az ∧ cz2 = cz := ⟨_, _, _, _, _, _, _, _, rfl, rfl, rfl, rfl, rfl, rfl, rfl, rfl⟩
                  subst h1 h2 h3 h4 h5 h6 h7 h8
                  have HZ2 := Lib.hid HZS.out
                  have hahz : (ah2 == 0) = false := by simpa using h0
                  have HDG2 := Lib.hid HDG.out
                  have hahp : 0 < ah2 := by have := hah.1; omega
                  clear h0
                  have hMp : 0 < M := hm
                  by_cases hk : ah2 < M
                  · have hah0 : 0 < ah2 := by omega
                    go_wp2_with fail
                    go_roundw
                    case rel => exact ⟨acc2, zs2, b1, b2, ah2 - ah2, D2, M - ah2, Az2, cz2, HZ2.out, by go_num, by go_num, rfl, by omega, by omega, HCV.out, HCO.out, by have := HDG2.out; show _ ≤ _; omega⟩
                    case measure => simp [RowKit.intOf]; omega
                  · have hah0 : 0 < ah2 := by omega
                    go_wp2_with fail
                    go_roundw
                    case rel => exact ⟨acc2, zs2, b1, b2, ah2 - M, D2, M - M, Az2, cz2, HZ2.out, by go_num, by go_num, rfl, by omega, by omega, HCV.out, HCO.out, by have := HDG2.out; show _ ≤ _; omega⟩
                    case measure => simp [RowKit.intOf]; omega
              · go_wp2_with fail
                go_meet
                case rel => exact ⟨acc, zs, a1, a2, ah, D, Az, cz, HZS.out, rfl, rfl, by omega, HCV.out, HCO.out, by have := HDG.out; show _ ≤ _; omega⟩
          case rest =>
            clear HCVq HCOq HDGq hah hMr HMB
            obtain ⟨acc, zs, a1, a2, ah, D, Az, cz, HZS, rfl, rfl, hah, HCV, HCO, HDG⟩ := hcut
            obtain ⟨wz, hwz⟩ : ∃ W, W = wc := ⟨_, rfl⟩
            subst hwz
            go_upto_region 22 with (fail)
            go_cut [134] (fun v wx => v = .bool false ∧ Hid (CvSt wE nA (.slice Az zs.length cz) a1 a2 zs wx))
            case first =>
              rename_i J K' hJ hK
              have hbd := (Below.refl wz.heap.size wz).drew
              have HA := Lib.hid (HCV.out.call hbd)
              have HKS : Hid (∀ V, CvSt wE nA (.slice Az zs.length cz) a1 a2 zs V → V.cell? ⟨nT, 0, none⟩ = some (.int .i64 4) ∧ V.cell? ⟨nT, 1, none⟩ = some (.int .i64 he) ∧ V.cell? ⟨nT, 2, none⟩ = some (.int .i64 (-1)) ∧ V.cell? ⟨nT, 3, none⟩ = some (.int .i64 dv) ∧ V.cell? ⟨nT, 4, none⟩ = some (.int .i64 e) ∧ V.cell? ⟨nT, 5, none⟩ = some (.slice (some ⟨bt, ot, none⟩) T.length c) ∧ V.cell? ⟨nL, 5, none⟩ = some (.int .i64 t0) ∧ V.cell? ⟨n1, 7, none⟩ = some (.slice Ar R.length cr) ∧ V.cell? ⟨nA, 0, none⟩ = some (.int .i64 a1)) := fun V h1 => by
                have h := HCS.out V h1.bel
                exact ⟨h.rt.cell 0, h.rt.cell 1, h.rt.cell 2, h.rt.cell 3, h.rt.cell 4, h.rt.cell 5, h.rl.cell 5, h.rs.cell 7, h1.ra.cell 0⟩
              have hnw : t0 * (he + (i : Int) + 1 - he) - e = Bn - e := by
                rw [show he + (i : Int) + 1 - he = ((i + 1 : Nat) : Int) by omega, HBN.out]
              have HSP := Lib.hid ((HCS.out _ HA.out.bel).span HLF.out HTRA.out (he + (i : Int) + 1) t0 (by have := HSPT.out; omega) (by omega) (by omega))
              rw [hnw] at HSP
              have hmem := HCO.out.mem
              have hul : (spanL L R T dv (Bn - e)).length ≤ 1000 := by
                unfold spanL
                rw [List.length_append, List.length_reverse]
                have h1 := ahead_len HLF.out.tame R (Bn - e) HTRA.out.ok
                have h2 := HLF.out.fits.s
                omega
              have HUC : Hid ((spanL L R T dv (Bn - e)).contains a1 = true) := List.contains_iff_mem.2 hmem
              have HUL := Lib.hid hul
              generalize spanL L R T dv (Bn - e) = U at *
              have s0 := HKS.out _ HA.out
              obtain ⟨r0, r1, r2, r3, r4, r5, r6, r7, r8⟩ := (show _ from s0)
              have hw1 : IntKind.i64.wrap (he + (i : Int)) = he + (i : Int) := IntWalk.i64_in _ (by omega)
              have hw2 : IntKind.i64.wrap (he + (i : Int) + 1) = he + (i : Int) + 1 := IntWalk.i64_in _ (by omega)
              have hw3 : IntKind.i64.wrap (i : Int) = (i : Int) := IntWalk.i64_in _ (by omega)
              clear hbd hnw hmem hul
              go_region_held3 (fun w' => w'.cell? ⟨nT, 0, none⟩ = some (.int .i64 4) ∧ w'.cell? ⟨nT, 1, none⟩ = some (.int .i64 he) ∧ w'.cell? ⟨nT, 2, none⟩ = some (.int .i64 (-1)) ∧ w'.cell? ⟨nT, 3, none⟩ = some (.int .i64 dv) ∧ w'.cell? ⟨nT, 4, none⟩ = some (.int .i64 e) ∧ w'.cell? ⟨nT, 5, none⟩ = some (.slice (some ⟨bt, ot, none⟩) T.length c) ∧ w'.cell? ⟨nL, 5, none⟩ = some (.int .i64 t0) ∧ w'.cell? ⟨n1, 7, none⟩ = some (.slice Ar R.length cr) ∧ w'.cell? ⟨nA, 0, none⟩ = some (.int .i64 a1)) (first | (with_reducible assumption) | (with_reducible exact s0) | go_keep) (first | (go_at_call 15; (with_reducible refine HSP.out.mono ?_); rintro y v1 ⟨v9, rfl, ho, hb⟩; have HC := Lib.hid (HA.out.call hb); have s1 := HKS.out _ HC.out; have HRU := Lib.hid (Rd.of_own ho); clear hb ho) | (go_at_call 19; (with_reducible refine (refHas_any _ _ _ U a1 HRU.out (by have := HUL.out; omega)).mono ?_); rintro y v2 ⟨rfl, rfl⟩; rw [HUC.out]))
              all_goals (refine hK _ _ (Met.intro (hJ _ _ ?_)); (repeat apply Exists.intro); refine ⟨?rel, rfl⟩; case rel => exact ⟨rfl, HC.out⟩)
            case rest =>
            obtain ⟨rfl, HCX⟩ := hcut
            have HDX : Hid (D - ah ≤ t0 * ((i + 1 : Nat) : Int)) := by rw [HBN.out]; exact HDG.out
            have HCX2 : Hid (Cov L R T dv e (t0 * ((i + 1 : Nat) : Int)) (a1, a2) D acc) := by rw [HBN.out]; exact HCO.out
            clear HCV HCO HDG HBN
            go_wp2_with fail
            go_roundw
            case rel => exact ⟨i + 1, acc, zs, a1, a2, ah, D, Az, cz, HZS.out, by omega, by go_num, rfl, rfl, hah, HCX.out, HCX2.out, HDX.out⟩
            case measure => simp [RowKit.intOf]; omega
        · have hli : ¬ (i : Int) < (sl : Int) := by omega
          have HBZ := Lib.hid (HST9.out wr HCV.out.bel)
          go_wp2_with fail
          go_ret
          exact ⟨rfl, HBZ.out⟩
    · have h40i : (40 : Int) < (sl : Int) := by omega
      go_enter Try.func5, Try.ntmps5
      go_upto_region 1 with (fail)
      obtain ⟨n0, hn0⟩ : ∃ n, n = w.heap.size := ⟨_, rfl⟩
      obtain ⟨n1, hn1⟩ : ∃ n, n = n0 + 1 := ⟨_, rfl⟩
      have HN : Hid (n0 = w.heap.size) := hn0
      rw [← hn0] at HRD HRX ⊢
      rw [← hn1] at HRX ⊢
      clear hn0 hn1
      generalize (w.alloc (.cells #[.int .u8 (d.form : Int), .int .u8 (d.len : Int), .int .u8 (d.speed : Int), .int .u16 (d.mute : Int), .int .u16 (d.wait : Int), .int .u8 (d.cancel : Int), .int .u8 (d.stay : Int), .int .u8 (d.join : Int), .slice Ad kd cd] 25)).alloc (.cells #[.int .u8 (x.fr : Int), .int .u8 (x.lo : Int), .slice At tn ct, .int .u16 (x.ah : Int), .int .u16 (x.he : Int), .int .u16 (x.tk : Int), .int .u16 (x.sp : Int), .slice Ar R.length cr] 29) = W0 at *
      go_wp2_with fail
      refine (later_any W0).mono ?_; rintro e wA ⟨rfl, hbA⟩
      have HA := Lib.hid (HB0.out.trans (hbA.mono HB0.out.size))
      have HDA := Lib.hid (Below.row hbA HRD.out HRD.out.lt)
      have HXA := Lib.hid (Below.row hbA HRX.out HRX.out.lt)
      clear hbA HB0 HRD HRX
      have f0 := HDA.out.cell 0; have f1 := HDA.out.cell 1; have f2 := HDA.out.cell 2; have f3 := HDA.out.cell 3; have f4 := HDA.out.cell 4; have f5 := HDA.out.cell 5; have f6 := HDA.out.cell 6; have f7 := HDA.out.cell 7; have f8 := HDA.out.cell 8
      simp only [List.getElem?_toArray, List.getElem?_cons_zero, List.getElem?_cons_succ] at f0 f1 f2 f3 f4 f5 f6 f7 f8
      have x0 := HXA.out.cell 0; have x1 := HXA.out.cell 1; have x2 := HXA.out.cell 2; have x3 := HXA.out.cell 3; have x4 := HXA.out.cell 4; have x5 := HXA.out.cell 5; have x6 := HXA.out.cell 6; have x7 := HXA.out.cell 7
      simp only [List.getElem?_toArray, List.getElem?_cons_zero, List.getElem?_cons_succ] at x0 x1 x2 x3 x4 x5 x6 x7
      go_wp2_with fail
      refine (HSM.out wA HA.out).mono ?_; rintro e wB ⟨rfl, hbB⟩
      rw [hs]
      have HB := Lib.hid (HA.out.trans (hbB.mono HA.out.size))
      clear hbB f0 f1 f2 f3 f4 f5 f6 f7 f8 x0 x1 x2 x3 x4 x5 x6 x7 HA HDA HXA
      go_wp2_with fail
      refine (later_any wB).mono ?_; rintro e wZ ⟨rfl, hbZ⟩
      have HZ := Lib.hid (HB.out.trans (hbZ.mono HB.out.size))
      clear hbZ
      go_wp2_with fail
      go_ret
      exact ⟨rfl, HZ.out⟩

end Go.Proofs.Ytbomkifnhkmkoaa
