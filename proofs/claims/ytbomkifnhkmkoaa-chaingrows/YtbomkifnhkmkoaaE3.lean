/- The law ChainGrows. -/
import Derived.Test.YtbomkifnhkmkoaaD1
import Derived.Test.YtbomkifnhkmkoaaRise
namespace Go.Proofs.Ytbomkifnhkmkoaa
open Go.RowKit Fl
set_option maxRecDepth 100000

theorem own_zero {w : World} {B n c : Nat} {e : TypeId} {s : Nat} {b o : Nat} {m : Nat} {xs : List Value} (h : w.ownsRow B e s (.slice (some ⟨b, o, none⟩) n c) m xs) : o = 0 := by
  rcases h.2 with ⟨hv, _⟩ | ⟨g, cap, cur, hv, _⟩
  · cases hv
  · injection hv with hv
    injection hv with hv
    injection hv

/-- The end of a list that lies in a block. -/
theorem rd_tail {V : World} {g : Nat} {xs ys zs : List Int} {n c p : Nat} (hxs : xs = ys ++ zs) (hp : ys.length = p) (hn : xs.length = n) (hc : n ≤ c) (h : ∀ i (hi : i < xs.length), V.cell? ⟨g, i, none⟩ = some (.int .i64 xs[i])) (hz : 0 < zs.length) :
    Rd V V.heap.size (.slice (some ⟨g, p, none⟩) (n - p) (c - p)) (ivals zs) := by
  have hl : n = p + zs.length := by rw [← hn, hxs, List.length_append, hp]
  have hl2 : n - p = zs.length := by omega
  refine ⟨some ⟨g, p, none⟩, c - p, by rw [ivals_length, hl2], ⟨(fun h => by cases h), by rw [ivals_length]; omega⟩, fun _ => ⟨g, p, rfl, cell_lt (h 0 (by omega)), fun j u hu => ?_⟩⟩
  have hj : j < zs.length := by have := (List.getElem?_eq_some_iff.1 hu).1; rwa [ivals_length] at this
  rw [ivals_get zs j hj] at hu
  injection hu with hu
  subst hu
  have h1 := h (p + j) (by omega)
  rw [h1]
  congr 2
  subst hp
  simp only [hxs]
  rw [List.getElem_append_right (by omega)]
  congr 1
  omega

set_option maxHeartbeats 16000000 in
theorem lawGrows (w : World) (d : Dr) (vr : Value) (x : Sp) (At : Option Addr) (ct : Nat) (Ar : Option Addr) (cr : Nat) (mo fa : Nat) (hmo : mo < 256) (hfa : fa < 256) (hd : DrOk d) (hbr : BRows w w.heap.size vr d.routes) (hl : d.routes.length ≤ 9223372036854775807) (hrl : ∀ r ∈ d.routes, r.length ≤ 9223372036854775807)
    (hx : SpOk x) (ht : Rd w w.heap.size (.slice At x.ts.length ct) (bvals x.ts)) (hri : Rd w w.heap.size (.slice Ar x.ri.length cr) (cvals x.ri)) :
    Calls Try.prog 4 #[drV d vr, spV x (.slice At x.ts.length ct) (.slice Ar x.ri.length cr), .int .u8 (mo : Int), .int .u8 (fa : Int)] w (RetL true w) := by
  obtain ⟨Ad, kd, cd, hvr⟩ : ∃ A k c, vr = .slice A k c := by obtain ⟨vs, ⟨A, c, e, _⟩, _⟩ := hbr; exact ⟨A, _, c, e⟩
  subst hvr
  have HSM : Hid (∀ W, Below w.heap.size w W → Calls Try.prog 10 #[.agg #[.int .u8 (d.form : Int), .int .u8 (d.len : Int), .int .u8 (d.speed : Int), .int .u16 (d.mute : Int), .int .u16 (d.wait : Int), .int .u8 (d.cancel : Int), .int .u8 (d.stay : Int), .int .u8 (d.join : Int), .slice Ad kd cd], .agg #[.int .u8 (x.fr : Int), .int .u8 (x.lo : Int), .slice At x.ts.length ct, .int .u16 (x.ah : Int), .int .u16 (x.he : Int), .int .u16 (x.tk : Int), .int .u16 (x.sp : Int), .slice Ar x.ri.length cr]] W (RetL (smallX d x) W)) := fun W hW => smallX_any W d (.slice Ad kd cd) x At ct Ar cr (hbr.up hW) hl hrl
  have HOF : Hid (smallX d x = true → ∀ W, Below w.heap.size w W → Calls Try.prog 11 #[.agg #[.int .u8 (d.form : Int), .int .u8 (d.len : Int), .int .u8 (d.speed : Int), .int .u16 (d.mute : Int), .int .u16 (d.wait : Int), .int .u8 (d.cancel : Int), .int .u8 (d.stay : Int), .int .u8 (d.join : Int), .slice Ad kd cd], .agg #[.int .u8 (x.fr : Int), .int .u8 (x.lo : Int), .slice At x.ts.length ct, .int .u16 (x.ah : Int), .int .u16 (x.he : Int), .int .u16 (x.tk : Int), .int .u16 (x.sp : Int), .slice Ar x.ri.length cr]] W (RetOf (fullL d) x W)) := fun hs W hW => by
    unfold smallX at hs
    rw [Bool.and_eq_true, Bool.and_eq_true, decide_eq_true_iff, decide_eq_true_iff] at hs
    exact of_any W d (.slice Ad kd cd) x At ct Ar cr hd (hbr.up hW) hs.1 hx ((ht.below hW (Nat.le_refl _)).mono hW.size (fun _ _ => rfl)) (by omega)
  have HLF := Lib.hid (full_f d)
  have HTRA : Hid (Tra (fullL d) (repT (fullL d) x.fr x.lo x.ts) (1 - ((x.fr / 128 : Nat) : Int))) := rep_tra (tame_full d) x.fr x.lo x.ts (full_secs d).1 hx.fr
  have HNUM : Hid ((0 ≤ (x.he : Int) ∧ (x.he : Int) < 65536) ∧ (0 ≤ (x.tk : Int) ∧ (x.tk : Int) < 65536) ∧ (0 ≤ ((x.sp % 10001 : Nat) : Int) ∧ ((x.sp % 10001 : Nat) : Int) ≤ 10000) ∧ (0 ≤ ((repA (fullL d) x.fr x.ah : Nat) : Int) ∧ ((repA (fullL d) x.fr x.ah : Nat) : Int) < 65536)) := by
    have h1 := hx.he; have h2 := hx.tk; have h3 := hx.ah
    have h4 : repA (fullL d) x.fr x.ah ≤ x.ah := Nat.mod_le _ _
    show (_ ∧ _) ∧ (_ ∧ _) ∧ (_ ∧ _) ∧ (_ ∧ _)
    omega
  have HRI := Lib.hid hri
  clear hbr hl hrl hx ht hri hd
  unfold drV spV
  have HB0 := Lib.hid (below2 w (.cells #[.int .u8 (d.form : Int), .int .u8 (d.len : Int), .int .u8 (d.speed : Int), .int .u16 (d.mute : Int), .int .u16 (d.wait : Int), .int .u8 (d.cancel : Int), .int .u8 (d.stay : Int), .int .u8 (d.join : Int), .slice Ad kd cd] 25) (.cells #[.int .u8 (x.fr : Int), .int .u8 (x.lo : Int), .slice At x.ts.length ct, .int .u16 (x.ah : Int), .int .u16 (x.he : Int), .int .u16 (x.tk : Int), .int .u16 (x.sp : Int), .slice Ar x.ri.length cr] 29))
  have HRD := Lib.hid ((Row.new w 25 #[.int .u8 (d.form : Int), .int .u8 (d.len : Int), .int .u8 (d.speed : Int), .int .u16 (d.mute : Int), .int .u16 (d.wait : Int), .int .u8 (d.cancel : Int), .int .u8 (d.stay : Int), .int .u8 (d.join : Int), .slice Ad kd cd]).alloc (.cells #[.int .u8 (x.fr : Int), .int .u8 (x.lo : Int), .slice At x.ts.length ct, .int .u16 (x.ah : Int), .int .u16 (x.he : Int), .int .u16 (x.tk : Int), .int .u16 (x.sp : Int), .slice Ar x.ri.length cr] 29))
  have hr1 := Row.new (w.alloc (.cells #[.int .u8 (d.form : Int), .int .u8 (d.len : Int), .int .u8 (d.speed : Int), .int .u16 (d.mute : Int), .int .u16 (d.wait : Int), .int .u8 (d.cancel : Int), .int .u8 (d.stay : Int), .int .u8 (d.join : Int), .slice Ad kd cd] 25)) 29 #[.int .u8 (x.fr : Int), .int .u8 (x.lo : Int), .slice At x.ts.length ct, .int .u16 (x.ah : Int), .int .u16 (x.he : Int), .int .u16 (x.tk : Int), .int .u16 (x.sp : Int), .slice Ar x.ri.length cr]
  rw [World.size_alloc] at hr1
  have HRX := Lib.hid hr1
  clear hr1
  obtain ⟨tn, htn⟩ : ∃ n, x.ts.length = n := ⟨_, rfl⟩
  rw [htn] at HSM HOF HB0 HRD HRX ⊢
  generalize fullL d = L at *
  obtain ⟨T, hT⟩ : ∃ T, repT L x.fr x.lo x.ts = T := ⟨_, rfl⟩
  have HTT : Hid (repT L x.fr x.lo x.ts = T) := hT
  rw [hT] at HTRA
  clear hT
  obtain ⟨R, hR⟩ : ∃ R, x.ri = R := ⟨_, rfl⟩
  rw [hR] at HSM HOF HB0 HRD HRX HRI ⊢
  cases hs : smallX d x with
  | false =>
    go_enter Try.func4, Try.ntmps4
    go_upto_region 1 with (fail)
    obtain ⟨n0, hn0⟩ : ∃ n, n = w.heap.size := ⟨_, rfl⟩
    obtain ⟨n1, hn1⟩ : ∃ n, n = n0 + 1 := ⟨_, rfl⟩
    have HN : Hid (n0 = w.heap.size) := hn0
    rw [← hn0] at HRD HRX ⊢
    rw [← hn1] at HRX ⊢
    clear hn0 hn1
    generalize (w.alloc (.cells #[.int .u8 (d.form : Int), .int .u8 (d.len : Int), .int .u8 (d.speed : Int), .int .u16 (d.mute : Int), .int .u16 (d.wait : Int), .int .u8 (d.cancel : Int), .int .u8 (d.stay : Int), .int .u8 (d.join : Int), .slice Ad kd cd] 25)).alloc (.cells #[.int .u8 (x.fr : Int), .int .u8 (x.lo : Int), .slice At tn ct, .int .u16 (x.ah : Int), .int .u16 (x.he : Int), .int .u16 (x.tk : Int), .int .u16 (x.sp : Int), .slice Ar R.length cr] 29) = W0 at *
    go_wp2_with fail
    refine (later_any W0).mono ?_; rintro e wA ⟨rfl, hbA⟩
    have HA := Lib.hid (HB0.out.trans (hbA.mono HB0.out.size))
    have HDA := Lib.hid (Below.row hbA HRD.out HRD.out.lt)
    have HXA := Lib.hid (Below.row hbA HRX.out HRX.out.lt)
    clear hbA HB0 HRD HRX
    have f0 := HDA.out.cell 0; have f1 := HDA.out.cell 1; have f2 := HDA.out.cell 2; have f3 := HDA.out.cell 3; have f4 := HDA.out.cell 4; have f5 := HDA.out.cell 5; have f6 := HDA.out.cell 6; have f7 := HDA.out.cell 7; have f8 := HDA.out.cell 8
    simp only [List.getElem?_toArray, List.getElem?_cons_zero, List.getElem?_cons_succ] at f0 f1 f2 f3 f4 f5 f6 f7 f8
    have x0 := HXA.out.cell 0; have x1 := HXA.out.cell 1; have x2 := HXA.out.cell 2; have x3 := HXA.out.cell 3; have x4 := HXA.out.cell 4; have x5 := HXA.out.cell 5; have x6 := HXA.out.cell 6; have x7 := HXA.out.cell 7
    simp only [List.getElem?_toArray, List.getElem?_cons_zero, List.getElem?_cons_succ] at x0 x1 x2 x3 x4 x5 x6 x7
    go_wp2_with fail
    refine (HSM.out wA HA.out).mono ?_; rintro e wB ⟨rfl, hbB⟩
    rw [hs]
    have HB := Lib.hid (HA.out.trans (hbB.mono HA.out.size))
    clear hbB f0 f1 f2 f3 f4 f5 f6 f7 f8 x0 x1 x2 x3 x4 x5 x6 x7 HA HDA HXA
    go_wp2_with fail
    refine (later_any wB).mono ?_; rintro e wZ ⟨rfl, hbZ⟩
    have HZ := Lib.hid (HB.out.trans (hbZ.mono HB.out.size))
    clear hbZ
    go_wp2_with fail
    go_ret
    exact ⟨rfl, HZ.out⟩
  | true =>
    go_enter Try.func4, Try.ntmps4
    go_upto_region 1 with (fail)
    obtain ⟨n0, hn0⟩ : ∃ n, n = w.heap.size := ⟨_, rfl⟩
    obtain ⟨n1, hn1⟩ : ∃ n, n = n0 + 1 := ⟨_, rfl⟩
    have HN : Hid (n0 = w.heap.size) := hn0
    rw [← hn0] at HRD HRX ⊢
    rw [← hn1] at HRX ⊢
    clear hn0 hn1
    generalize (w.alloc (.cells #[.int .u8 (d.form : Int), .int .u8 (d.len : Int), .int .u8 (d.speed : Int), .int .u16 (d.mute : Int), .int .u16 (d.wait : Int), .int .u8 (d.cancel : Int), .int .u8 (d.stay : Int), .int .u8 (d.join : Int), .slice Ad kd cd] 25)).alloc (.cells #[.int .u8 (x.fr : Int), .int .u8 (x.lo : Int), .slice At tn ct, .int .u16 (x.ah : Int), .int .u16 (x.he : Int), .int .u16 (x.tk : Int), .int .u16 (x.sp : Int), .slice Ar R.length cr] 29) = W0 at *
    go_wp2_with fail
    refine (later_any W0).mono ?_; rintro e wA ⟨rfl, hbA⟩
    have HA := Lib.hid (HB0.out.trans (hbA.mono HB0.out.size))
    have HDA := Lib.hid (Below.row hbA HRD.out HRD.out.lt)
    have HXA := Lib.hid (Below.row hbA HRX.out HRX.out.lt)
    clear hbA HB0 HRD HRX
    have f0 := HDA.out.cell 0; have f1 := HDA.out.cell 1; have f2 := HDA.out.cell 2; have f3 := HDA.out.cell 3; have f4 := HDA.out.cell 4; have f5 := HDA.out.cell 5; have f6 := HDA.out.cell 6; have f7 := HDA.out.cell 7; have f8 := HDA.out.cell 8
    simp only [List.getElem?_toArray, List.getElem?_cons_zero, List.getElem?_cons_succ] at f0 f1 f2 f3 f4 f5 f6 f7 f8
    have x0 := HXA.out.cell 0; have x1 := HXA.out.cell 1; have x2 := HXA.out.cell 2; have x3 := HXA.out.cell 3; have x4 := HXA.out.cell 4; have x5 := HXA.out.cell 5; have x6 := HXA.out.cell 6; have x7 := HXA.out.cell 7
    simp only [List.getElem?_toArray, List.getElem?_cons_zero, List.getElem?_cons_succ] at x0 x1 x2 x3 x4 x5 x6 x7
    go_wp2_with fail
    refine (HSM.out wA HA.out).mono ?_; rintro e wB ⟨rfl, hbB⟩
    rw [hs]
    have HB := Lib.hid (HA.out.trans (hbB.mono HA.out.size))
    have HDB := Lib.hid (Below.row hbB HDA.out HDA.out.lt)
    have HXB := Lib.hid (Below.row hbB HXA.out HXA.out.lt)
    clear hbB f0 f1 f2 f3 f4 f5 f6 f7 f8 x0 x1 x2 x3 x4 x5 x6 x7 HA HDA HXA HSM
    have f0 := HDB.out.cell 0; have f1 := HDB.out.cell 1; have f2 := HDB.out.cell 2; have f3 := HDB.out.cell 3; have f4 := HDB.out.cell 4; have f5 := HDB.out.cell 5; have f6 := HDB.out.cell 6; have f7 := HDB.out.cell 7; have f8 := HDB.out.cell 8
    simp only [List.getElem?_toArray, List.getElem?_cons_zero, List.getElem?_cons_succ] at f0 f1 f2 f3 f4 f5 f6 f7 f8
    have x0 := HXB.out.cell 0; have x1 := HXB.out.cell 1; have x2 := HXB.out.cell 2; have x3 := HXB.out.cell 3; have x4 := HXB.out.cell 4; have x5 := HXB.out.cell 5; have x6 := HXB.out.cell 6; have x7 := HXB.out.cell 7
    simp only [List.getElem?_toArray, List.getElem?_cons_zero, List.getElem?_cons_succ] at x0 x1 x2 x3 x4 x5 x6 x7
    go_wp2_with fail
    refine (HOF.out hs wB HB.out).mono ?_; rintro e' wC ⟨vL, A, c, rfl, hvL, hrd, hbC⟩
    clear f0 f1 f2 f3 f4 f5 f6 f7 f8 x0 x1 x2 x3 x4 x5 x6 x7
    obtain ⟨he, hhe⟩ : ∃ z : Int, (x.he : Int) = z := ⟨_, rfl⟩
    obtain ⟨tk, htk⟩ : ∃ z : Int, (x.tk : Int) = z := ⟨_, rfl⟩
    obtain ⟨s8, hs8⟩ : ∃ z : Int, ((x.sp % 10001 : Nat) : Int) = z := ⟨_, rfl⟩
    obtain ⟨e, hee⟩ : ∃ z : Int, ((repA L x.fr x.ah : Nat) : Int) = z := ⟨_, rfl⟩
    obtain ⟨dv, hdv⟩ : ∃ z : Int, 1 - ((x.fr / 128 : Nat) : Int) = z := ⟨_, rfl⟩
    have HT2 : Hid (repT L x.fr x.lo x.ts = T) := HTT.out
    rw [HT2.out] at hrd ⊢
    rw [hhe, htk, hs8, hee] at HNUM
    rw [hdv] at HTRA
    rw [hdv, hhe, htk, hs8, hee]
    obtain ⟨nw, hnw⟩ : ∃ z : Int, he + tk = z := ⟨_, rfl⟩
    rw [hnw]
    obtain ⟨A0, k0, c0, A1, k1, c1, A2, k2, c2, A3, k3, c3, A4, k4, c4, t0, t1, t2, t3, t4, hv, hlens⟩ := hvL.lens
    subst hv
    have HLENS := Lib.hid hlens
    have hba := ((Below.refl wC.heap.size wC).alloc (Nat.le_refl _) (.cells #[.slice A0 k0 c0, .slice A1 k1 c1, .slice A2 k2 c2, .slice A3 k3 c3, .slice A4 k4 c4, .int .i64 t0, .int .i64 t1, .int .i64 t2, .int .i64 t3, .int .i64 t4] 37)).alloc (by simp) (.cells (tcells 4 he (-1) dv e (.slice A T.length c)) 40)
    have hbb := hba.alloc hba.size (.cells (tcells 4 he (-1) dv e (.slice A T.length c)) 41)
    have HB1 := Lib.hid (HB.out.trans ((hbC.trans (hbb.mono hbC.size)).mono HB.out.size))
    have HXL : Hid (n1 < wC.heap.size) := by have h1 := HXB.out.lt; have h2 := hbC.size; show _ < _; omega
    have HX1 := Lib.hid (Below.row (hbC.trans (hbb.mono hbC.size)) HXB.out HXB.out.lt)
    have HV1 := Lib.hid (hvL.up hbb)
    have HT1 := Lib.hid (hrd.up hbb)
    have hy1 := ((Row.new wC 37 #[.slice A0 k0 c0, .slice A1 k1 c1, .slice A2 k2 c2, .slice A3 k3 c3, .slice A4 k4 c4, .int .i64 t0, .int .i64 t1, .int .i64 t2, .int .i64 t3, .int .i64 t4]).alloc (.cells (tcells 4 he (-1) dv e (.slice A T.length c)) 40)).alloc (.cells (tcells 4 he (-1) dv e (.slice A T.length c)) 41)
    have hy2 := (Row.new (wC.alloc (.cells #[.slice A0 k0 c0, .slice A1 k1 c1, .slice A2 k2 c2, .slice A3 k3 c3, .slice A4 k4 c4, .int .i64 t0, .int .i64 t1, .int .i64 t2, .int .i64 t3, .int .i64 t4] 37)) 40 (tcells 4 he (-1) dv e (.slice A T.length c))).alloc (.cells (tcells 4 he (-1) dv e (.slice A T.length c)) 41)
    have hy3 := Row.new ((wC.alloc (.cells #[.slice A0 k0 c0, .slice A1 k1 c1, .slice A2 k2 c2, .slice A3 k3 c3, .slice A4 k4 c4, .int .i64 t0, .int .i64 t1, .int .i64 t2, .int .i64 t3, .int .i64 t4] 37)).alloc (.cells (tcells 4 he (-1) dv e (.slice A T.length c)) 40)) 41 (tcells 4 he (-1) dv e (.slice A T.length c))
    rw [World.size_alloc] at hy2
    rw [World.size_alloc, World.size_alloc] at hy3
    have HL1 := Lib.hid hy1; have HTT1 := Lib.hid hy2; have HRR1 := Lib.hid hy3
    clear hba hbb hbC hvL hrd hy1 hy2 hy3 hlens HB HDB HXB HOF
    go_upto_region 4 with (fail)
    obtain ⟨nL, hnL⟩ : ∃ n, n = wC.heap.size := ⟨_, rfl⟩
    obtain ⟨nT, hnT⟩ : ∃ n, n = nL + 1 := ⟨_, rfl⟩
    obtain ⟨nR, hnR⟩ : ∃ n, n = nT + 1 := ⟨_, rfl⟩
    rw [← hnL] at HL1 HTT1 HRR1 ⊢
    rw [← hnT] at HTT1 HRR1 ⊢
    rw [← hnR] at HRR1 ⊢
    have HNB : Hid (n1 < nL ∧ nT = nL + 1 ∧ nR = nT + 1) := ⟨by have := HXL.out; omega, hnT, hnR⟩
    clear hnL hnT hnR
    generalize ((wC.alloc (.cells #[.slice A0 k0 c0, .slice A1 k1 c1, .slice A2 k2 c2, .slice A3 k3 c3, .slice A4 k4 c4, .int .i64 t0, .int .i64 t1, .int .i64 t2, .int .i64 t3, .int .i64 t4] 37)).alloc (.cells (tcells 4 he (-1) dv e (.slice A T.length c)) 40)).alloc (.cells (tcells 4 he (-1) dv e (.slice A T.length c)) 41) = wD at *
    have p0 := HL1.out.cell 0; have p1 := HL1.out.cell 1; have p2 := HL1.out.cell 2; have p3 := HL1.out.cell 3; have p4 := HL1.out.cell 4; have p5 := HL1.out.cell 5; have p6 := HL1.out.cell 6; have p7 := HL1.out.cell 7; have p8 := HL1.out.cell 8; have p9 := HL1.out.cell 9
    simp only [List.getElem?_toArray, List.getElem?_cons_zero, List.getElem?_cons_succ] at p0 p1 p2 p3 p4 p5 p6 p7 p8 p9
    go_wp2_with fail
    refine (new_any wD _ L HV1.out HLF.out.fits).mono ?_; rintro e' wE ⟨vg, rfl, hg, hbE⟩
    have HST : Hid (CSt w n1 nL nT nR #[.int .u8 (x.fr : Int), .int .u8 (x.lo : Int), .slice At tn ct, .int .u16 (x.ah : Int), .int .u16 (x.he : Int), .int .u16 (x.tk : Int), .int .u16 (x.sp : Int), .slice Ar R.length cr] #[.slice A0 k0 c0, .slice A1 k1 c1, .slice A2 k2 c2, .slice A3 k3 c3, .slice A4 k4 c4, .int .i64 t0, .int .i64 t1, .int .i64 t2, .int .i64 t3, .int .i64 t4] (tcells 4 he (-1) dv e (.slice A T.length c)) vg wE.heap.size L A c T Ar cr R wE) :=
      ⟨HB1.out.trans (hbE.mono HB1.out.size), Below.row hbE HX1.out HX1.out.lt, Below.row hbE HL1.out HL1.out.lt, Below.row hbE HTT1.out HTT1.out.lt, Below.row hbE HRR1.out HRR1.out.lt, HV1.out.up hbE, hg, HT1.out.up hbE, (HRI.out.below (HB1.out.trans (hbE.mono HB1.out.size)) (Nat.le_refl _)).mono (HB1.out.trans (hbE.mono HB1.out.size)).size (fun _ _ => rfl), Nat.le_refl _⟩
    clear hg hbE p0 p1 p2 p3 p4 p5 p6 p7 p8 p9 HB1 HX1 HL1 HTT1 HRR1 HV1 HT1 HRI HTT HT2
    generalize wE.heap.size = DG at *
    clear hhe htk hs8 hee hdv hs hR htn
    have HNW : Hid (he + tk = nw) := hnw
    clear hnw
    obtain ⟨hn1, hn2, hn3, hn4⟩ := HNUM.out
    obtain ⟨sp, hsp⟩ : ∃ q : Int, min s8 9000 = q := ⟨_, rfl⟩
    have HSP : Hid (min s8 9000 = sp ∧ 0 ≤ sp ∧ sp ≤ 9000) := ⟨hsp, by omega, by omega⟩
    go_upto_if 38 with (fail)
    go_cut [13] (fun v wx => v = .int .i64 sp ∧ wx = wE)
    case first =>
      by_cases h : 9000 < s8
      · have hkk : (9000 : Int) = sp := by omega
        go_wp2_with fail
        go_meet
        case rel => exact ⟨by first | rfl | rw [← hkk], rfl⟩
      · have hkk : s8 = sp := by omega
        go_wp2_with fail
        go_meet
        case rel => exact ⟨by first | rfl | rw [hkk], rfl⟩
    case rest =>
    obtain ⟨rfl, hwc⟩ := hcut
    have hwd := hwc.symm
    subst hwd
    clear hwc hsp
    obtain ⟨hs1, hs2⟩ := HSP.out.2
    obtain ⟨la, hla⟩ : ∃ U, spanL L R T dv (sp * (nw - he) - e) = U := ⟨_, rfl⟩
    obtain ⟨lb, hlb⟩ : ∃ U, spanL L R T dv ((sp + (fa : Int)) * (nw + (mo : Int) - he) - e) = U := ⟨_, rfl⟩
    have hdn : 0 ≤ nw - he := by have := HNW.out; omega
    have hle : sp * (nw - he) - e ≤ (sp + (fa : Int)) * (nw + (mo : Int) - he) - e := by
      have h1 : sp * (nw - he) ≤ (sp + (fa : Int)) * (nw - he) := Int.mul_le_mul_of_nonneg_right (by omega) hdn
      have h2 : (sp + (fa : Int)) * (nw - he) ≤ (sp + (fa : Int)) * (nw + (mo : Int) - he) := Int.mul_le_mul_of_nonneg_left (by omega) (by omega)
      omega
    have HGR : Hid (∃ s, lb = s ++ la) := by rw [← hla, ← hlb]; exact span_mono L R T dv hle
    have HTL : Hid (∃ s, la = s ++ T) := ⟨_, hla.symm⟩
    have HND : Hid (lb.Nodup) := by show List.Nodup _; rw [← hlb]; exact span_nodup HLF.out.tame R _ HTRA.out.ok HTRA.out.nd
    have HLB : Hid (lb.length ≤ 105) := by
      show _ ≤ _
      rw [← hlb]; unfold spanL
      have h1 := ahead_len HLF.out.tame R ((sp + (fa : Int)) * (nw + (mo : Int) - he) - e) HTRA.out.ok
      have h2 := HLF.out.fits.s; have h3 := HTRA.out.le
      rw [List.length_append, List.length_reverse]; omega
    have HS1 : Hid (∀ W, CSt w n1 nL nT nR #[.int .u8 (x.fr : Int), .int .u8 (x.lo : Int), .slice At tn ct, .int .u16 (x.ah : Int), .int .u16 (x.he : Int), .int .u16 (x.tk : Int), .int .u16 (x.sp : Int), .slice Ar R.length cr] #[.slice A0 k0 c0, .slice A1 k1 c1, .slice A2 k2 c2, .slice A3 k3 c3, .slice A4 k4 c4, .int .i64 t0, .int .i64 t1, .int .i64 t2, .int .i64 t3, .int .i64 t4] (tcells 4 he (-1) dv e (.slice A T.length c)) vg DG L A c T Ar cr R W → Calls Try.prog 15 #[vg, .agg (tcells 4 he (-1) dv e (.slice A T.length c)), .int .i64 nw, .int .i64 sp, .slice Ar R.length cr] W (RetOwn W.heap.size la W)) := fun W h => by
      have h1 := h.span HLF.out HTRA.out nw sp (by omega) (by have := HNW.out; omega) (by omega)
      rw [hla] at h1; exact h1
    have HS2 : Hid (∀ W, CSt w n1 nL nT nR #[.int .u8 (x.fr : Int), .int .u8 (x.lo : Int), .slice At tn ct, .int .u16 (x.ah : Int), .int .u16 (x.he : Int), .int .u16 (x.tk : Int), .int .u16 (x.sp : Int), .slice Ar R.length cr] #[.slice A0 k0 c0, .slice A1 k1 c1, .slice A2 k2 c2, .slice A3 k3 c3, .slice A4 k4 c4, .int .i64 t0, .int .i64 t1, .int .i64 t2, .int .i64 t3, .int .i64 t4] (tcells 4 he (-1) dv e (.slice A T.length c)) vg DG L A c T Ar cr R W → Calls Try.prog 15 #[vg, .agg (tcells 4 he (-1) dv e (.slice A T.length c)), .int .i64 (nw + (mo : Int)), .int .i64 (sp + (fa : Int)), .slice Ar R.length cr] W (RetOwn W.heap.size lb W)) := fun W h => by
      have h1 := h.span HLF.out HTRA.out (nw + (mo : Int)) (sp + (fa : Int)) (by omega) (by have := HNW.out; omega) (by omega)
      rw [hlb] at h1; exact h1
    have hw1 : IntKind.i64.wrap (mo : Int) = (mo : Int) := IntWalk.i64_in _ (by omega)
    have hw2 : IntKind.i64.wrap (fa : Int) = (fa : Int) := IntWalk.i64_in _ (by omega)
    have hw3 : IntKind.i64.wrap (nw + (mo : Int)) = nw + (mo : Int) := IntWalk.i64_in _ (by have := HNW.out; omega)
    have hw4 : IntKind.i64.wrap (sp + (fa : Int)) = sp + (fa : Int) := IntWalk.i64_in _ (by omega)
    clear hn1 hn2 hn3 hn4 hla hlb hdn hle hs1 hs2
    have q0 := HST.out.rt.cell 0; have q1 := HST.out.rt.cell 1; have q2 := HST.out.rt.cell 2; have q3 := HST.out.rt.cell 3; have q4 := HST.out.rt.cell 4; have q5 := HST.out.rt.cell 5
    simp only [List.getElem?_toArray, List.getElem?_cons_zero, List.getElem?_cons_succ] at q0 q1 q2 q3 q4 q5
    have s7 := HST.out.rs.cell 7
    simp only [List.getElem?_toArray, List.getElem?_cons_zero, List.getElem?_cons_succ] at s7
    go_wp2_with fail
    refine (HS1.out wE HST.out).mono ?_; rintro y v1 ⟨va, rfl, ho1, hb1⟩
    have HC1 := Lib.hid (HST.out.call hb1)
    have HA1 := Lib.hid ho1
    have HS1L : Hid (wE.heap.size ≤ v1.heap.size) := hb1.size
    clear q0 q1 q2 q3 q4 q5 s7 hb1 ho1 HST HS1
    obtain ⟨Aa, ca, hva⟩ := own_slice HA1.out
    subst hva
    have q0 := HC1.out.rt.cell 0; have q1 := HC1.out.rt.cell 1; have q2 := HC1.out.rt.cell 2; have q3 := HC1.out.rt.cell 3; have q4 := HC1.out.rt.cell 4; have q5 := HC1.out.rt.cell 5
    simp only [List.getElem?_toArray, List.getElem?_cons_zero, List.getElem?_cons_succ] at q0 q1 q2 q3 q4 q5
    have s7 := HC1.out.rs.cell 7
    simp only [List.getElem?_toArray, List.getElem?_cons_zero, List.getElem?_cons_succ] at s7
    go_wp2_with fail
    refine (HS2.out v1 HC1.out).mono ?_; rintro y v2 ⟨vb, rfl, ho2, hb2⟩
    have HC2 := Lib.hid (HC1.out.call hb2)
    have HA2 := Lib.hid (own_below HA1.out hb2)
    have HB2 := Lib.hid ho2
    clear q0 q1 q2 q3 q4 q5 s7 hb2 ho2 HC1 HA1 HS2
    obtain ⟨Ab, cb, hvb⟩ := own_slice HB2.out
    subst hvb
    obtain ⟨s, hsl⟩ := HGR.out
    obtain ⟨f, hfl⟩ := HTL.out
    obtain ⟨na, hna⟩ : ∃ n, la.length = n := ⟨_, rfl⟩
    obtain ⟨nb, hnb⟩ : ∃ n, lb.length = n := ⟨_, rfl⟩
    obtain ⟨p, hp⟩ : ∃ n, s.length = n := ⟨_, rfl⟩
    obtain ⟨q, hq⟩ : ∃ n, f.length = n := ⟨_, rfl⟩
    obtain ⟨tl, htl⟩ : ∃ n, T.length = n := ⟨_, rfl⟩
    have hnb2 : nb = p + na := by rw [← hnb, hsl, List.length_append, hp, hna]
    have hna2 : na = q + tl := by rw [← hna, hfl, List.length_append, hq, htl]
    have htl0 : 0 < tl := by rw [← htl]; exact HTRA.out.pos
    have HLEN : Hid (la.length = na ∧ lb.length = nb ∧ s.length = p ∧ f.length = q ∧ T.length = tl ∧ lb = s ++ la ∧ la = f ++ T ∧ nb = p + na ∧ na = q + tl ∧ 0 < tl) := ⟨hna, hnb, hp, hq, htl, hsl, hfl, hnb2, hna2, htl0⟩
    have hnb3 : nb ≤ 105 := by rw [← hnb]; exact HLB.out
    obtain ⟨ga, hAa, HRA⟩ : ∃ g, Aa = some ⟨g, 0, none⟩ ∧ Hid (na ≤ ca ∧ ∀ i (hi : i < la.length), v2.cell? ⟨g, i, none⟩ = some (.int .i64 la[i])) := by
      have hr := Rd.of_own HA2.out
      obtain ⟨A', c', hv', ⟨-, hc'⟩, hx⟩ := hr
      injection hv' with h1 h2 h3
      subst h1 h3
      obtain ⟨b, o, hA', -, hc⟩ := hx (by rw [ivals_length]; omega)
      have h0 := own_zero (by rw [hA'] at HA2; exact HA2.out)
      subst h0
      exact ⟨b, hA', by rw [ivals_length] at hc'; omega, fun i hi => by have := hc i _ (ivals_get la i hi); rwa [Nat.zero_add] at this⟩
    obtain ⟨gb, hAb, HRB⟩ : ∃ g, Ab = some ⟨g, 0, none⟩ ∧ Hid (nb ≤ cb ∧ ∀ i (hi : i < lb.length), v2.cell? ⟨g, i, none⟩ = some (.int .i64 lb[i])) := by
      have hr := Rd.of_own HB2.out
      obtain ⟨A', c', hv', ⟨-, hc'⟩, hx⟩ := hr
      injection hv' with h1 h2 h3
      subst h1 h3
      obtain ⟨b, o, hA', -, hc⟩ := hx (by rw [ivals_length]; omega)
      have h0 := own_zero (by rw [hA'] at HB2; exact HB2.out)
      subst h0
      exact ⟨b, hA', by rw [ivals_length] at hc'; omega, fun i hi => by have := hc i _ (ivals_get lb i hi); rwa [Nat.zero_add] at this⟩
    subst hAa hAb
    rw [hna, hnb]
    have hc1 : ¬ (nb : Int) < (na : Int) := by omega
    have hc2 : ¬ (na : Int) < (T.length : Int) := by omega
    have hTl : T.length ≤ 5 := HTRA.out.le
    have HSL : Hid (la.length = na ∧ lb.length = nb) := ⟨hna, hnb⟩
    clear hnb2 hna2 htl0 hsl hfl hp hq htl hna hnb hw1 hw2 hw3 hw4
    have q5 := HC2.out.rt.cell 5
    simp only [List.getElem?_toArray, List.getElem?_cons_zero, List.getElem?_cons_succ] at q5
    go_upto_region 11 with (fail)
    clear q5
    have hcb := HRB.out.1; have hca := HRA.out.1
    obtain ⟨-, -, -, -, htl, -, -, hnb2, hna2, htl0⟩ := HLEN.out
    have g1 : IntKind.i64.wrap ((nb : Int) - (na : Int)) = (p : Int) := by rw [show (nb : Int) - (na : Int) = (p : Int) by omega]; exact IntWalk.i64_in _ (by omega)
    have g2 : IntKind.i64.wrap ((na : Int) - (T.length : Int)) = (q : Int) := by rw [show (na : Int) - (T.length : Int) = (q : Int) by omega]; exact IntWalk.i64_in _ (by omega)
    have g3 : p ≤ nb := by omega
    have g4 : q ≤ na := by omega
    have g5 : ¬ cb = p := by omega
    have g6 : ¬ ca = q := by omega
    have g7 : p ≤ cb := by omega
    have g8 : q ≤ ca := by omega
    clear hnb2 hna2 htl htl0
    have hbd := (Below.refl v2.heap.size v2).drew
    have HC0 := Lib.hid (HC2.out.call hbd)
    have s0 : v2.drew.cell? ⟨nT, 5, none⟩ = some (.slice A T.length c) := HC0.out.rt.cell 5
    have s1 : v2.cell? ⟨nT, 5, none⟩ = some (.slice A T.length c) := HC2.out.rt.cell 5
    have HRb : Hid (∀ V, Below v2.heap.size v2 V → Rd V V.heap.size (.slice (some ⟨gb, p, none⟩) (nb - p) (cb - p)) (ivals la)) := fun V hV => by
      obtain ⟨e1, e2, e3, e4, e5, e6, e7, e8, e9, e10⟩ := HLEN.out
      exact rd_tail e6 e3 e2 HRB.out.1 (fun i hi => (hV.cell (p := ⟨gb, i, none⟩) (cell_lt (HRB.out.2 i hi))).trans (HRB.out.2 i hi)) (by omega)
    have HRf : Hid (∀ V, Below v2.heap.size v2 V → Rd V V.heap.size (.slice (some ⟨ga, q, none⟩) (na - q) (ca - q)) (ivals T)) := fun V hV => by
      obtain ⟨e1, e2, e3, e4, e5, e6, e7, e8, e9, e10⟩ := HLEN.out
      exact rd_tail e7 e4 e1 HRA.out.1 (fun i hi => (hV.cell (p := ⟨ga, i, none⟩) (cell_lt (HRA.out.2 i hi))).trans (HRA.out.2 i hi)) (by omega)
    have HRa : Hid (∀ V, Below v2.heap.size v2 V → Rd V V.heap.size (.slice (some ⟨ga, 0, none⟩) na ca) (ivals la)) := fun V hV => by
      have h := (Rd.of_own HA2.out).up hV
      rw [HSL.out.1] at h; exact h
    have HRl : Hid (∀ V, Below v2.heap.size v2 V → Rd V V.heap.size (.slice (some ⟨gb, 0, none⟩) nb cb) (ivals lb)) := fun V hV => by
      have h := (Rd.of_own HB2.out).up hV
      rw [HSL.out.2] at h; exact h
    have HI : Hid (∀ (V : World) (v v' : Value) (U : List Int), Rd V V.heap.size v (ivals U) → Rd V V.heap.size v' (ivals U) → U.length ≤ 1000 → Calls Try.prog 14 #[v, v'] V (RetB true V)) := fun V v v' U h1 h2 h3 => ints_lit V v v' U h1 h2 h3
    have HLA : Hid (la.length ≤ 1000 ∧ T.length ≤ 1000) := by obtain ⟨e1, e2, e3, e4, e5, e6, e7, e8, e9, e10⟩ := HLEN.out; exact ⟨by omega, by omega⟩
    have HRI : Hid (∀ V, Below v2.heap.size v2 V → Calls Try.prog 17 #[.slice (some ⟨gb, 0, none⟩) nb cb] V (fun y w' => ∃ A c, y = .returned (.slice A nb c) ∧ Below V.heap.size V w')) := fun V hV => by
      refine (refRise_any V _ lb (HRl.out V hV) (by have := HLB.out; omega)).mono ?_
      rintro y w' ⟨v, rfl, ho, hb⟩
      obtain ⟨A, c, rfl⟩ := own_slice ho
      rw [(riseL_len lb).2 HND.out, HSL.out.2]
      exact ⟨A, c, rfl, hb⟩
    have HBD : Hid (Below v2.heap.size v2 v2.drew) := hbd
    have hnn : ((nb : Int) == (nb : Int)) = true := by simp
    clear hbd
    go_region_held3 (fun w' => w'.cell? ⟨nT, 5, none⟩ = some (.slice A T.length c)) (first | (with_reducible assumption) | (with_reducible exact s0) | go_keep) (first | (go_at_call 14; (with_reducible refine (HI.out v2.drew _ _ la (HRb.out _ HBD.out) (HRa.out _ HBD.out) HLA.out.1).mono ?_); rintro y v3 ⟨rfl, k3, rfl⟩; have HB3 : Hid (Below v2.heap.size v2 (v2.drewN (1 + k3))) := Below.drewN (Below.refl _ _) _; have HC3 := Lib.hid (HC2.out.call HB3.out); have d3 : (v2.drewN (1 + k3)).cell? ⟨nT, 5, none⟩ = some (.slice A T.length c) := HC3.out.rt.cell 5) | (go_at_call 14; (with_reducible refine (HI.out (v2.drewN (1 + k3)) _ _ T (HRf.out _ HB3.out) HC3.out.tr HLA.out.2).mono ?_); rintro y v4 ⟨rfl, k4, rfl⟩; have HB4 : Hid (Below v2.heap.size v2 (v2.drewN (1 + k3 + k4))) := Below.drewN (Below.refl _ _) _; have HC4 := Lib.hid (HC2.out.call HB4.out); have d4 : (v2.drewN (1 + k3 + k4)).cell? ⟨nT, 5, none⟩ = some (.slice A T.length c) := HC4.out.rt.cell 5) | (go_at_call 17; (with_reducible refine (HRI.out (v2.drewN (1 + k3 + k4)) HB4.out).mono ?_); rintro y v5 ⟨A5, c5, rfl, hb5⟩; have HC5 := Lib.hid (HC4.out.call hb5); have d5 : v5.cell? ⟨nT, 5, none⟩ = some (.slice A T.length c) := HC5.out.rt.cell 5; clear hb5))
    clear s0 s1 d3 d4 d5
    go_wp2_with fail
    go_ret
    exact ⟨rfl, HC5.out.bel⟩

end Go.Proofs.Ytbomkifnhkmkoaa
