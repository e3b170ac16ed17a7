/- The law StateViews. -/
import Derived.Test.YtblbbdkpebacbaaDoorSe
import Derived.Test.YtblbbdkpebacbaaDoorPt
import Derived.Test.YtblbbdkpebacbaaDoorP3
namespace Go.Proofs.YtblbbdkpebacbaaDoor
open Go.RowKit Fl
set_option maxRecDepth 100000

set_option maxHeartbeats 16000000 in
theorem lawViews (w : World) (d : Dr) (vr : Value) (f : Fd) (Ao Ac Av : Option Addr) (co cc cv : Nat) (N : Nat) (hd : DrOk d) (hbr : BRows w w.heap.size vr d.routes) (hl : d.routes.length ≤ 9223372036854775807) (hrl : ∀ r ∈ d.routes, r.length ≤ 9223372036854775807)
    (hfv : FdV w w.heap.size Ao Ac Av co cc cv f) (hfo : FdOk f) (hfl : FdLen f) (hkd : KD w) (hN : N < 256) :
    Calls Tryd.prog 8 #[drV d vr, .agg (fcells Ao Ac Av f.own.length f.clr.length f.vws.length co cc cv), .int .u8 (N : Int)] w (RetL true w) := by
  obtain ⟨Ad, kd, cd, hvr⟩ : ∃ A k c, vr = .slice A k c := by obtain ⟨vs, ⟨A, c, e, _⟩, _⟩ := hbr; exact ⟨A, _, c, e⟩
  subst hvr
  have HSM : Hid (∀ W, Below w.heap.size w W → Calls Tryd.prog 11 #[.agg #[.int .u8 (d.form : Int), .int .u8 (d.len : Int), .int .u8 (d.speed : Int), .int .u16 (d.mute : Int), .int .u16 (d.wait : Int), .int .u8 (d.cancel : Int), .int .u8 (d.stay : Int), .int .u8 (d.join : Int), .slice Ad kd cd]] W (RetL (small d) W)) := fun W hW => small_any W d (.slice Ad kd cd) (hbr.up hW) hl hrl
  have HFW : Hid (∀ W, Below w.heap.size w W → Calls Tryd.prog 12 #[.agg (fcells Ao Ac Av f.own.length f.clr.length f.vws.length co cc cv)] W (RetL (fewB f) W)) := fun W hW => few_any W Ao Ac Av co cc cv f (hfv.up hW) hfl.vws hfl.span
  have HFU : Hid (small d = true → ∀ W, Below w.heap.size w W → Calls Tryd.prog 13 #[.agg #[.int .u8 (d.form : Int), .int .u8 (d.len : Int), .int .u8 (d.speed : Int), .int .u16 (d.mute : Int), .int .u16 (d.wait : Int), .int .u8 (d.cancel : Int), .int .u8 (d.stay : Int), .int .u8 (d.join : Int), .slice Ad kd cd]] W (RetLay (fullL d) W)) := fun hs W hW => full_any W d (.slice Ad kd cd) hd (hbr.up hW) hs
  have HLG := Lib.hid (full_g d)
  have HFV := Lib.hid hfv
  have HOK := Lib.hid hfo
  have HFL := Lib.hid hfl
  have HKD := Lib.hid hkd
  clear hbr hl hrl hd hfv hfo hfl hkd
  unfold drV
  obtain ⟨no, hno⟩ : ∃ n, f.own.length = n := ⟨_, rfl⟩
  obtain ⟨nc, hnc⟩ : ∃ n, f.clr.length = n := ⟨_, rfl⟩
  obtain ⟨nv, hnv⟩ : ∃ n, f.vws.length = n := ⟨_, rfl⟩
  have HNO := Lib.hid hno; have HNC := Lib.hid hnc; have HNV := Lib.hid hnv
  rw [hno, hnc, hnv] at HFW ⊢
  clear hno hnc hnv
  have HB0 := Lib.hid (below2 w (.cells #[.int .u8 (d.form : Int), .int .u8 (d.len : Int), .int .u8 (d.speed : Int), .int .u16 (d.mute : Int), .int .u16 (d.wait : Int), .int .u8 (d.cancel : Int), .int .u8 (d.stay : Int), .int .u8 (d.join : Int), .slice Ad kd cd] 25) (.cells (fcells Ao Ac Av no nc nv co cc cv) 30))
  have HRD := Lib.hid ((Row.new w 25 #[.int .u8 (d.form : Int), .int .u8 (d.len : Int), .int .u8 (d.speed : Int), .int .u16 (d.mute : Int), .int .u16 (d.wait : Int), .int .u8 (d.cancel : Int), .int .u8 (d.stay : Int), .int .u8 (d.join : Int), .slice Ad kd cd]).alloc (.cells (fcells Ao Ac Av no nc nv co cc cv) 30))
  have hr1 := Row.new (w.alloc (.cells #[.int .u8 (d.form : Int), .int .u8 (d.len : Int), .int .u8 (d.speed : Int), .int .u16 (d.mute : Int), .int .u16 (d.wait : Int), .int .u8 (d.cancel : Int), .int .u8 (d.stay : Int), .int .u8 (d.join : Int), .slice Ad kd cd] 25)) 30 (fcells Ao Ac Av no nc nv co cc cv)
  rw [World.size_alloc] at hr1
  have HRX := Lib.hid hr1
  clear hr1
  have HPT := Lib.hid (full_part d)
  generalize fullL d = L at *
  go_enter Tryd.func8, Tryd.ntmps8
  go_upto_region 1 with (fail)
  obtain ⟨n0, hn0⟩ : ∃ n, n = w.heap.size := ⟨_, rfl⟩
  obtain ⟨n1, hn1⟩ : ∃ n, n = n0 + 1 := ⟨_, rfl⟩
  rw [← hn0] at HRD HRX ⊢
  rw [← hn1] at HRX ⊢
  clear hn0 hn1
  generalize (w.alloc (.cells #[.int .u8 (d.form : Int), .int .u8 (d.len : Int), .int .u8 (d.speed : Int), .int .u16 (d.mute : Int), .int .u16 (d.wait : Int), .int .u8 (d.cancel : Int), .int .u8 (d.stay : Int), .int .u8 (d.join : Int), .slice Ad kd cd] 25)).alloc (.cells (fcells Ao Ac Av no nc nv co cc cv) 30) = W0 at *
  go_wp2_with fail
  refine (second_any W0 (HKD.out.up HB0.out)).mono ?_; rintro e wA ⟨rfl, hbA⟩
  have HA := Lib.hid (HB0.out.trans (hbA.mono HB0.out.size))
  have HDA := Lib.hid (Below.row hbA HRD.out HRD.out.lt)
  have HXA := Lib.hid (Below.row hbA HRX.out HRX.out.lt)
  clear hbA HB0 HRD HRX
  have f0 := HDA.out.cell 0; have f1 := HDA.out.cell 1; have f2 := HDA.out.cell 2; have f3 := HDA.out.cell 3; have f4 := HDA.out.cell 4; have f5 := HDA.out.cell 5; have f6 := HDA.out.cell 6; have f7 := HDA.out.cell 7; have f8 := HDA.out.cell 8
  simp only [List.getElem?_toArray, List.getElem?_cons_zero, List.getElem?_cons_succ] at f0 f1 f2 f3 f4 f5 f6 f7 f8
  go_wp2_with fail
  refine (HSM.out wA HA.out).mono ?_; rintro e wB ⟨rfl, hbB⟩
  have HB := Lib.hid (HA.out.trans (hbB.mono HA.out.size))
  have HDB := Lib.hid (Below.row hbB HDA.out HDA.out.lt)
  have HXB := Lib.hid (Below.row hbB HXA.out HXA.out.lt)
  clear hbB f0 f1 f2 f3 f4 f5 f6 f7 f8 HA HDA HXA
  cases hs : small d with
  | false =>
    clear HDB HXB
    go_wp2_with fail
    refine (second_any wB (HKD.out.up HB.out)).mono ?_; rintro e wZ ⟨rfl, hbZ⟩
    have HZ := Lib.hid (HB.out.trans (hbZ.mono HB.out.size))
    clear hbZ
    go_wp2_with fail
    go_ret
    exact ⟨rfl, HZ.out⟩
  | true =>
    have g0 := HXB.out.cell 0; have g1 := HXB.out.cell 1; have g2 := HXB.out.cell 2
    simp only [List.getElem?_toArray, List.getElem?_cons_zero, List.getElem?_cons_succ] at g0 g1 g2
    go_wp2_with fail
    refine (HFW.out wB HB.out).mono ?_; rintro e wC ⟨rfl, hbC⟩
    have HC := Lib.hid (HB.out.trans (hbC.mono HB.out.size))
    have HDC := Lib.hid (Below.row hbC HDB.out HDB.out.lt)
    have HXC := Lib.hid (Below.row hbC HXB.out HXB.out.lt)
    clear hbC g0 g1 g2 HB HDB HXB
    cases hfw : fewB f with
    | false =>
      clear HDC HXC
      go_wp2_with fail
      refine (second_any wC (HKD.out.up HC.out)).mono ?_; rintro e wZ ⟨rfl, hbZ⟩
      have HZ := Lib.hid (HC.out.trans (hbZ.mono HC.out.size))
      clear hbZ
      go_wp2_with fail
      go_ret
      exact ⟨rfl, HZ.out⟩
    | true =>

      have HFE := Lib.hid (few_ok hfw)
      have HXS := Lib.hid (views_ok HLG.out hfw)
      clear hfw
      have f0 := HDC.out.cell 0; have f1 := HDC.out.cell 1; have f2 := HDC.out.cell 2; have f3 := HDC.out.cell 3; have f4 := HDC.out.cell 4; have f5 := HDC.out.cell 5; have f6 := HDC.out.cell 6; have f7 := HDC.out.cell 7; have f8 := HDC.out.cell 8
      simp only [List.getElem?_toArray, List.getElem?_cons_zero, List.getElem?_cons_succ] at f0 f1 f2 f3 f4 f5 f6 f7 f8
      go_wp2_with fail
      refine (HFU.out hs wC HC.out).mono ?_; rintro e wD ⟨vL, rfl, hvL, hbD⟩
      obtain ⟨A0, k0, c0, A1, k1, c1, A2, k2, c2, A3, k3, c3, A4, k4, c4, t0, t1, t2, t3, t4, hv, -, hk1, hk2, -⟩ := hvL.lens
      subst hv
      have hba := (Below.refl wD.heap.size wD).alloc (Nat.le_refl _) (.cells #[.slice A0 k0 c0, .slice A1 k1 c1, .slice A2 k2 c2, .slice A3 k3 c3, .slice A4 k4 c4, .int .i64 t0, .int .i64 t1, .int .i64 t2, .int .i64 t3, .int .i64 t4] 39)
      have hbb := hbD.trans (hba.mono hbD.size)
      have HD := Lib.hid (HC.out.trans (hbb.mono HC.out.size))
      have HXD := Lib.hid (Below.row hbb HXC.out HXC.out.lt)
      have HLD := Lib.hid (Row.new wD 39 #[.slice A0 k0 c0, .slice A1 k1 c1, .slice A2 k2 c2, .slice A3 k3 c3, .slice A4 k4 c4, .int .i64 t0, .int .i64 t1, .int .i64 t2, .int .i64 t3, .int .i64 t4])
      have HVD := Lib.hid (hvL.up hba)
      have HK2 : Hid (L.parts.length = k2 ∧ k2 ≤ 100) := ⟨hk2, by rw [← hk2]; exact HLG.out.fits.p⟩
      have HK1 : Hid (L.secs.length = k1 ∧ k1 ≤ 100) := ⟨hk1, by rw [← hk1]; exact HLG.out.fits.s⟩
      have HFD := Lib.hid (HFV.out.up HD.out)
      clear hba hbb hbD hvL hk1 hk2 HC HDC HXC HSM HFW HFU f0 f1 f2 f3 f4 f5 f6 f7 f8 hs HFV
      go_upto_region 4 with (fail)
      obtain ⟨nL, hnL⟩ : ∃ n, n = wD.heap.size := ⟨_, rfl⟩
      rw [← hnL] at HLD ⊢
      clear hnL
      generalize wD.alloc (.cells #[.slice A0 k0 c0, .slice A1 k1 c1, .slice A2 k2 c2, .slice A3 k3 c3, .slice A4 k4 c4, .int .i64 t0, .int .i64 t1, .int .i64 t2, .int .i64 t3, .int .i64 t4] 39) = wD at *
      have p0 := HLD.out.cell 0; have p1 := HLD.out.cell 1; have p2 := HLD.out.cell 2; have p3 := HLD.out.cell 3; have p4 := HLD.out.cell 4; have p5 := HLD.out.cell 5; have p6 := HLD.out.cell 6; have p7 := HLD.out.cell 7; have p8 := HLD.out.cell 8; have p9 := HLD.out.cell 9
      simp only [List.getElem?_toArray, List.getElem?_cons_zero, List.getElem?_cons_succ] at p0 p1 p2 p3 p4 p5 p6 p7 p8 p9
      have g0 := HXD.out.cell 0; have g1 := HXD.out.cell 1; have g2 := HXD.out.cell 2
      simp only [List.getElem?_toArray, List.getElem?_cons_zero, List.getElem?_cons_succ] at g0 g1 g2
      go_wp2_with fail
      refine (views3_any wD _ L Ao Ac Av no nc nv co cc cv f HVD.out HLG.out.fits HLG.out.secs.1 (by have := HFD.out.vws; rw [HNV.out] at this; exact this) HNV.out HOK.out HFE.out).mono ?_; rintro e wE ⟨Aa, ca, Ab, cb, rfl, hva, hvb, hca, hbE⟩
      obtain ⟨xs, hxs⟩ : ∃ xs, viewsO L.secs.length f.vws = xs := ⟨_, rfl⟩
      rw [hxs] at hva hvb HXS
      obtain ⟨nx, hnx⟩ : ∃ n, xs.length = n := ⟨_, rfl⟩
      have HNXL := Lib.hid hnx
      rw [hnx] at hva hvb
      rw [hxs, hnx] at hca
      have HCA : Hid (nx ≤ ca) := hca
      clear hca
      have HST : Hid (LSt w n1 nL (fcells Ao Ac Av no nc nv co cc cv) #[.slice A0 k0 c0, .slice A1 k1 c1, .slice A2 k2 c2, .slice A3 k3 c3, .slice A4 k4 c4, .int .i64 t0, .int .i64 t1, .int .i64 t2, .int .i64 t3, .int .i64 t4] (.slice Aa nx ca) (.slice Ab nx cb) Ao Ac Av co cc cv f L xs wE) := ⟨HD.out.trans (hbE.mono HD.out.size), Below.row hbE HXD.out HXD.out.lt, Below.row hbE HLD.out HLD.out.lt, HVD.out.up hbE, HFD.out.up hbE, hva, hvb⟩
      rw [hxs, hnx]
      clear hbE p0 p1 p2 p3 p4 p5 p6 p7 p8 p9 g0 g1 g2 hva hvb hxs hnx HD HXD HLD HVD HFD HFE
      have p0 := HST.out.rl.cell 0; have p1 := HST.out.rl.cell 1; have p2 := HST.out.rl.cell 2; have p3 := HST.out.rl.cell 3; have p4 := HST.out.rl.cell 4; have p5 := HST.out.rl.cell 5; have p6 := HST.out.rl.cell 6; have p7 := HST.out.rl.cell 7; have p8 := HST.out.rl.cell 8; have p9 := HST.out.rl.cell 9
      simp only [List.getElem?_toArray, List.getElem?_cons_zero, List.getElem?_cons_succ] at p0 p1 p2 p3 p4 p5 p6 p7 p8 p9
      have g0 := HST.out.rf.cell 0; have g1 := HST.out.rf.cell 1; have g2 := HST.out.rf.cell 2
      simp only [List.getElem?_toArray, List.getElem?_cons_zero, List.getElem?_cons_succ] at g0 g1 g2
      go_wp2_with fail
      refine (HST.out.owners HLG.out HNO.out HOK.out).mono ?_; rintro e wF ⟨Aw, cw, rfl, hws, hbF⟩
      have hwl : (ivals (ownersL f L.parts.length)).length = k2 := by rw [HK2.out.1]; simp [ivals, ownersL_len]
      rw [hwl] at hws ⊢
      have HSF := Lib.hid (HST.out.call hbF)
      have HWS := Lib.hid hws
      have HWK : Hid ((ownersL f L.parts.length).length = L.parts.length ∧ OkO (ownersL f L.parts.length)) := ⟨ownersL_len _ _, ownersL_ok _ _⟩
      clear hbF hws hwl HST p0 p1 p2 p3 p4 p5 p6 p7 p8 p9 g0 g1 g2
      generalize ownersL f L.parts.length = own at *
      have hn100 : nx ≤ 100 := by have := HXS.out.len; have := HNXL.out; omega
      obtain ⟨K, hK9⟩ : ∃ K, N % (nx + 1) = K := ⟨_, rfl⟩
      have hKn : K ≤ nx := by have := Nat.mod_lt N (show 0 < nx + 1 by omega); omega
      have htm : (N : Int).tmod ((nx : Int) + 1) = (K : Int) := by rw [Int.tmod_eq_emod_of_nonneg (by omega), ← hK9]; simp
      have hne : ((nx : Int) + 1 == 0) = false := by simp; omega
      have hne2 : ¬ (nx : Int) + 1 = 0 := by omega
      have hKc : K ≤ ca := by have := HCA.out; omega
      have hKx : K ≤ xs.length := by have := HNXL.out; omega
      have HKX := Lib.hid hKx
      obtain ⟨q1, e1⟩ : ∃ q, ofO L own (xs.take K) = q := ⟨_, rfl⟩
      obtain ⟨q2, e2⟩ : ∃ q, ofO L own xs = q := ⟨_, rfl⟩
      have HQ1 : Hid (q1.length = k1 ∧ ∀ i (h : i < q1.length), q1[i] = stO L own (xs.take K) (i : Int)) := by
        subst e1
        exact ⟨by rw [ofO_len, HK1.out.1], fun i h => ofO_get h⟩
      have HQ2 : Hid (q2.length = k1 ∧ ∀ i (h : i < q2.length), q2[i] = stO L own xs (i : Int)) := by
        subst e2
        exact ⟨by rw [ofO_len, HK1.out.1], fun i h => ofO_get h⟩
      have HXT : Hid (OkV (xs.take K)) := ⟨by have := HXS.out.len; simp; omega, fun v hv => HXS.out.span v (List.mem_of_mem_take hv)⟩
      have HOF1 : Hid (∀ W, LSt w n1 nL (fcells Ao Ac Av no nc nv co cc cv) #[.slice A0 k0 c0, .slice A1 k1 c1, .slice A2 k2 c2, .slice A3 k3 c3, .slice A4 k4 c4, .int .i64 t0, .int .i64 t1, .int .i64 t2, .int .i64 t3, .int .i64 t4] (.slice Aa nx ca) (.slice Ab nx cb) Ao Ac Av co cc cv f L xs W → Rd W W.heap.size (.slice Aw k2 cw) (ivals own) → Calls Tryd.prog 16 #[.agg #[.slice A0 k0 c0, .slice A1 k1 c1, .slice A2 k2 c2, .slice A3 k3 c3, .slice A4 k4 c4, .int .i64 t0, .int .i64 t1, .int .i64 t2, .int .i64 t3, .int .i64 t4], .slice Aw k2 cw, .slice Aa K ca] W fun e w' => ∃ A c, e = .returned (.slice A k1 c) ∧ Rd w' w'.heap.size (.slice A k1 c) (bvals q1) ∧ Below W.heap.size W w') := fun W h hr => by
        refine (of_any W _ _ _ L own (xs.take K) h.lay HLG.out.fits hr HWK.out.1 HWK.out.2 (h.va.take K HKX.out) HXT.out).mono ?_
        rintro e w' ⟨v9, rfl, ho, hb⟩
        rw [e1] at ho
        obtain ⟨A9, c9, rfl⟩ := own_slice ho
        have hr := Rd.of_own ho
        rw [HQ1.out.1] at hr ⊢
        exact ⟨A9, c9, rfl, hr, hb⟩
      have HOF2 : Hid (∀ W, LSt w n1 nL (fcells Ao Ac Av no nc nv co cc cv) #[.slice A0 k0 c0, .slice A1 k1 c1, .slice A2 k2 c2, .slice A3 k3 c3, .slice A4 k4 c4, .int .i64 t0, .int .i64 t1, .int .i64 t2, .int .i64 t3, .int .i64 t4] (.slice Aa nx ca) (.slice Ab nx cb) Ao Ac Av co cc cv f L xs W → Rd W W.heap.size (.slice Aw k2 cw) (ivals own) → Calls Tryd.prog 16 #[.agg #[.slice A0 k0 c0, .slice A1 k1 c1, .slice A2 k2 c2, .slice A3 k3 c3, .slice A4 k4 c4, .int .i64 t0, .int .i64 t1, .int .i64 t2, .int .i64 t3, .int .i64 t4], .slice Aw k2 cw, .slice Aa nx ca] W fun e w' => ∃ A c, e = .returned (.slice A k1 c) ∧ Rd w' w'.heap.size (.slice A k1 c) (bvals q2) ∧ Below W.heap.size W w') := fun W h hr => by
        refine (of_any W _ _ _ L own xs h.lay HLG.out.fits hr HWK.out.1 HWK.out.2 h.va HXS.out).mono ?_
        rintro e w' ⟨v9, rfl, ho, hb⟩
        rw [e2] at ho
        obtain ⟨A9, c9, rfl⟩ := own_slice ho
        have hr := Rd.of_own ho
        rw [HQ2.out.1] at hr ⊢
        exact ⟨A9, c9, rfl, hr, hb⟩
      clear e1 e2 hK9 hKx
      have HSS : Hid (∀ W, LSt w n1 nL (fcells Ao Ac Av no nc nv co cc cv) #[.slice A0 k0 c0, .slice A1 k1 c1, .slice A2 k2 c2, .slice A3 k3 c3, .slice A4 k4 c4, .int .i64 t0, .int .i64 t1, .int .i64 t2, .int .i64 t3, .int .i64 t4] (.slice Aa nx ca) (.slice Ab nx cb) Ao Ac Av co cc cv f L xs W → (W.cell? ⟨nL, 0, none⟩ = some (.slice A0 k0 c0) ∧ W.cell? ⟨nL, 1, none⟩ = some (.slice A1 k1 c1) ∧ W.cell? ⟨nL, 2, none⟩ = some (.slice A2 k2 c2) ∧ W.cell? ⟨nL, 3, none⟩ = some (.slice A3 k3 c3) ∧ W.cell? ⟨nL, 4, none⟩ = some (.slice A4 k4 c4) ∧ W.cell? ⟨nL, 5, none⟩ = some (.int .i64 t0) ∧ W.cell? ⟨nL, 6, none⟩ = some (.int .i64 t1) ∧ W.cell? ⟨nL, 7, none⟩ = some (.int .i64 t2) ∧ W.cell? ⟨nL, 8, none⟩ = some (.int .i64 t3) ∧ W.cell? ⟨nL, 9, none⟩ = some (.int .i64 t4) ∧ W.cell? ⟨n1, 0, none⟩ = some (.slice Ao no co) ∧ W.cell? ⟨n1, 1, none⟩ = some (.slice Ac nc cc) ∧ W.cell? ⟨n1, 2, none⟩ = some (.slice Av nv cv))) := fun W h => ⟨h.rl.cell 0, h.rl.cell 1, h.rl.cell 2, h.rl.cell 3, h.rl.cell 4, h.rl.cell 5, h.rl.cell 6, h.rl.cell 7, h.rl.cell 8, h.rl.cell 9, h.rf.cell 0, h.rf.cell 1, h.rf.cell 2⟩
      go_upto_region 7 with (fail)
      go_cut [12, 13] (fun v1 v2 wx => ∃ A c A' c', v1 = .slice A k1 c ∧ v2 = .slice A' k1 c' ∧ Hid (LSt w n1 nL (fcells Ao Ac Av no nc nv co cc cv) #[.slice A0 k0 c0, .slice A1 k1 c1, .slice A2 k2 c2, .slice A3 k3 c3, .slice A4 k4 c4, .int .i64 t0, .int .i64 t1, .int .i64 t2, .int .i64 t3, .int .i64 t4] (.slice Aa nx ca) (.slice Ab nx cb) Ao Ac Av co cc cv f L xs wx ∧ Rd wx wx.heap.size (.slice Aw k2 cw) (ivals own) ∧ Rd wx wx.heap.size (.slice A k1 c) (bvals q1) ∧ Rd wx wx.heap.size (.slice A' k1 c') (bvals q2)))
      case first =>
        rename_i J K' hJ hK
        have hst := HSF.out.call (Below.refl wF.heap.size wF).drew
        have hWS := HWS.out.up (Below.refl wF.heap.size wF).drew
        have s0 := HSS.out _ hst
        obtain ⟨r0, r1, r2, r3, r4, r5, r6, r7, r8, r9, r10, r11, r12⟩ := (show _ from s0)
        clear HSF HWS
        go_region_held3 (fun w' => (w'.cell? ⟨nL, 0, none⟩ = some (.slice A0 k0 c0) ∧ w'.cell? ⟨nL, 1, none⟩ = some (.slice A1 k1 c1) ∧ w'.cell? ⟨nL, 2, none⟩ = some (.slice A2 k2 c2) ∧ w'.cell? ⟨nL, 3, none⟩ = some (.slice A3 k3 c3) ∧ w'.cell? ⟨nL, 4, none⟩ = some (.slice A4 k4 c4) ∧ w'.cell? ⟨nL, 5, none⟩ = some (.int .i64 t0) ∧ w'.cell? ⟨nL, 6, none⟩ = some (.int .i64 t1) ∧ w'.cell? ⟨nL, 7, none⟩ = some (.int .i64 t2) ∧ w'.cell? ⟨nL, 8, none⟩ = some (.int .i64 t3) ∧ w'.cell? ⟨nL, 9, none⟩ = some (.int .i64 t4) ∧ w'.cell? ⟨n1, 0, none⟩ = some (.slice Ao no co) ∧ w'.cell? ⟨n1, 1, none⟩ = some (.slice Ac nc cc) ∧ w'.cell? ⟨n1, 2, none⟩ = some (.slice Av nv cv))) (first | (with_reducible assumption) | (with_reducible exact s0) | go_keep) (first | (go_at_call 16; (with_reducible refine (HOF1.out _ hst hWS).mono ?_); rintro y v1 ⟨A9, c9, rfl, hr, hb⟩; have hst := LSt.call hst hb; have s0 := HSS.out _ hst; have hWS := Rd.up hWS hb; (try have hcA := Rd.up hcA hb); (try have hcB := Rd.up hcB hb); (try have hnA := Rd.up hnA hb); (try have hnB := Rd.up hnB hb); have hcA := hr; clear hr hb) | (go_at_call 16; (with_reducible refine (HOF2.out _ hst hWS).mono ?_); rintro y v1 ⟨A8, c8, rfl, hr, hb⟩; have hst := LSt.call hst hb; have s0 := HSS.out _ hst; have hWS := Rd.up hWS hb; (try have hcA := Rd.up hcA hb); (try have hcB := Rd.up hcB hb); (try have hnA := Rd.up hnA hb); (try have hnB := Rd.up hnB hb); have hcB := hr; clear hr hb))
        all_goals (refine hK _ _ (Met.intro (hJ _ _ ?_)); (repeat apply Exists.intro); refine ⟨?rel, rfl⟩; case rel => exact ⟨_, _, _, _, rfl, rfl, hst, hWS, hcA, hcB⟩)
      case rest =>
      obtain ⟨A9, c9, A8, c8, rfl, rfl, HC⟩ := hcut
      obtain ⟨wG, hwG⟩ : ∃ W, W = wc := ⟨_, rfl⟩
      subst hwG
      clear HSF HWS HOF1 HOF2 HSS htm hne hne2
      have hk100 := HK1.out.2
      go_wp2_with fail
      go_loopw [14] (fun k wr => ∃ i : Nat, i ≤ k1 ∧ k = .int .i64 i ∧ Hid (LSt w n1 nL (fcells Ao Ac Av no nc nv co cc cv) #[.slice A0 k0 c0, .slice A1 k1 c1, .slice A2 k2 c2, .slice A3 k3 c3, .slice A4 k4 c4, .int .i64 t0, .int .i64 t1, .int .i64 t2, .int .i64 t3, .int .i64 t4] (.slice Aa nx ca) (.slice Ab nx cb) Ao Ac Av co cc cv f L xs wr ∧ Rd wr wr.heap.size (.slice Aw k2 cw) (ivals own) ∧ Rd wr wr.heap.size (.slice A9 k1 c9) (bvals q1) ∧ Rd wr wr.heap.size (.slice A8 k1 c8) (bvals q2))) (fun k _ => k1 - (intOf k).toNat)
      case atStart => exact ⟨0, Nat.zero_le _, rfl, HC.out⟩
      case round =>
        obtain ⟨i, hi, rfl, HJ⟩ := hrel
        clear HC
        by_cases hlt : i < k1
        · have hli : (i : Int) < (k1 : Int) := by omega
          have hi1 : i < q1.length := by have := HQ1.out.1; omega
          have hi2 : i < q2.length := by have := HQ2.out.1; omega
          obtain ⟨pn, hpn⟩ := Int.eq_ofNat_of_zero_le (HPT.out i (by have := HK1.out.1; omega))
          have hpl := partL_small L.parts (i : Int)
          have H19 := refPart_any wr wr.heap.size _ L (i : Int) HJ.out.1.lay (Nat.le_refl _) HLG.out.fits
          have hwho : whoS L own (i : Int) = own.getD pn 0 := by unfold whoS; rw [hpn, if_pos (by omega), Int.toNat_natCast]
          have hs1 := HQ1.out.2 i hi1
          have hs2 := HQ2.out.2 i hi2
          rw [stO_by, hwho] at hs1 hs2
          rw [hpn] at H19 hpl
          have hpo : pn < own.length := by rw [HWK.out.1]; omega
          have hwk := HWK.out.2.getD pn
          have hpk : pn < k2 := by have := HK2.out.1; omega
          have p0 := HJ.out.1.rl.cell 0; have p1 := HJ.out.1.rl.cell 1; have p2 := HJ.out.1.rl.cell 2; have p3 := HJ.out.1.rl.cell 3; have p4 := HJ.out.1.rl.cell 4; have p5 := HJ.out.1.rl.cell 5; have p6 := HJ.out.1.rl.cell 6; have p7 := HJ.out.1.rl.cell 7; have p8 := HJ.out.1.rl.cell 8; have p9 := HJ.out.1.rl.cell 9
          simp only [List.getElem?_toArray, List.getElem?_cons_zero, List.getElem?_cons_succ] at p0 p1 p2 p3 p4 p5 p6 p7 p8 p9
          go_wp2_with fail
          refine H19.mono ?_; rintro e wa ⟨rfl, hba⟩
          have HA : Hid (LSt w n1 nL (fcells Ao Ac Av no nc nv co cc cv) #[.slice A0 k0 c0, .slice A1 k1 c1, .slice A2 k2 c2, .slice A3 k3 c3, .slice A4 k4 c4, .int .i64 t0, .int .i64 t1, .int .i64 t2, .int .i64 t3, .int .i64 t4] (.slice Aa nx ca) (.slice Ab nx cb) Ao Ac Av co cc cv f L xs wa ∧ Rd wa wa.heap.size (.slice Aw k2 cw) (ivals own) ∧ Rd wa wa.heap.size (.slice A9 k1 c9) (bvals q1) ∧ Rd wa wa.heap.size (.slice A8 k1 c8) (bvals q2)) := ⟨HJ.out.1.call hba, HJ.out.2.1.up hba, HJ.out.2.2.1.up hba, HJ.out.2.2.2.up hba⟩
          obtain ⟨bo, oo, hAo, -, qo⟩ := HA.out.2.1.at (i := pn) (u := .int .i64 (own.getD pn 0)) (by simp [ivals, hpo, List.getD])
          subst hAo
          clear hba HJ H19 hwho hpn p0 p1 p2 p3 p4 p5 p6 p7 p8 p9
          generalize own.getD pn 0 = who at *
          obtain ⟨b9, o9, hA9, -, e9⟩ := HA.out.2.2.1.at (bvals_get q1 i hi1)
          obtain ⟨b8, o8, hA8, -, e8⟩ := HA.out.2.2.2.at (bvals_get q2 i hi2)
          subst hA9 hA8
          rw [hs1] at e9
          rw [hs2] at e8
          clear hs1 hs2
          go_upto_region 14 with (fail)
          clear qo
          by_cases h1 : who = -2
          · subst h1
            rw [byO_empty] at e9 e8
            go_wp2_with fail
            go_roundw
            case rel => exact ⟨i + 1, by omega, by go_num, HA.out⟩
            case measure => simp [intOf]; omega
          · by_cases h2 : who = -1
            · subst h2
              rw [byO_unk] at e9 e8
              cases hany : anyV xs (i : Int) with
              | true =>
                rw [hany] at e8
                simp only [if_true] at e8
                cases hant : anyV (xs.take K) (i : Int) with
                | true =>
                  rw [hant] at e9
                  simp only [if_true] at e9
                  go_wp2_with fail
                  go_roundw
                  case rel => exact ⟨i + 1, by omega, by go_num, HA.out⟩
                  case measure => simp [intOf]; omega
                | false =>
                  rw [hant] at e9
                  simp only [Bool.false_eq_true, if_false] at e9
                  go_wp2_with fail
                  go_roundw
                  case rel => exact ⟨i + 1, by omega, by go_num, HA.out⟩
                  case measure => simp [intOf]; omega
              | false =>
                have hant : anyV (xs.take K) (i : Int) = false := by
                  cases c : anyV (xs.take K) (i : Int) with
                  | false => rfl
                  | true => rw [anyV_take xs K _ c] at hany; cases hany
                rw [hany] at e8
                rw [hant] at e9
                simp only [Bool.false_eq_true, if_false] at e8 e9
                go_wp2_with fail
                go_roundw
                case rel => exact ⟨i + 1, by omega, by go_num, HA.out⟩
                case measure => simp [intOf]; omega
            · have h3 : 0 ≤ who := by omega
              have h4 : (who == -2) = false := by simpa using h1
              have h5 : (who == -1) = false := by simpa using h2
              rw [byO_train h3] at e9 e8
              clear e8
              cases hin : inV (xs.take K) who (i : Int) with
              | true =>
                rw [hin] at e9
                simp only [if_true] at e9
                go_wp2_with fail
                go_roundw
                case rel => exact ⟨i + 1, by omega, by go_num, HA.out⟩
                case measure => simp [intOf]; omega
              | false =>
                rw [hin] at e9
                simp only [Bool.false_eq_true, if_false] at e9
                go_wp2_with fail
                go_roundw
                case rel => exact ⟨i + 1, by omega, by go_num, HA.out⟩
                case measure => simp [intOf]; omega
        · have hin : i = k1 := by omega
          subst hin
          go_wp2_with fail
          go_ret
          exact ⟨rfl, HJ.out.1.bel⟩

end Go.Proofs.YtblbbdkpebacbaaDoor
