/- The law StateFree. -/
import Derived.Test.YtblbbdkpebacbaaDoorSe
import Derived.Test.YtblbbdkpebacbaaDoorPt
namespace Go.Proofs.YtblbbdkpebacbaaDoor
open Go.RowKit Fl
set_option maxRecDepth 100000

set_option maxHeartbeats 16000000 in
theorem lawFree (w : World) (d : Dr) (vr : Value) (f : Fd) (Ao Ac Av : Option Addr) (co cc cv : Nat) (hd : DrOk d) (hbr : BRows w w.heap.size vr d.routes) (hl : d.routes.length ≤ 9223372036854775807) (hrl : ∀ r ∈ d.routes, r.length ≤ 9223372036854775807)
    (hfv : FdV w w.heap.size Ao Ac Av co cc cv f) (hfo : FdOk f) (hfl : FdLen f) (hkd : KD w) :
    Calls Tryd.prog 4 #[drV d vr, .agg (fcells Ao Ac Av f.own.length f.clr.length f.vws.length co cc cv)] w (RetL true w) := by
  obtain ⟨Ad, kd, cd, hvr⟩ : ∃ A k c, vr = .slice A k c := by obtain ⟨vs, ⟨A, c, e, _⟩, _⟩ := hbr; exact ⟨A, _, c, e⟩
  subst hvr
  have HSM : Hid (∀ W, Below w.heap.size w W → Calls Tryd.prog 11 #[.agg #[.int .u8 (d.form : Int), .int .u8 (d.len : Int), .int .u8 (d.speed : Int), .int .u16 (d.mute : Int), .int .u16 (d.wait : Int), .int .u8 (d.cancel : Int), .int .u8 (d.stay : Int), .int .u8 (d.join : Int), .slice Ad kd cd]] W (RetL (small d) W)) := fun W hW => small_any W d (.slice Ad kd cd) (hbr.up hW) hl hrl
  have HFW : Hid (∀ W, Below w.heap.size w W → Calls Tryd.prog 12 #[.agg (fcells Ao Ac Av f.own.length f.clr.length f.vws.length co cc cv)] W (RetL (fewB f) W)) := fun W hW => few_any W Ao Ac Av co cc cv f (hfv.up hW) hfl.vws hfl.span
  have HFU : Hid (small d = true → ∀ W, Below w.heap.size w W → Calls Tryd.prog 13 #[.agg #[.int .u8 (d.form : Int), .int .u8 (d.len : Int), .int .u8 (d.speed : Int), .int .u16 (d.mute : Int), .int .u16 (d.wait : Int), .int .u8 (d.cancel : Int), .int .u8 (d.stay : Int), .int .u8 (d.join : Int), .slice Ad kd cd]] W (RetLay (fullL d) W)) := fun hs W hW => full_any W d (.slice Ad kd cd) hd (hbr.up hW) hs
  have HLG := Lib.hid (full_g d)
  have HFV := Lib.hid hfv
  have HOK := Lib.hid hfo
  have HFL := Lib.hid hfl
  have HKD := Lib.hid hkd
  clear hbr hl hrl hd hfv hfo hfl hkd
  unfold drV
  obtain ⟨no, hno⟩ : ∃ n, f.own.length = n := ⟨_, rfl⟩
  obtain ⟨nc, hnc⟩ : ∃ n, f.clr.length = n := ⟨_, rfl⟩
  obtain ⟨nv, hnv⟩ : ∃ n, f.vws.length = n := ⟨_, rfl⟩
  have HNO := Lib.hid hno; have HNC := Lib.hid hnc; have HNV := Lib.hid hnv
  rw [hno, hnc, hnv] at HFW ⊢
  clear hno hnc hnv
  have HB0 := Lib.hid (below2 w (.cells #[.int .u8 (d.form : Int), .int .u8 (d.len : Int), .int .u8 (d.speed : Int), .int .u16 (d.mute : Int), .int .u16 (d.wait : Int), .int .u8 (d.cancel : Int), .int .u8 (d.stay : Int), .int .u8 (d.join : Int), .slice Ad kd cd] 25) (.cells (fcells Ao Ac Av no nc nv co cc cv) 30))
  have HRD := Lib.hid ((Row.new w 25 #[.int .u8 (d.form : Int), .int .u8 (d.len : Int), .int .u8 (d.speed : Int), .int .u16 (d.mute : Int), .int .u16 (d.wait : Int), .int .u8 (d.cancel : Int), .int .u8 (d.stay : Int), .int .u8 (d.join : Int), .slice Ad kd cd]).alloc (.cells (fcells Ao Ac Av no nc nv co cc cv) 30))
  have hr1 := Row.new (w.alloc (.cells #[.int .u8 (d.form : Int), .int .u8 (d.len : Int), .int .u8 (d.speed : Int), .int .u16 (d.mute : Int), .int .u16 (d.wait : Int), .int .u8 (d.cancel : Int), .int .u8 (d.stay : Int), .int .u8 (d.join : Int), .slice Ad kd cd] 25)) 30 (fcells Ao Ac Av no nc nv co cc cv)
  rw [World.size_alloc] at hr1
  have HRX := Lib.hid hr1
  clear hr1
  have HPT := Lib.hid (full_part d)
  generalize fullL d = L at *
  go_enter Tryd.func4, Tryd.ntmps4
  go_upto_region 1 with (fail)
  obtain ⟨n0, hn0⟩ : ∃ n, n = w.heap.size := ⟨_, rfl⟩
  obtain ⟨n1, hn1⟩ : ∃ n, n = n0 + 1 := ⟨_, rfl⟩
  rw [← hn0] at HRD HRX ⊢
  rw [← hn1] at HRX ⊢
  clear hn0 hn1
  generalize (w.alloc (.cells #[.int .u8 (d.form : Int), .int .u8 (d.len : Int), .int .u8 (d.speed : Int), .int .u16 (d.mute : Int), .int .u16 (d.wait : Int), .int .u8 (d.cancel : Int), .int .u8 (d.stay : Int), .int .u8 (d.join : Int), .slice Ad kd cd] 25)).alloc (.cells (fcells Ao Ac Av no nc nv co cc cv) 30) = W0 at *
  go_wp2_with fail
  refine (second_any W0 (HKD.out.up HB0.out)).mono ?_; rintro e wA ⟨rfl, hbA⟩
  have HA := Lib.hid (HB0.out.trans (hbA.mono HB0.out.size))
  have HDA := Lib.hid (Below.row hbA HRD.out HRD.out.lt)
  have HXA := Lib.hid (Below.row hbA HRX.out HRX.out.lt)
  clear hbA HB0 HRD HRX
  have f0 := HDA.out.cell 0; have f1 := HDA.out.cell 1; have f2 := HDA.out.cell 2; have f3 := HDA.out.cell 3; have f4 := HDA.out.cell 4; have f5 := HDA.out.cell 5; have f6 := HDA.out.cell 6; have f7 := HDA.out.cell 7; have f8 := HDA.out.cell 8
  simp only [List.getElem?_toArray, List.getElem?_cons_zero, List.getElem?_cons_succ] at f0 f1 f2 f3 f4 f5 f6 f7 f8
  go_wp2_with fail
  refine (HSM.out wA HA.out).mono ?_; rintro e wB ⟨rfl, hbB⟩
  have HB := Lib.hid (HA.out.trans (hbB.mono HA.out.size))
  have HDB := Lib.hid (Below.row hbB HDA.out HDA.out.lt)
  have HXB := Lib.hid (Below.row hbB HXA.out HXA.out.lt)
  clear hbB f0 f1 f2 f3 f4 f5 f6 f7 f8 HA HDA HXA
  cases hs : small d with
  | false =>
    clear HDB HXB
    go_wp2_with fail
    refine (second_any wB (HKD.out.up HB.out)).mono ?_; rintro e wZ ⟨rfl, hbZ⟩
    have HZ := Lib.hid (HB.out.trans (hbZ.mono HB.out.size))
    clear hbZ
    go_wp2_with fail
    go_ret
    exact ⟨rfl, HZ.out⟩
  | true =>
    have g0 := HXB.out.cell 0; have g1 := HXB.out.cell 1; have g2 := HXB.out.cell 2
    simp only [List.getElem?_toArray, List.getElem?_cons_zero, List.getElem?_cons_succ] at g0 g1 g2
    go_wp2_with fail
    refine (HFW.out wB HB.out).mono ?_; rintro e wC ⟨rfl, hbC⟩
    have HC := Lib.hid (HB.out.trans (hbC.mono HB.out.size))
    have HDC := Lib.hid (Below.row hbC HDB.out HDB.out.lt)
    have HXC := Lib.hid (Below.row hbC HXB.out HXB.out.lt)
    clear hbC g0 g1 g2 HB HDB HXB
    cases hfw : fewB f with
    | false =>
      clear HDC HXC
      go_wp2_with fail
      refine (second_any wC (HKD.out.up HC.out)).mono ?_; rintro e wZ ⟨rfl, hbZ⟩
      have HZ := Lib.hid (HC.out.trans (hbZ.mono HC.out.size))
      clear hbZ
      go_wp2_with fail
      go_ret
      exact ⟨rfl, HZ.out⟩
    | true =>

      have HFE := Lib.hid (few_ok hfw)
      have HXS := Lib.hid (views_ok HLG.out hfw)
      clear hfw
      have f0 := HDC.out.cell 0; have f1 := HDC.out.cell 1; have f2 := HDC.out.cell 2; have f3 := HDC.out.cell 3; have f4 := HDC.out.cell 4; have f5 := HDC.out.cell 5; have f6 := HDC.out.cell 6; have f7 := HDC.out.cell 7; have f8 := HDC.out.cell 8
      simp only [List.getElem?_toArray, List.getElem?_cons_zero, List.getElem?_cons_succ] at f0 f1 f2 f3 f4 f5 f6 f7 f8
      go_wp2_with fail
      refine (HFU.out hs wC HC.out).mono ?_; rintro e wD ⟨vL, rfl, hvL, hbD⟩
      obtain ⟨A0, k0, c0, A1, k1, c1, A2, k2, c2, A3, k3, c3, A4, k4, c4, t0, t1, t2, t3, t4, hv, -, hk1, hk2, -⟩ := hvL.lens
      subst hv
      have hba := (Below.refl wD.heap.size wD).alloc (Nat.le_refl _) (.cells #[.slice A0 k0 c0, .slice A1 k1 c1, .slice A2 k2 c2, .slice A3 k3 c3, .slice A4 k4 c4, .int .i64 t0, .int .i64 t1, .int .i64 t2, .int .i64 t3, .int .i64 t4] 39)
      have hbb := hbD.trans (hba.mono hbD.size)
      have HD := Lib.hid (HC.out.trans (hbb.mono HC.out.size))
      have HXD := Lib.hid (Below.row hbb HXC.out HXC.out.lt)
      have HLD := Lib.hid (Row.new wD 39 #[.slice A0 k0 c0, .slice A1 k1 c1, .slice A2 k2 c2, .slice A3 k3 c3, .slice A4 k4 c4, .int .i64 t0, .int .i64 t1, .int .i64 t2, .int .i64 t3, .int .i64 t4])
      have HVD := Lib.hid (hvL.up hba)
      have HK2 : Hid (L.parts.length = k2 ∧ k2 ≤ 100) := ⟨hk2, by rw [← hk2]; exact HLG.out.fits.p⟩
      have HK1 : Hid (L.secs.length = k1 ∧ k1 ≤ 100) := ⟨hk1, by rw [← hk1]; exact HLG.out.fits.s⟩
      have HFD := Lib.hid (HFV.out.up HD.out)
      clear hba hbb hbD hvL hk1 hk2 HC HDC HXC HSM HFW HFU f0 f1 f2 f3 f4 f5 f6 f7 f8 hs HFV
      go_upto_region 4 with (fail)
      obtain ⟨nL, hnL⟩ : ∃ n, n = wD.heap.size := ⟨_, rfl⟩
      rw [← hnL] at HLD ⊢
      clear hnL
      generalize wD.alloc (.cells #[.slice A0 k0 c0, .slice A1 k1 c1, .slice A2 k2 c2, .slice A3 k3 c3, .slice A4 k4 c4, .int .i64 t0, .int .i64 t1, .int .i64 t2, .int .i64 t3, .int .i64 t4] 39) = wD at *
      have p0 := HLD.out.cell 0; have p1 := HLD.out.cell 1; have p2 := HLD.out.cell 2; have p3 := HLD.out.cell 3; have p4 := HLD.out.cell 4; have p5 := HLD.out.cell 5; have p6 := HLD.out.cell 6; have p7 := HLD.out.cell 7; have p8 := HLD.out.cell 8; have p9 := HLD.out.cell 9
      simp only [List.getElem?_toArray, List.getElem?_cons_zero, List.getElem?_cons_succ] at p0 p1 p2 p3 p4 p5 p6 p7 p8 p9
      have g0 := HXD.out.cell 0; have g1 := HXD.out.cell 1; have g2 := HXD.out.cell 2
      simp only [List.getElem?_toArray, List.getElem?_cons_zero, List.getElem?_cons_succ] at g0 g1 g2
      go_wp2_with fail
      refine (views_any wD _ L Ao Ac Av no nc nv co cc cv f HVD.out HLG.out.fits HLG.out.secs.1 (by have := HFD.out.vws; rw [HNV.out] at this; exact this) HNV.out HOK.out HFE.out).mono ?_; rintro e wE ⟨Aa, ca, Ab, cb, rfl, hva, hvb, hbE⟩
      obtain ⟨xs, hxs⟩ : ∃ xs, viewsO L.secs.length f.vws = xs := ⟨_, rfl⟩
      rw [hxs] at hva hvb HXS
      obtain ⟨nx, hnx⟩ : ∃ n, xs.length = n := ⟨_, rfl⟩
      have HNXL := Lib.hid hnx
      rw [hnx] at hva hvb
      have HST : Hid (LSt w n1 nL (fcells Ao Ac Av no nc nv co cc cv) #[.slice A0 k0 c0, .slice A1 k1 c1, .slice A2 k2 c2, .slice A3 k3 c3, .slice A4 k4 c4, .int .i64 t0, .int .i64 t1, .int .i64 t2, .int .i64 t3, .int .i64 t4] (.slice Aa nx ca) (.slice Ab nx cb) Ao Ac Av co cc cv f L xs wE) := ⟨HD.out.trans (hbE.mono HD.out.size), Below.row hbE HXD.out HXD.out.lt, Below.row hbE HLD.out HLD.out.lt, HVD.out.up hbE, HFD.out.up hbE, hva, hvb⟩
      rw [hxs, hnx]
      clear hbE p0 p1 p2 p3 p4 p5 p6 p7 p8 p9 g0 g1 g2 hva hvb hxs hnx HD HXD HLD HVD HFD HFE
      have p0 := HST.out.rl.cell 0; have p1 := HST.out.rl.cell 1; have p2 := HST.out.rl.cell 2; have p3 := HST.out.rl.cell 3; have p4 := HST.out.rl.cell 4; have p5 := HST.out.rl.cell 5; have p6 := HST.out.rl.cell 6; have p7 := HST.out.rl.cell 7; have p8 := HST.out.rl.cell 8; have p9 := HST.out.rl.cell 9
      simp only [List.getElem?_toArray, List.getElem?_cons_zero, List.getElem?_cons_succ] at p0 p1 p2 p3 p4 p5 p6 p7 p8 p9
      have g0 := HST.out.rf.cell 0; have g1 := HST.out.rf.cell 1; have g2 := HST.out.rf.cell 2
      simp only [List.getElem?_toArray, List.getElem?_cons_zero, List.getElem?_cons_succ] at g0 g1 g2
      go_wp2_with fail
      refine (HST.out.owners HLG.out HNO.out HOK.out).mono ?_; rintro e wF ⟨Aw, cw, rfl, hws, hbF⟩
      have hwl : (ivals (ownersL f L.parts.length)).length = k2 := by rw [HK2.out.1]; simp [ivals, ownersL_len]
      rw [hwl] at hws ⊢
      have HSF := Lib.hid (HST.out.call hbF)
      have HWS := Lib.hid hws
      have HWK : Hid ((ownersL f L.parts.length).length = L.parts.length ∧ OkO (ownersL f L.parts.length)) := ⟨ownersL_len _ _, ownersL_ok _ _⟩
      clear hbF hws hwl HST p0 p1 p2 p3 p4 p5 p6 p7 p8 p9 g0 g1 g2
      generalize ownersL f L.parts.length = own at *
      obtain ⟨q, hq⟩ : ∃ q, ofO L own xs = q := ⟨_, rfl⟩
      have HQ : Hid (q.length = k1 ∧ ∀ i (h : i < q.length), q[i] = stO L own xs (i : Int)) := by
        subst hq
        exact ⟨by rw [ofO_len, HK1.out.1], fun i h => ofO_get h⟩
      have HOF := Lib.hid (of_any wF _ _ _ L own xs HSF.out.lay HLG.out.fits HWS.out HWK.out.1 HWK.out.2 HSF.out.va HXS.out)
      rw [hq] at HOF
      clear hq
      have p0 := HSF.out.rl.cell 0; have p1 := HSF.out.rl.cell 1; have p2 := HSF.out.rl.cell 2; have p3 := HSF.out.rl.cell 3; have p4 := HSF.out.rl.cell 4; have p5 := HSF.out.rl.cell 5; have p6 := HSF.out.rl.cell 6; have p7 := HSF.out.rl.cell 7; have p8 := HSF.out.rl.cell 8; have p9 := HSF.out.rl.cell 9
      simp only [List.getElem?_toArray, List.getElem?_cons_zero, List.getElem?_cons_succ] at p0 p1 p2 p3 p4 p5 p6 p7 p8 p9
      go_wp2_with fail
      refine HOF.out.mono ?_; rintro e wG ⟨v9, rfl, hs9, hbG⟩
      obtain ⟨A9, c9, e9⟩ := own_slice hs9
      subst e9
      rw [HQ.out.1] at hs9 ⊢
      have HC : Hid (LSt w n1 nL (fcells Ao Ac Av no nc nv co cc cv) #[.slice A0 k0 c0, .slice A1 k1 c1, .slice A2 k2 c2, .slice A3 k3 c3, .slice A4 k4 c4, .int .i64 t0, .int .i64 t1, .int .i64 t2, .int .i64 t3, .int .i64 t4] (.slice Aa nx ca) (.slice Ab nx cb) Ao Ac Av co cc cv f L xs wG ∧ Rd wG wG.heap.size (.slice Aw k2 cw) (ivals own) ∧ Rd wG wG.heap.size (.slice A9 k1 c9) (bvals q)) := ⟨HSF.out.call hbG, HWS.out.up hbG, Rd.of_own hs9⟩
      clear hs9 hbG HSF HWS HOF p0 p1 p2 p3 p4 p5 p6 p7 p8 p9
      have hk100 := HK1.out.2
      have p1 := HC.out.1.rl.cell 1
      simp only [List.getElem?_toArray, List.getElem?_cons_zero, List.getElem?_cons_succ] at p1
      go_wp2_with fail
      clear p1
      go_loopw [10] (fun k wr => ∃ i : Nat, i ≤ k1 ∧ k = .int .i64 i ∧ Hid (LSt w n1 nL (fcells Ao Ac Av no nc nv co cc cv) #[.slice A0 k0 c0, .slice A1 k1 c1, .slice A2 k2 c2, .slice A3 k3 c3, .slice A4 k4 c4, .int .i64 t0, .int .i64 t1, .int .i64 t2, .int .i64 t3, .int .i64 t4] (.slice Aa nx ca) (.slice Ab nx cb) Ao Ac Av co cc cv f L xs wr ∧ Rd wr wr.heap.size (.slice Aw k2 cw) (ivals own) ∧ Rd wr wr.heap.size (.slice A9 k1 c9) (bvals q))) (fun k _ => k1 - (intOf k).toNat)
      case atStart => exact ⟨0, Nat.zero_le _, rfl, HC.out⟩
      case round =>
        obtain ⟨i, hi, rfl, HJ⟩ := hrel
        clear HC
        by_cases hlt : i < k1
        · have hli : (i : Int) < (k1 : Int) := by omega
          have hiq : i < q.length := by have := HQ.out.1; omega
          obtain ⟨pn, hpn⟩ := Int.eq_ofNat_of_zero_le (HPT.out i (by have := HK1.out.1; omega))
          have hpl := partL_small L.parts (i : Int)
          have H19 := refPart_any wr wr.heap.size _ L (i : Int) HJ.out.1.lay (Nat.le_refl _) HLG.out.fits
          have hwho : whoS L own (i : Int) = own.getD pn 0 := by unfold whoS; rw [hpn, if_pos (by omega), Int.toNat_natCast]
          have hst0 := HQ.out.2 i hiq
          rw [stO_by, hwho] at hst0
          rw [hpn] at H19 hpl
          have hpo : pn < own.length := by rw [HWK.out.1]; omega
          have hwk := HWK.out.2.getD pn
          have hpk : pn < k2 := by have := HK2.out.1; omega
          have p0 := HJ.out.1.rl.cell 0; have p1 := HJ.out.1.rl.cell 1; have p2 := HJ.out.1.rl.cell 2; have p3 := HJ.out.1.rl.cell 3; have p4 := HJ.out.1.rl.cell 4; have p5 := HJ.out.1.rl.cell 5; have p6 := HJ.out.1.rl.cell 6; have p7 := HJ.out.1.rl.cell 7; have p8 := HJ.out.1.rl.cell 8; have p9 := HJ.out.1.rl.cell 9
          simp only [List.getElem?_toArray, List.getElem?_cons_zero, List.getElem?_cons_succ] at p0 p1 p2 p3 p4 p5 p6 p7 p8 p9
          go_wp2_with fail
          refine H19.mono ?_; rintro e wa ⟨rfl, hba⟩
          have HA : Hid (LSt w n1 nL (fcells Ao Ac Av no nc nv co cc cv) #[.slice A0 k0 c0, .slice A1 k1 c1, .slice A2 k2 c2, .slice A3 k3 c3, .slice A4 k4 c4, .int .i64 t0, .int .i64 t1, .int .i64 t2, .int .i64 t3, .int .i64 t4] (.slice Aa nx ca) (.slice Ab nx cb) Ao Ac Av co cc cv f L xs wa ∧ Rd wa wa.heap.size (.slice Aw k2 cw) (ivals own) ∧ Rd wa wa.heap.size (.slice A9 k1 c9) (bvals q)) := ⟨HJ.out.1.call hba, HJ.out.2.1.up hba, HJ.out.2.2.up hba⟩
          obtain ⟨bo, oo, hAo, -, qo⟩ := HA.out.2.1.at (i := pn) (u := .int .i64 (own.getD pn 0)) (by simp [ivals, hpo, List.getD])
          subst hAo
          clear hba HJ H19 hwho hpn p0 p1 p2 p3 p4 p5 p6 p7 p8 p9
          generalize own.getD pn 0 = who at *
          have hf := refFind_any wa wa.heap.size (.slice Ab nx cb) xs who HA.out.1.vb (Nat.le_refl _) HXS.out.len
          have hln : ((findV xs who).getD noV).2.2.length ≤ 1000 := by
            cases e : findV xs who with
            | none => simp [noV]
            | some z => exact (HXS.out.span z (List.mem_of_find?_eq_some e)).1
          have hin9 := inV_getD xs who (i : Int)
          unfold RetFind at hf
          generalize (findV xs who).isSome = z at *
          generalize (findV xs who).getD noV = y at *
          obtain ⟨y0, y1, y2⟩ := y
          simp only at hf hln hin9
          have HFD := Lib.hid hf
          have HLN := Lib.hid hln
          have HW8 := Lib.hid hwk
          obtain ⟨q9, hq9⟩ : ∃ q9, y2.contains (i : Int) = q9 := ⟨_, rfl⟩
          have HQ9 := Lib.hid hq9
          rw [hq9] at hin9
          have HIN := Lib.hid hin9
          have HST0 := Lib.hid hst0
          clear hf hln hq9 hin9 hst0 hwk
          go_wp2_with fail
          refine HFD.out.mono ?_; rintro e wb ⟨A5, c5, rfl, h5', hb⟩
          have h6 := (Below.refl wb.heap.size wb).alloc (Nat.le_refl _) (.cells #[.int .i64 y0, .bool y1, .slice A5 y2.length c5] 53)
          have HB : Hid (LSt w n1 nL (fcells Ao Ac Av no nc nv co cc cv) #[.slice A0 k0 c0, .slice A1 k1 c1, .slice A2 k2 c2, .slice A3 k3 c3, .slice A4 k4 c4, .int .i64 t0, .int .i64 t1, .int .i64 t2, .int .i64 t3, .int .i64 t4] (.slice Aa nx ca) (.slice Ab nx cb) Ao Ac Av co cc cv f L xs (wb.alloc (.cells #[.int .i64 y0, .bool y1, .slice A5 y2.length c5] 53)) ∧ Rd (wb.alloc (.cells #[.int .i64 y0, .bool y1, .slice A5 y2.length c5] 53)) (wb.alloc (.cells #[.int .i64 y0, .bool y1, .slice A5 y2.length c5] 53)).heap.size (.slice (some ⟨bo, oo, none⟩) k2 cw) (ivals own) ∧ Rd (wb.alloc (.cells #[.int .i64 y0, .bool y1, .slice A5 y2.length c5] 53)) (wb.alloc (.cells #[.int .i64 y0, .bool y1, .slice A5 y2.length c5] 53)).heap.size (.slice A9 k1 c9) (bvals q)) := ⟨(HA.out.1.call hb).call h6, (HA.out.2.1.up hb).up h6, (HA.out.2.2.up hb).up h6⟩
          have HC := Lib.hid (refHas_any _ _ _ y2 (i : Int) ((h5'.mono hb.size (fun _ _ => rfl)).up h6) (by have := HLN.out; omega))
          have hr53 := Row.new wb 53 #[.int .i64 y0, .bool y1, .slice A5 y2.length c5]
          have HR53 := Lib.hid hr53
          rw [HQ9.out] at HC
          clear hb h5' h6 hr53
          obtain ⟨yl, hyl⟩ : ∃ n, y2.length = n := ⟨_, rfl⟩
          rw [hyl] at HC HB HR53 ⊢
          clear hyl HA qo
          go_upto_region 14 with (fail)
          obtain ⟨nb, hnb⟩ : ∃ n, n = wb.heap.size := ⟨_, rfl⟩
          rw [← hnb] at HR53 ⊢
          clear hnb
          generalize wb.alloc (.cells #[.int .i64 y0, .bool y1, .slice A5 yl c5] 53) = wc at *
          have f2 := HR53.out.cell 2
          simp only [List.getElem?_toArray, List.getElem?_cons_zero, List.getElem?_cons_succ] at f2
          go_wp2_with fail
          refine HC.out.mono ?_; rintro e wd ⟨rfl, rfl⟩
          clear f2
          go_upto_region 15 with (fail)
          obtain ⟨b9, o9, hA9, -, e9⟩ := HB.out.2.2.at (bvals_get q i hiq)
          subst hA9
          rw [HST0.out] at e9
          by_cases h1 : who = -2
          · subst h1
            rw [byO_empty] at e9
            go_wp2_with fail
            go_roundw
            case rel => exact ⟨i + 1, by omega, by go_num, HB.out⟩
            case measure => simp [intOf]; omega
          · by_cases h2 : who = -1
            · subst h2
              rw [byO_unk] at e9
              cases hany : anyV xs (i : Int) with
              | true =>
                rw [hany] at e9
                simp only [if_true] at e9
                go_wp2_with fail
                go_roundw
                case rel => exact ⟨i + 1, by omega, by go_num, HB.out⟩
                case measure => simp [intOf]; omega
              | false =>
                rw [hany] at e9
                simp only [Bool.false_eq_true, if_false] at e9
                go_wp2_with fail
                go_roundw
                case rel => exact ⟨i + 1, by omega, by go_num, HB.out⟩
                case measure => simp [intOf]; omega
            · have h3 : 0 ≤ who := by have := HW8.out; omega
              have h4 : (who == -2) = false := by simpa using h1
              rw [byO_train h3, HIN.out] at e9
              cases q9 with
              | true =>
                simp only [if_true] at e9
                go_wp2_with fail
                go_roundw
                case rel => exact ⟨i + 1, by omega, by go_num, HB.out⟩
                case measure => simp [intOf]; omega
              | false =>
                simp only [Bool.false_eq_true, if_false] at e9
                go_wp2_with fail
                go_roundw
                case rel => exact ⟨i + 1, by omega, by go_num, HB.out⟩
                case measure => simp [intOf]; omega
        · have hin : i = k1 := by omega
          subst hin
          go_wp2_with fail
          go_ret
          exact ⟨rfl, HJ.out.1.bel⟩

end Go.Proofs.YtblbbdkpebacbaaDoor
