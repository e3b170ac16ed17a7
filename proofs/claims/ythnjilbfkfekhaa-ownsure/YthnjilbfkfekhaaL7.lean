/- The law OwnSure. -/
import Derived.Test.YthnjilbfkfekhaaL6
import Derived.BigQuiet
namespace Go.Proofs.Ythnjilbfkfekhaa
open Go.RowKit Fl
set_option maxRecDepth 100000

set_option maxHeartbeats 32000000 in
theorem lawSure (w : World) (d : Dr) (vr : Value) (f : Fd) (Ao Ac Av : Option Addr) (co cc cv : Nat) (hd : DrOk d) (hbr : BRows w w.heap.size vr d.routes) (hl : d.routes.length ≤ 9223372036854775807) (hrl : ∀ r ∈ d.routes, r.length ≤ 9223372036854775807)
    (hfv : FdV w w.heap.size Ao Ac Av co cc cv f) (hfo : FdOk f) (hfl : FdLen f) :
    Calls Try.prog 5 #[drV d vr, .agg (fcells Ao Ac Av f.own.length f.clr.length f.vws.length co cc cv)] w (RetL true w) := by
  obtain ⟨Ad, kd, cd, hvr⟩ : ∃ A k c, vr = .slice A k c := by obtain ⟨vs, ⟨A, c, e, _⟩, _⟩ := hbr; exact ⟨A, _, c, e⟩
  subst hvr
  have HSM : Hid (∀ W, Below w.heap.size w W → Calls Try.prog 11 #[.agg #[.int .u8 (d.form : Int), .int .u8 (d.len : Int), .int .u8 (d.speed : Int), .int .u16 (d.mute : Int), .int .u16 (d.wait : Int), .int .u8 (d.cancel : Int), .int .u8 (d.stay : Int), .int .u8 (d.join : Int), .slice Ad kd cd]] W (RetL (small d) W)) := fun W hW => small_any W d (.slice Ad kd cd) (hbr.up hW) hl hrl
  have HFW : Hid (∀ W, Below w.heap.size w W → Calls Try.prog 12 #[.agg (fcells Ao Ac Av f.own.length f.clr.length f.vws.length co cc cv)] W (RetL (fewB f) W)) := fun W hW => few_any W Ao Ac Av co cc cv f (hfv.up hW) hfl.vws hfl.span
  have HFU : Hid (small d = true → ∀ W, Below w.heap.size w W → Calls Try.prog 13 #[.agg #[.int .u8 (d.form : Int), .int .u8 (d.len : Int), .int .u8 (d.speed : Int), .int .u16 (d.mute : Int), .int .u16 (d.wait : Int), .int .u8 (d.cancel : Int), .int .u8 (d.stay : Int), .int .u8 (d.join : Int), .slice Ad kd cd]] W (RetLay (fullL d) W)) := fun hs W hW => full_any W d (.slice Ad kd cd) hd (hbr.up hW) hs
  have HLG := Lib.hid (full_g d)
  have HFV := Lib.hid hfv
  have HOK := Lib.hid hfo
  have HFL := Lib.hid hfl
  clear hbr hl hrl hd hfv hfo hfl
  unfold drV
  obtain ⟨no, hno⟩ : ∃ n, f.own.length = n := ⟨_, rfl⟩
  obtain ⟨nc, hnc⟩ : ∃ n, f.clr.length = n := ⟨_, rfl⟩
  obtain ⟨nv, hnv⟩ : ∃ n, f.vws.length = n := ⟨_, rfl⟩
  have HNO := Lib.hid hno; have HNC := Lib.hid hnc; have HNV := Lib.hid hnv
  rw [hno, hnc, hnv] at HFW ⊢
  clear hno hnc hnv
  have HB0 := Lib.hid (below2 w (.cells #[.int .u8 (d.form : Int), .int .u8 (d.len : Int), .int .u8 (d.speed : Int), .int .u16 (d.mute : Int), .int .u16 (d.wait : Int), .int .u8 (d.cancel : Int), .int .u8 (d.stay : Int), .int .u8 (d.join : Int), .slice Ad kd cd] 25) (.cells (fcells Ao Ac Av no nc nv co cc cv) 30))
  have HRD := Lib.hid ((Row.new w 25 #[.int .u8 (d.form : Int), .int .u8 (d.len : Int), .int .u8 (d.speed : Int), .int .u16 (d.mute : Int), .int .u16 (d.wait : Int), .int .u8 (d.cancel : Int), .int .u8 (d.stay : Int), .int .u8 (d.join : Int), .slice Ad kd cd]).alloc (.cells (fcells Ao Ac Av no nc nv co cc cv) 30))
  have hr1 := Row.new (w.alloc (.cells #[.int .u8 (d.form : Int), .int .u8 (d.len : Int), .int .u8 (d.speed : Int), .int .u16 (d.mute : Int), .int .u16 (d.wait : Int), .int .u8 (d.cancel : Int), .int .u8 (d.stay : Int), .int .u8 (d.join : Int), .slice Ad kd cd] 25)) 30 (fcells Ao Ac Av no nc nv co cc cv)
  rw [World.size_alloc] at hr1
  have HRX := Lib.hid hr1
  clear hr1
  generalize fullL d = L at *
  go_enter Try.func5, Try.ntmps5
  go_upto_region 1 with (fail)
  obtain ⟨n0, hn0⟩ : ∃ n, n = w.heap.size := ⟨_, rfl⟩
  obtain ⟨n1, hn1⟩ : ∃ n, n = n0 + 1 := ⟨_, rfl⟩
  rw [← hn0] at HRD HRX ⊢
  rw [← hn1] at HRX ⊢
  clear hn0 hn1
  generalize (w.alloc (.cells #[.int .u8 (d.form : Int), .int .u8 (d.len : Int), .int .u8 (d.speed : Int), .int .u16 (d.mute : Int), .int .u16 (d.wait : Int), .int .u8 (d.cancel : Int), .int .u8 (d.stay : Int), .int .u8 (d.join : Int), .slice Ad kd cd] 25)).alloc (.cells (fcells Ao Ac Av no nc nv co cc cv) 30) = W0 at *
  go_wp2_with fail
  refine (comes_any W0).mono ?_; rintro e wA ⟨rfl, hbA⟩
  have HA := Lib.hid (HB0.out.trans (hbA.mono HB0.out.size))
  have HDA := Lib.hid (Below.row hbA HRD.out HRD.out.lt)
  have HXA := Lib.hid (Below.row hbA HRX.out HRX.out.lt)
  clear hbA HB0 HRD HRX
  have f0 := HDA.out.cell 0; have f1 := HDA.out.cell 1; have f2 := HDA.out.cell 2; have f3 := HDA.out.cell 3; have f4 := HDA.out.cell 4; have f5 := HDA.out.cell 5; have f6 := HDA.out.cell 6; have f7 := HDA.out.cell 7; have f8 := HDA.out.cell 8
  simp only [List.getElem?_toArray, List.getElem?_cons_zero, List.getElem?_cons_succ] at f0 f1 f2 f3 f4 f5 f6 f7 f8
  go_wp2_with fail
  refine (HSM.out wA HA.out).mono ?_; rintro e wB ⟨rfl, hbB⟩
  have HB := Lib.hid (HA.out.trans (hbB.mono HA.out.size))
  have HDB := Lib.hid (Below.row hbB HDA.out HDA.out.lt)
  have HXB := Lib.hid (Below.row hbB HXA.out HXA.out.lt)
  clear hbB f0 f1 f2 f3 f4 f5 f6 f7 f8 HA HDA HXA
  cases hs : small d with
  | false =>
    clear HDB HXB
    go_wp2_with fail
    refine (comes_any wB).mono ?_; rintro e wZ ⟨rfl, hbZ⟩
    have HZ := Lib.hid (HB.out.trans (hbZ.mono HB.out.size))
    clear hbZ
    go_wp2_with fail
    go_ret
    exact ⟨rfl, HZ.out⟩
  | true =>
    have g0 := HXB.out.cell 0; have g1 := HXB.out.cell 1; have g2 := HXB.out.cell 2
    simp only [List.getElem?_toArray, List.getElem?_cons_zero, List.getElem?_cons_succ] at g0 g1 g2
    go_wp2_with fail
    refine (HFW.out wB HB.out).mono ?_; rintro e wC ⟨rfl, hbC⟩
    have HC := Lib.hid (HB.out.trans (hbC.mono HB.out.size))
    have HDC := Lib.hid (Below.row hbC HDB.out HDB.out.lt)
    have HXC := Lib.hid (Below.row hbC HXB.out HXB.out.lt)
    clear hbC g0 g1 g2 HB HDB HXB
    cases hfw : fewB f with
    | false =>
      clear HDC HXC
      go_wp2_with fail
      refine (comes_any wC).mono ?_; rintro e wZ ⟨rfl, hbZ⟩
      have HZ := Lib.hid (HC.out.trans (hbZ.mono HC.out.size))
      clear hbZ
      go_wp2_with fail
      go_ret
      exact ⟨rfl, HZ.out⟩
    | true =>

      have HFE := Lib.hid (few_ok hfw)
      have HXS := Lib.hid (views_ok HLG.out hfw)
      clear hfw
      have f0 := HDC.out.cell 0; have f1 := HDC.out.cell 1; have f2 := HDC.out.cell 2; have f3 := HDC.out.cell 3; have f4 := HDC.out.cell 4; have f5 := HDC.out.cell 5; have f6 := HDC.out.cell 6; have f7 := HDC.out.cell 7; have f8 := HDC.out.cell 8
      simp only [List.getElem?_toArray, List.getElem?_cons_zero, List.getElem?_cons_succ] at f0 f1 f2 f3 f4 f5 f6 f7 f8
      go_wp2_with fail
      refine (HFU.out hs wC HC.out).mono ?_; rintro e wD ⟨vL, rfl, hvL, hbD⟩
      obtain ⟨A0, k0, c0, A1, k1, c1, A2, k2, c2, A3, k3, c3, A4, k4, c4, t0, t1, t2, t3, t4, hv, -, -, hk2, -⟩ := hvL.lens
      subst hv
      have hba := (Below.refl wD.heap.size wD).alloc (Nat.le_refl _) (.cells #[.slice A0 k0 c0, .slice A1 k1 c1, .slice A2 k2 c2, .slice A3 k3 c3, .slice A4 k4 c4, .int .i64 t0, .int .i64 t1, .int .i64 t2, .int .i64 t3, .int .i64 t4] 39)
      have hbb := hbD.trans (hba.mono hbD.size)
      have HD := Lib.hid (HC.out.trans (hbb.mono HC.out.size))
      have HXD := Lib.hid (Below.row hbb HXC.out HXC.out.lt)
      have HLD := Lib.hid (Row.new wD 39 #[.slice A0 k0 c0, .slice A1 k1 c1, .slice A2 k2 c2, .slice A3 k3 c3, .slice A4 k4 c4, .int .i64 t0, .int .i64 t1, .int .i64 t2, .int .i64 t3, .int .i64 t4])
      have HVD := Lib.hid (hvL.up hba)
      have HK2 : Hid (L.parts.length = k2 ∧ k2 ≤ 100) := ⟨hk2, by rw [← hk2]; exact HLG.out.fits.p⟩
      have HFD := Lib.hid (HFV.out.up HD.out)
      clear hba hbb hbD hvL hk2 HC HDC HXC HSM HFW HFU f0 f1 f2 f3 f4 f5 f6 f7 f8 hs HFV
      go_upto_region 4 with (fail)
      obtain ⟨nL, hnL⟩ : ∃ n, n = wD.heap.size := ⟨_, rfl⟩
      rw [← hnL] at HLD ⊢
      clear hnL
      generalize wD.alloc (.cells #[.slice A0 k0 c0, .slice A1 k1 c1, .slice A2 k2 c2, .slice A3 k3 c3, .slice A4 k4 c4, .int .i64 t0, .int .i64 t1, .int .i64 t2, .int .i64 t3, .int .i64 t4] 39) = wD at *
      have p0 := HLD.out.cell 0; have p1 := HLD.out.cell 1; have p2 := HLD.out.cell 2; have p3 := HLD.out.cell 3; have p4 := HLD.out.cell 4; have p5 := HLD.out.cell 5; have p6 := HLD.out.cell 6; have p7 := HLD.out.cell 7; have p8 := HLD.out.cell 8; have p9 := HLD.out.cell 9
      simp only [List.getElem?_toArray, List.getElem?_cons_zero, List.getElem?_cons_succ] at p0 p1 p2 p3 p4 p5 p6 p7 p8 p9
      have g0 := HXD.out.cell 0; have g1 := HXD.out.cell 1; have g2 := HXD.out.cell 2
      simp only [List.getElem?_toArray, List.getElem?_cons_zero, List.getElem?_cons_succ] at g0 g1 g2
      go_wp2_with fail
      refine (views_any wD _ L Ao Ac Av no nc nv co cc cv f HVD.out HLG.out.fits HLG.out.secs.1 (by have := HFD.out.vws; rw [HNV.out] at this; exact this) HNV.out HOK.out HFE.out).mono ?_; rintro e wE ⟨Aa, ca, Ab, cb, rfl, hva, hvb, hbE⟩
      obtain ⟨xs, hxs⟩ : ∃ xs, viewsO L.secs.length f.vws = xs := ⟨_, rfl⟩
      rw [hxs] at hva hvb HXS
      obtain ⟨nx, hnx⟩ : ∃ n, xs.length = n := ⟨_, rfl⟩
      rw [hnx] at hva hvb
      have HST : Hid (LSt w n1 nL (fcells Ao Ac Av no nc nv co cc cv) #[.slice A0 k0 c0, .slice A1 k1 c1, .slice A2 k2 c2, .slice A3 k3 c3, .slice A4 k4 c4, .int .i64 t0, .int .i64 t1, .int .i64 t2, .int .i64 t3, .int .i64 t4] (.slice Aa nx ca) (.slice Ab nx cb) Ao Ac Av co cc cv f L xs wE) := ⟨HD.out.trans (hbE.mono HD.out.size), Below.row hbE HXD.out HXD.out.lt, Below.row hbE HLD.out HLD.out.lt, HVD.out.up hbE, HFD.out.up hbE, hva, hvb⟩
      rw [hxs, hnx]
      clear hbE p0 p1 p2 p3 p4 p5 p6 p7 p8 p9 g0 g1 g2 hva hvb hxs hnx HD HXD HLD HVD HFD HFE
      have HOWN : Hid (∀ W, LSt w n1 nL (fcells Ao Ac Av no nc nv co cc cv) #[.slice A0 k0 c0, .slice A1 k1 c1, .slice A2 k2 c2, .slice A3 k3 c3, .slice A4 k4 c4, .int .i64 t0, .int .i64 t1, .int .i64 t2, .int .i64 t3, .int .i64 t4] (.slice Aa nx ca) (.slice Ab nx cb) Ao Ac Av co cc cv f L xs W → Calls Try.prog 15 #[.agg #[.slice A0 k0 c0, .slice A1 k1 c1, .slice A2 k2 c2, .slice A3 k3 c3, .slice A4 k4 c4, .int .i64 t0, .int .i64 t1, .int .i64 t2, .int .i64 t3, .int .i64 t4], .agg (fcells Ao Ac Av no nc nv co cc cv)] W (RetRd (ivals (ownersL f L.parts.length)) W)) := fun W h => h.owners HLG.out HNO.out HOK.out
      have HCLR : Hid (∀ W, LSt w n1 nL (fcells Ao Ac Av no nc nv co cc cv) #[.slice A0 k0 c0, .slice A1 k1 c1, .slice A2 k2 c2, .slice A3 k3 c3, .slice A4 k4 c4, .int .i64 t0, .int .i64 t1, .int .i64 t2, .int .i64 t3, .int .i64 t4] (.slice Aa nx ca) (.slice Ab nx cb) Ao Ac Av co cc cv f L xs W → Calls Try.prog 18 #[.agg #[.slice A0 k0 c0, .slice A1 k1 c1, .slice A2 k2 c2, .slice A3 k3 c3, .slice A4 k4 c4, .int .i64 t0, .int .i64 t1, .int .i64 t2, .int .i64 t3, .int .i64 t4], .agg (fcells Ao Ac Av no nc nv co cc cv)] W (RetRd (cvals (clearL f L.parts.length)) W)) := fun W h => h.clear HLG.out HNC.out
      have HWL : Hid ((ivals (ownersL f L.parts.length)).length = k2) := by show _ = _; rw [HK2.out.1]; simp [ivals, ownersL_len]
      have HCN : Hid ((cvals (clearL f L.parts.length)).length = k2) := by show _ = _; rw [HK2.out.1]; simp [cvals, clearL_len]
      have HWK : Hid ((ownersL f L.parts.length).length = L.parts.length ∧ OkO (ownersL f L.parts.length)) := ⟨ownersL_len _ _, ownersL_ok _ _⟩
      have HCK : Hid ((clearL f L.parts.length).length = L.parts.length) := clearL_len _ _
      generalize clearL f L.parts.length = clr at *
      generalize ownersL f L.parts.length = was at *
      have HSS : Hid (∀ W, LSt w n1 nL (fcells Ao Ac Av no nc nv co cc cv) #[.slice A0 k0 c0, .slice A1 k1 c1, .slice A2 k2 c2, .slice A3 k3 c3, .slice A4 k4 c4, .int .i64 t0, .int .i64 t1, .int .i64 t2, .int .i64 t3, .int .i64 t4] (.slice Aa nx ca) (.slice Ab nx cb) Ao Ac Av co cc cv f L xs W → (W.cell? ⟨nL, 0, none⟩ = some (.slice A0 k0 c0) ∧ W.cell? ⟨nL, 1, none⟩ = some (.slice A1 k1 c1) ∧ W.cell? ⟨nL, 2, none⟩ = some (.slice A2 k2 c2) ∧ W.cell? ⟨nL, 3, none⟩ = some (.slice A3 k3 c3) ∧ W.cell? ⟨nL, 4, none⟩ = some (.slice A4 k4 c4) ∧ W.cell? ⟨nL, 5, none⟩ = some (.int .i64 t0) ∧ W.cell? ⟨nL, 6, none⟩ = some (.int .i64 t1) ∧ W.cell? ⟨nL, 7, none⟩ = some (.int .i64 t2) ∧ W.cell? ⟨nL, 8, none⟩ = some (.int .i64 t3) ∧ W.cell? ⟨nL, 9, none⟩ = some (.int .i64 t4) ∧ W.cell? ⟨n1, 0, none⟩ = some (.slice Ao no co) ∧ W.cell? ⟨n1, 1, none⟩ = some (.slice Ac nc cc) ∧ W.cell? ⟨n1, 2, none⟩ = some (.slice Av nv cv))) := fun W h => ⟨h.rl.cell 0, h.rl.cell 1, h.rl.cell 2, h.rl.cell 3, h.rl.cell 4, h.rl.cell 5, h.rl.cell 6, h.rl.cell 7, h.rl.cell 8, h.rl.cell 9, h.rf.cell 0, h.rf.cell 1, h.rf.cell 2⟩
      go_upto_region 5 with (fail)
      go_cut [8, 9] (fun v1 v2 wx => ∃ A c A' c', v1 = .slice A k2 c ∧ v2 = .slice A' k2 c' ∧ Hid (LSt w n1 nL (fcells Ao Ac Av no nc nv co cc cv) #[.slice A0 k0 c0, .slice A1 k1 c1, .slice A2 k2 c2, .slice A3 k3 c3, .slice A4 k4 c4, .int .i64 t0, .int .i64 t1, .int .i64 t2, .int .i64 t3, .int .i64 t4] (.slice Aa nx ca) (.slice Ab nx cb) Ao Ac Av co cc cv f L xs wx ∧ Rd wx wx.heap.size (.slice A k2 c) (ivals was) ∧ Rd wx wx.heap.size (.slice A' k2 c') (cvals clr)))
      case first =>
        rename_i J K' hJ hK
        have hbd := (Below.refl wE.heap.size wE).drew
        have hst := HST.out.call hbd
        have s0 := HSS.out _ hst
        obtain ⟨r0, r1, r2, r3, r4, r5, r6, r7, r8, r9, r10, r11, r12⟩ := (show _ from s0)
        clear hbd
        go_region_held3 (fun w' => (w'.cell? ⟨nL, 0, none⟩ = some (.slice A0 k0 c0) ∧ w'.cell? ⟨nL, 1, none⟩ = some (.slice A1 k1 c1) ∧ w'.cell? ⟨nL, 2, none⟩ = some (.slice A2 k2 c2) ∧ w'.cell? ⟨nL, 3, none⟩ = some (.slice A3 k3 c3) ∧ w'.cell? ⟨nL, 4, none⟩ = some (.slice A4 k4 c4) ∧ w'.cell? ⟨nL, 5, none⟩ = some (.int .i64 t0) ∧ w'.cell? ⟨nL, 6, none⟩ = some (.int .i64 t1) ∧ w'.cell? ⟨nL, 7, none⟩ = some (.int .i64 t2) ∧ w'.cell? ⟨nL, 8, none⟩ = some (.int .i64 t3) ∧ w'.cell? ⟨nL, 9, none⟩ = some (.int .i64 t4) ∧ w'.cell? ⟨n1, 0, none⟩ = some (.slice Ao no co) ∧ w'.cell? ⟨n1, 1, none⟩ = some (.slice Ac nc cc) ∧ w'.cell? ⟨n1, 2, none⟩ = some (.slice Av nv cv))) (first | (with_reducible assumption) | (with_reducible exact s0) | go_keep) (first | (go_at_call 18; (with_reducible refine (HCLR.out _ hst).mono ?_); rintro y v1 ⟨A9, c9, rfl, hr, hb⟩; rw [HCN.out] at hr; rw [HCN.out]; have hst := LSt.call hst hb; have s0 := HSS.out _ hst; (try have hwA := Rd.up hwA hb); have hcA := hr; clear hr hb) | (go_at_call 15; (with_reducible refine (HOWN.out _ hst).mono ?_); rintro y v1 ⟨A9, c9, rfl, hr, hb⟩; rw [HWL.out] at hr; rw [HWL.out]; have hst := LSt.call hst hb; have s0 := HSS.out _ hst; (try have hcA := Rd.up hcA hb); have hwA := hr; clear hr hb))
        all_goals (refine hK _ _ (Met.intro (hJ _ _ ?_)); (repeat apply Exists.intro); refine ⟨?rel, rfl⟩; case rel => exact ⟨_, _, _, _, rfl, rfl, hst, hwA, hcA⟩)
      case rest =>
      obtain ⟨Aw, cw, Ac2, cc2, rfl, rfl, HCX⟩ := hcut
      clear HST HOWN HCLR
      have p0 := HCX.out.1.rl.cell 0; have p1 := HCX.out.1.rl.cell 1; have p2 := HCX.out.1.rl.cell 2; have p3 := HCX.out.1.rl.cell 3; have p4 := HCX.out.1.rl.cell 4; have p5 := HCX.out.1.rl.cell 5; have p6 := HCX.out.1.rl.cell 6; have p7 := HCX.out.1.rl.cell 7; have p8 := HCX.out.1.rl.cell 8; have p9 := HCX.out.1.rl.cell 9
      simp only [List.getElem?_toArray, List.getElem?_cons_zero, List.getElem?_cons_succ] at p0 p1 p2 p3 p4 p5 p6 p7 p8 p9
      have HNX := Lib.hid (HCX.out.1.next HLG.out HXS.out HCX.out.2.1 HCX.out.2.2 HWK.out.1 HCK.out HWK.out.2)
      have HNN : Hid ((nextO L was clr xs).length = k2 ∧ ∀ p (hp : p < (nextO L was clr xs).length), (nextO L was clr xs)[p] = partO L was clr xs p) := ⟨by rw [nextO_len]; exact HK2.out.1, fun p hp => nextO_get hp⟩
      generalize nextO L was clr xs = nn at *
      go_wp2_with fail
      refine HNX.out.mono ?_; rintro e wN ⟨gn, hy, -, hrn, hbN⟩
      rw [HNN.out.1] at hy
      subst hy
      have HJ0 : Hid (LSt w n1 nL (fcells Ao Ac Av no nc nv co cc cv) #[.slice A0 k0 c0, .slice A1 k1 c1, .slice A2 k2 c2, .slice A3 k3 c3, .slice A4 k4 c4, .int .i64 t0, .int .i64 t1, .int .i64 t2, .int .i64 t3, .int .i64 t4] (.slice Aa nx ca) (.slice Ab nx cb) Ao Ac Av co cc cv f L xs wN ∧ Rd wN wN.heap.size (.slice Aw k2 cw) (ivals was) ∧ Rd wN wN.heap.size (.slice Ac2 k2 cc2) (cvals clr) ∧ Row wN gn 3 (ivals nn).toArray) := ⟨HCX.out.1.call hbN, HCX.out.2.1.up hbN, HCX.out.2.2.up hbN, hrn⟩
      clear hbN hrn p0 p1 p2 p3 p4 p5 p6 p7 p8 p9 HCX HNX
      have p2 := HJ0.out.1.rl.cell 2
      simp only [List.getElem?_toArray, List.getElem?_cons_zero, List.getElem?_cons_succ] at p2
      have hkk : ((k2 : Int) == (k2 : Int)) = true := by simp
      have hk100 := HK2.out.2
      go_wp2_with fail
      clear p2 hkk
      go_loopw [11] (fun k wr => ∃ i : Nat, i ≤ k2 ∧ k = .int .i64 i ∧ Hid (LSt w n1 nL (fcells Ao Ac Av no nc nv co cc cv) #[.slice A0 k0 c0, .slice A1 k1 c1, .slice A2 k2 c2, .slice A3 k3 c3, .slice A4 k4 c4, .int .i64 t0, .int .i64 t1, .int .i64 t2, .int .i64 t3, .int .i64 t4] (.slice Aa nx ca) (.slice Ab nx cb) Ao Ac Av co cc cv f L xs wr ∧ Rd wr wr.heap.size (.slice Aw k2 cw) (ivals was) ∧ Rd wr wr.heap.size (.slice Ac2 k2 cc2) (cvals clr) ∧ Row wr gn 3 (ivals nn).toArray)) (fun k _ => k2 - (RowKit.intOf k).toNat)
      case atStart => exact ⟨0, Nat.zero_le _, rfl, HJ0.out⟩
      case round =>
        clear HJ0
        obtain ⟨i, hi, rfl, HJ⟩ := hrel
        by_cases hlt : i < k2
        · have hli : (i : Int) < (k2 : Int) := by omega
          have hin : i < nn.length := by have := HNN.out.1; omega
          have hiw : i < was.length := by have h1 := HWK.out.1; have h2 := HK2.out.1; omega
          have hic : i < clr.length := by have h1 := HCK.out; have h2 := HK2.out.1; omega
          have hip : i < L.parts.length := by have := HK2.out.1; omega
          have HPS : Hid (∀ h : 0 ≤ nn[i], (∃ v, findV xs nn[i] = some v ∧ v.2.1 = true ∧ meetsB L.parts[i] v.2.2 = true) ∧ (∀ b ∈ besideL L (i : Int), was.getD b.toNat 0 = nn[i] ∨ was.getD b.toNat 0 = -2) ∧ (was.getD i 0 = nn[i] ∨ ∃ b ∈ besideL L (i : Int), was.getD b.toNat 0 = nn[i])) := fun h => by
            have e := HNN.out.2 i hin
            have hs : L.parts.getD i [] = L.parts[i] := by simp [List.getD, hip]
            have hp := part_sole L was clr xs i (by rw [← e]; exact h)
            rw [← e, hs] at hp
            exact hp
          have HPE : Hid ((nn[i] == -2) = clr.getD i false) := by show _ = _; rw [HNN.out.2 i hin]; exact part_empty L was clr xs i
          have HPD : Hid (was.getD i 0 = -1 → clr.getD i false = false → nn[i] = -1) := fun h1 h2 => by rw [HNN.out.2 i hin]; exact part_dark2 L was clr xs i h1 h2
          have HNC1 : Hid (∀ W, Row W gn 3 (ivals nn).toArray → W.cell? ⟨gn, i, none⟩ = some (.int .i64 nn[i])) := fun W h => by rw [h.cell i]; simp [ivals, hin]
          obtain ⟨bw, ow, hAw, hbw, qw⟩ := HJ.out.2.1.at (i := i) (u := .int .i64 (was.getD i 0)) (by simp [ivals, hiw, List.getD])
          obtain ⟨bc, oc, hAc, hbc, qc⟩ := HJ.out.2.2.1.at (i := i) (u := .bool (clr.getD i false)) (by simp [cvals, hic, List.getD])
          have hq0 := HNC1.out wr HJ.out.2.2.2
          obtain ⟨bp, op, -, hA2, -, -⟩ := HJ.out.1.lay.part_at i hip
          subst hAw hAc hA2
          have HIP := Lib.hid hip
          have HWC : Hid (∀ W, Rd W W.heap.size (.slice (some ⟨bw, ow, none⟩) k2 cw) (ivals was) → ∀ q : Nat, q < k2 → W.cell? ⟨bw, ow + q, none⟩ = some (.int .i64 (was.getD q 0))) := fun W h q hq => by
            have hqw : q < was.length := by have h1 := HWK.out.1; have h2 := HK2.out.1; omega
            obtain ⟨b, o, hA, _, qq⟩ := h.at (i := q) (u := .int .i64 (was.getD q 0)) (by simp [ivals, hqw, List.getD])
            injection hA with hA
            injection hA with e1 e2
            subst e1 e2
            exact qq
          obtain ⟨x, hx⟩ : ∃ x, nn[i] = x := ⟨_, rfl⟩
          rw [hx] at HPS HPE HPD HNC1 hq0
          obtain ⟨z, hz⟩ : ∃ z, was.getD i 0 = z := ⟨_, rfl⟩
          have HZ := Lib.hid hz
          rw [hz] at HPD qw
          obtain ⟨cbo, hcb⟩ : ∃ z, clr.getD i false = z := ⟨_, rfl⟩
          rw [hcb] at HPE HPD qc
          clear hx hz hcb
          go_upto_region 12 with (fail)
          go_cut [92] (fun v wx => v = .bool false ∧ ∃ n, wx = wr.drewN n)
          case first =>
            rename_i J K' hJ hK
            cases cbo with
            | true =>
              have hx2 : x = -2 := by have := HPE.out; simpa using this
              subst hx2
              by_cases hz1 : z = -1
              · subst hz1
                go_quiet (fail)
                refine hK _ _ (Met.intro (hJ _ _ ?_)); (repeat apply Exists.intro); refine ⟨?rel, rfl⟩; case rel => exact ⟨rfl, _, rfl⟩
              · have hz2 : (z == -1) = false := by simpa using hz1
                clear hz1
                go_quiet (fail)
                refine hK _ _ (Met.intro (hJ _ _ ?_)); (repeat apply Exists.intro); refine ⟨?rel, rfl⟩; case rel => exact ⟨rfl, _, rfl⟩
            | false =>
              have hx2 : (x == -2) = false := HPE.out
              by_cases hz1 : z = -1
              · subst hz1
                have hx1 : x = -1 := HPD.out rfl rfl
                subst hx1
                go_quiet (fail)
                refine hK _ _ (Met.intro (hJ _ _ ?_)); (repeat apply Exists.intro); refine ⟨?rel, rfl⟩; case rel => exact ⟨rfl, _, rfl⟩
              · have hz2 : (z == -1) = false := by simpa using hz1
                clear hz1
                go_quiet (fail)
                refine hK _ _ (Met.intro (hJ _ _ ?_)); (repeat apply Exists.intro); refine ⟨?rel, rfl⟩; case rel => exact ⟨rfl, _, rfl⟩
          case rest =>
          obtain ⟨rfl, m0, hwc⟩ := hcut
          have hb0 : Below wr.heap.size wr wc := by rw [hwc]; exact Below.drewN (Below.refl _ _) m0
          have HJ1 : Hid (LSt w n1 nL (fcells Ao Ac Av no nc nv co cc cv) #[.slice A0 k0 c0, .slice A1 k1 c1, .slice (some ⟨bp, op, none⟩) k2 c2, .slice A3 k3 c3, .slice A4 k4 c4, .int .i64 t0, .int .i64 t1, .int .i64 t2, .int .i64 t3, .int .i64 t4] (.slice Aa nx ca) (.slice Ab nx cb) Ao Ac Av co cc cv f L xs wc ∧ Rd wc wc.heap.size (.slice (some ⟨bw, ow, none⟩) k2 cw) (ivals was) ∧ Rd wc wc.heap.size (.slice (some ⟨bc, oc, none⟩) k2 cc2) (cvals clr) ∧ Row wc gn 3 (ivals nn).toArray) := ⟨HJ.out.1.call hb0, HJ.out.2.1.up hb0, HJ.out.2.2.1.up hb0, Below.row hb0 HJ.out.2.2.2 HJ.out.2.2.2.lt⟩
          clear hb0 hwc HJ qw qc hq0 HPE HPD
          have hq1 := HNC1.out wc HJ1.out.2.2.2
          by_cases hx0 : 0 ≤ x
          · have hxn : ¬ x < 0 := by omega
            obtain ⟨⟨vv, hfv, hsu, hme⟩, hbs, hfd⟩ := HPS.out hx0
            have HBS := Lib.hid hbs; have HFD := Lib.hid hfd; have HME := Lib.hid hme
            have HFI := Lib.hid (refFind_any wc wc.heap.size _ xs x HJ1.out.1.vb (Nat.le_refl _) HXS.out.len)
            rw [hfv] at HFI
            have HVM := Lib.hid (HXS.out.span vv (List.mem_of_find?_eq_some hfv))
            obtain ⟨v0, v1, v2⟩ := vv
            simp only at hsu
            subst hsu
            clear hfv hbs hfd hme HPS
            go_wp2_with fail
            refine HFI.out.mono ?_; rintro e w3 ⟨A5, c5, rfl, h5, hb3⟩
            have hba := (Below.refl w3.heap.size w3).alloc (Nat.le_refl _) (.cells #[.int .i64 v0, .bool true, .slice A5 v2.length c5] 55)
            have hbb := hb3.trans (hba.mono hb3.size)
            have HJ3 : Hid (LSt w n1 nL (fcells Ao Ac Av no nc nv co cc cv) #[.slice A0 k0 c0, .slice A1 k1 c1, .slice (some ⟨bp, op, none⟩) k2 c2, .slice A3 k3 c3, .slice A4 k4 c4, .int .i64 t0, .int .i64 t1, .int .i64 t2, .int .i64 t3, .int .i64 t4] (.slice Aa nx ca) (.slice Ab nx cb) Ao Ac Av co cc cv f L xs (w3.alloc (.cells #[.int .i64 v0, .bool true, .slice A5 v2.length c5] 55)) ∧ Rd (w3.alloc (.cells #[.int .i64 v0, .bool true, .slice A5 v2.length c5] 55)) (w3.alloc (.cells #[.int .i64 v0, .bool true, .slice A5 v2.length c5] 55)).heap.size (.slice (some ⟨bw, ow, none⟩) k2 cw) (ivals was) ∧ Rd (w3.alloc (.cells #[.int .i64 v0, .bool true, .slice A5 v2.length c5] 55)) (w3.alloc (.cells #[.int .i64 v0, .bool true, .slice A5 v2.length c5] 55)).heap.size (.slice (some ⟨bc, oc, none⟩) k2 cc2) (cvals clr) ∧ Row (w3.alloc (.cells #[.int .i64 v0, .bool true, .slice A5 v2.length c5] 55)) gn 3 (ivals nn).toArray) := ⟨HJ1.out.1.call hbb, HJ1.out.2.1.up hbb, HJ1.out.2.2.1.up hbb, Below.row hbb HJ1.out.2.2.2 HJ1.out.2.2.2.lt⟩
            have HV3 := Lib.hid (Row.new w3 55 #[.int .i64 v0, .bool true, .slice A5 v2.length c5])
            have h5' : Rd w3 w3.heap.size (.slice A5 v2.length c5) (ivals v2) := Rd.mono h5 hb3.size (fun _ _ => rfl)
            have HS3 := Lib.hid (h5'.up hba)
            clear hb3 hba hbb h5 h5' HFI HJ1 hq1
            obtain ⟨vl2, hvl2⟩ : ∃ n, v2.length = n := ⟨_, rfl⟩
            have HVL := Lib.hid hvl2
            rw [hvl2] at HJ3 HV3 HS3
            go_upto_region 16 with (fail)
            try simp only [hvl2]
            clear hvl2
            obtain ⟨nv3, hnv3⟩ : ∃ n, n = w3.heap.size := ⟨_, rfl⟩
            rw [← hnv3] at HV3 ⊢
            clear hnv3
            generalize w3.alloc (.cells #[.int .i64 v0, .bool true, .slice A5 vl2 c5] 55) = w4 at *
            have q1 := HWC.out w4 HJ3.out.2.1 i hlt
            rw [HZ.out] at q1
            have q2 := HNC1.out w4 HJ3.out.2.2.2
            go_quiet (fail)
            have hbq : Below w4.heap.size w4 (w4.drewN nq) := Below.drewN (Below.refl _ _) nq
            have HJ5 : Hid (LSt w n1 nL (fcells Ao Ac Av no nc nv co cc cv) #[.slice A0 k0 c0, .slice A1 k1 c1, .slice (some ⟨bp, op, none⟩) k2 c2, .slice A3 k3 c3, .slice A4 k4 c4, .int .i64 t0, .int .i64 t1, .int .i64 t2, .int .i64 t3, .int .i64 t4] (.slice Aa nx ca) (.slice Ab nx cb) Ao Ac Av co cc cv f L xs (w4.drewN nq) ∧ Rd (w4.drewN nq) (w4.drewN nq).heap.size (.slice (some ⟨bw, ow, none⟩) k2 cw) (ivals was) ∧ Rd (w4.drewN nq) (w4.drewN nq).heap.size (.slice (some ⟨bc, oc, none⟩) k2 cc2) (cvals clr) ∧ Row (w4.drewN nq) gn 3 (ivals nn).toArray) := ⟨HJ3.out.1.call hbq, HJ3.out.2.1.up hbq, HJ3.out.2.2.1.up hbq, Below.row hbq HJ3.out.2.2.2 HJ3.out.2.2.2.lt⟩
            have HV5 := Lib.hid (Below.row hbq HV3.out HV3.out.lt)
            have HS5 := Lib.hid (HS3.out.up hbq)
            clear hbq HJ3 HV3 HS3 q1 q2
            generalize w4.drewN nq = w5 at *
            have HFN : Hid (∀ k, fndO was (was.getD i 0 == x) x (besideL L (i : Int)) k = fndO was (z == x) x (besideL L (i : Int)) k) := fun k => by rw [HZ.out]
            have HFA : Hid (fndO was (z == x) x (besideL L (i : Int)) (besideL L (i : Int)).length = true) := by show _ = _; rw [← HFN.out]; exact fndO_all was i x _ HFD.out
            have p0 := HJ5.out.1.rl.cell 0; have p1 := HJ5.out.1.rl.cell 1; have p2 := HJ5.out.1.rl.cell 2; have p3 := HJ5.out.1.rl.cell 3; have p4 := HJ5.out.1.rl.cell 4; have p5 := HJ5.out.1.rl.cell 5; have p6 := HJ5.out.1.rl.cell 6; have p7 := HJ5.out.1.rl.cell 7; have p8 := HJ5.out.1.rl.cell 8; have p9 := HJ5.out.1.rl.cell 9
            simp only [List.getElem?_toArray, List.getElem?_cons_zero, List.getElem?_cons_succ] at p0 p1 p2 p3 p4 p5 p6 p7 p8 p9
            go_wp2_with fail
            refine (refBeside_any w5 w5.heap.size _ L (i : Int) HJ5.out.1.lay (Nat.le_refl _) HLG.out.fits).mono ?_; rintro e w6 ⟨vb6, rfl, hob, hb6⟩
            obtain ⟨A6, c6, hv6⟩ := own_slice hob
            subst hv6
            have HJ6 : Hid (LSt w n1 nL (fcells Ao Ac Av no nc nv co cc cv) #[.slice A0 k0 c0, .slice A1 k1 c1, .slice (some ⟨bp, op, none⟩) k2 c2, .slice A3 k3 c3, .slice A4 k4 c4, .int .i64 t0, .int .i64 t1, .int .i64 t2, .int .i64 t3, .int .i64 t4] (.slice Aa nx ca) (.slice Ab nx cb) Ao Ac Av co cc cv f L xs w6 ∧ Rd w6 w6.heap.size (.slice (some ⟨bw, ow, none⟩) k2 cw) (ivals was) ∧ Rd w6 w6.heap.size (.slice (some ⟨bc, oc, none⟩) k2 cc2) (cvals clr) ∧ Row w6 gn 3 (ivals nn).toArray) := ⟨HJ5.out.1.call hb6, HJ5.out.2.1.up hb6, HJ5.out.2.2.1.up hb6, Below.row hb6 HJ5.out.2.2.2 HJ5.out.2.2.2.lt⟩
            have HV6 := Lib.hid (Below.row hb6 HV5.out HV5.out.lt)
            have HS6 := Lib.hid (HS5.out.up hb6)
            have HB6 := Lib.hid (Rd.of_own hob)
            have HBI : Hid (∀ b ∈ besideL L (i : Int), ∃ k : Nat, b = (k : Int) ∧ k < k2) := fun b hb => by obtain ⟨k, h1, h2⟩ := besideL_in hb; exact ⟨k, h1, by have := HK2.out.1; omega⟩
            have hbl := besideL_len HLG.out.fits (i : Int)
            clear hb6 hob HJ5 HV5 HS5 p0 p1 p2 p3 p4 p5 p6 p7 p8 p9 HFN HFD
            generalize besideL L (i : Int) = bs at *
            obtain ⟨m, hm⟩ : ∃ m, bs.length = m := ⟨_, rfl⟩
            rw [hm] at HB6 hbl HFA ⊢
            have HM := Lib.hid hm
            clear hm
            have q2 := HNC1.out w6 HJ6.out.2.2.2
            have HZ0 : Hid (fndO was (z == x) x bs 0 = (z == x)) := by show _ = _; simp [fndO]
            go_wp2_with fail
            go_loop [14, 16] (fun t k => ∃ j : Nat, j ≤ m ∧ k = .int .i64 j ∧ t = .bool (fndO was (z == x) x bs j)) (fun _ k => m - (RowKit.intOf k).toNat)
            case atStart => exact ⟨0, Nat.zero_le _, rfl, by rw [HZ0.out]⟩
            case round =>
              obtain ⟨j, hj, rfl, rfl⟩ := hrel
              by_cases hjl : j < m
              · have hjli : (j : Int) < (m : Int) := by omega
                have hjb : j < bs.length := by have := HM.out; omega
                obtain ⟨bb, ob, hAb, -, qb⟩ := HB6.out.at (i := j) (u := .int .i64 bs[j]) (by simp [ivals, hjb])
                subst hAb
                have HSU : Hid (fndO was (z == x) x bs (j + 1) = (fndO was (z == x) x bs j || (was.getD bs[j].toNat 0 == x))) := fndO_succ was (z == x) x bs j hjb
                have ho := HBS.out bs[j] (List.getElem_mem hjb)
                obtain ⟨k, hk, hk2⟩ := HBI.out bs[j] (List.getElem_mem hjb)
                rw [hk] at qb HSU ho
                rw [Int.toNat_natCast] at HSU ho
                clear hk
                have qw2 := HWC.out w6 HJ6.out.2.1 k hk2
                generalize was.getD k 0 = o at *
                obtain ⟨fn1, hfn1⟩ : ∃ b, fndO was (z == x) x bs (j + 1) = b := ⟨_, rfl⟩
                have HFE := Lib.hid hfn1
                rw [hfn1] at HSU
                clear hfn1
                generalize fndO was (z == x) x bs j = fn at *
                by_cases hox : o = x
                · have hox2 : (o == x) = true := by simpa using hox
                  have HF1 : Hid (fn1 = true) := by show _ = _; rw [HSU.out, hox2, Bool.or_true]
                  clear ho
                  cases fn with
                  | true =>
                    subst hox
                    go_wp2_with fail
                    go_roundw
                    case rel => exact ⟨j + 1, by omega, by go_num, by rw [HFE.out, show fn1 = true from HF1.out]⟩
                    case measure => simp [RowKit.intOf]; omega
                  | false =>
                    subst hox
                    go_wp2_with fail
                    go_roundw
                    case rel => exact ⟨j + 1, by omega, by go_num, by rw [HFE.out, show fn1 = true from HF1.out]⟩
                    case measure => simp [RowKit.intOf]; omega
                · have hox2 : (o == x) = false := by simpa using hox
                  have ho2 : o = -2 := by rcases ho with e | e; exact absurd e hox; exact e
                  have HF1 : Hid (fn1 = fn) := by show _ = _; rw [HSU.out, hox2, Bool.or_false]
                  clear ho hox
                  subst ho2
                  cases fn with
                  | true =>
                    go_wp2_with fail
                    go_roundw
                    case rel => exact ⟨j + 1, by omega, by go_num, by rw [HFE.out, show fn1 = true from HF1.out]⟩
                    case measure => simp [RowKit.intOf]; omega
                  | false =>
                    go_wp2_with fail
                    go_roundw
                    case rel => exact ⟨j + 1, by omega, by go_num, by rw [HFE.out, show fn1 = false from HF1.out]⟩
                    case measure => simp [RowKit.intOf]; omega
              · have hjli : ¬ (j : Int) < (m : Int) := by omega
                have hje : fndO was (z == x) x bs j = true := by rw [show j = m by omega]; exact HFA.out
                rw [hje]
                clear hje q2
                go_upto_region 25 with (fail)
                go_cut [172] (fun v wx => v = .bool false ∧ Hid (LSt w n1 nL (fcells Ao Ac Av no nc nv co cc cv) #[.slice A0 k0 c0, .slice A1 k1 c1, .slice (some ⟨bp, op, none⟩) k2 c2, .slice A3 k3 c3, .slice A4 k4 c4, .int .i64 t0, .int .i64 t1, .int .i64 t2, .int .i64 t3, .int .i64 t4] (.slice Aa nx ca) (.slice Ab nx cb) Ao Ac Av co cc cv f L xs wx ∧ Rd wx wx.heap.size (.slice (some ⟨bw, ow, none⟩) k2 cw) (ivals was) ∧ Rd wx wx.heap.size (.slice (some ⟨bc, oc, none⟩) k2 cc2) (cvals clr) ∧ Row wx gn 3 (ivals nn).toArray))
                case first =>
                  rename_i J K' hJ hK
                  obtain ⟨bp', op', vsec, hA2', qp, hq⟩ := HJ6.out.1.lay.part_at i HIP.out
                  injection hA2' with hA2'
                  injection hA2' with e1 e2
                  subst e1 e2
                  have hln := HLG.out.fits.r L.parts[i] (List.getElem_mem HIP.out)
                  obtain ⟨As, cs, rfl, -, -⟩ := id hq
                  have hsl : (ivals L.parts[i]).length = L.parts[i].length := by simp [ivals]
                  have hq2 : Rd w6 w6.heap.size (.slice As L.parts[i].length cs) (ivals L.parts[i]) := by rw [← hsl]; exact hq
                  have qp2 : w6.cell? ⟨bp, op + i, none⟩ = some (.slice As L.parts[i].length cs) := by rw [← hsl]; exact qp
                  clear hq qp
                  have hbd := (Below.refl w6.heap.size w6).drew
                  have HMT := Lib.hid (refMeets_any w6.drew _ _ v2 L.parts[i] (HS6.out.up hbd) (hq2.up hbd) HVM.out.1 (by omega))
                  have hmeq : meetsB L.parts[i] v2 = true := HME.out
                  rw [hmeq] at HMT
                  clear hmeq
                  generalize L.parts[i].length = sl at *
                  have HST7 := Lib.hid (HJ6.out.1.call hbd)
                  have HA7 : Hid (LSt w n1 nL (fcells Ao Ac Av no nc nv co cc cv) #[.slice A0 k0 c0, .slice A1 k1 c1, .slice (some ⟨bp, op, none⟩) k2 c2, .slice A3 k3 c3, .slice A4 k4 c4, .int .i64 t0, .int .i64 t1, .int .i64 t2, .int .i64 t3, .int .i64 t4] (.slice Aa nx ca) (.slice Ab nx cb) Ao Ac Av co cc cv f L xs w6.drew ∧ Rd w6.drew w6.drew.heap.size (.slice (some ⟨bw, ow, none⟩) k2 cw) (ivals was) ∧ Rd w6.drew w6.drew.heap.size (.slice (some ⟨bc, oc, none⟩) k2 cc2) (cvals clr) ∧ Row w6.drew gn 3 (ivals nn).toArray) := ⟨HJ6.out.1.call hbd, HJ6.out.2.1.up hbd, HJ6.out.2.2.1.up hbd, Below.row hbd HJ6.out.2.2.2 HJ6.out.2.2.2.lt⟩
                  have s0 : w6.drew.cell? ⟨nL, 2, none⟩ = some (.slice (some ⟨bp, op, none⟩) k2 c2) ∧ w6.drew.cell? ⟨nv3, 1, none⟩ = some (.bool true) ∧ w6.drew.cell? ⟨nv3, 2, none⟩ = some (.slice A5 vl2 c5) ∧ w6.drew.cell? ⟨bp, op + i, none⟩ = some (.slice As sl cs) := ⟨HST7.out.rl.cell 2, HV6.out.cell 1, HV6.out.cell 2, qp2⟩
                  obtain ⟨r0, r1, r2, r3⟩ := (show _ from s0)
                  clear hq2 qp2 hln hsl hbd
                  go_region_held3 (fun w' => w'.cell? ⟨nL, 2, none⟩ = some (.slice (some ⟨bp, op, none⟩) k2 c2) ∧ w'.cell? ⟨nv3, 1, none⟩ = some (.bool true) ∧ w'.cell? ⟨nv3, 2, none⟩ = some (.slice A5 vl2 c5) ∧ w'.cell? ⟨bp, op + i, none⟩ = some (.slice As sl cs)) (first | (with_reducible assumption) | (with_reducible exact s0) | go_keep) (first | (go_at_call 22; (with_reducible refine HMT.out.mono ?_); rintro y u1 ⟨rfl, hb⟩; have s9 : u1.cell? ⟨nL, 2, none⟩ = some (.slice (some ⟨bp, op, none⟩) k2 c2) ∧ u1.cell? ⟨nv3, 1, none⟩ = some (.bool true) ∧ u1.cell? ⟨nv3, 2, none⟩ = some (.slice A5 vl2 c5) ∧ u1.cell? ⟨bp, op + i, none⟩ = some (.slice As sl cs) := ⟨(hb.cell (p := ⟨nL, 2, none⟩) (cell_lt r0)).trans r0, (hb.cell (p := ⟨nv3, 1, none⟩) (cell_lt r1)).trans r1, (hb.cell (p := ⟨nv3, 2, none⟩) (cell_lt r2)).trans r2, (hb.cell (p := ⟨bp, op + i, none⟩) (cell_lt r3)).trans r3⟩; have HA8 : LSt w n1 nL (fcells Ao Ac Av no nc nv co cc cv) #[.slice A0 k0 c0, .slice A1 k1 c1, .slice (some ⟨bp, op, none⟩) k2 c2, .slice A3 k3 c3, .slice A4 k4 c4, .int .i64 t0, .int .i64 t1, .int .i64 t2, .int .i64 t3, .int .i64 t4] (.slice Aa nx ca) (.slice Ab nx cb) Ao Ac Av co cc cv f L xs u1 ∧ Rd u1 u1.heap.size (.slice (some ⟨bw, ow, none⟩) k2 cw) (ivals was) ∧ Rd u1 u1.heap.size (.slice (some ⟨bc, oc, none⟩) k2 cc2) (cvals clr) ∧ Row u1 gn 3 (ivals nn).toArray := ⟨HA7.out.1.call hb, HA7.out.2.1.up hb, HA7.out.2.2.1.up hb, Below.row hb HA7.out.2.2.2 HA7.out.2.2.2.lt⟩; clear hb))
                  all_goals (refine hK _ _ (Met.intro (hJ _ _ ?_)); (repeat apply Exists.intro); refine ⟨?rel, rfl⟩; case rel => exact ⟨rfl, HA8⟩)
                case rest =>
                obtain ⟨rfl, HJ7⟩ := hcut
                go_wp2_with fail
                go_roundw
                case rel => exact ⟨i + 1, by omega, by go_num, HJ7.out⟩
                case measure => simp [RowKit.intOf]; omega
          · have hxn : x < 0 := by omega
            clear HPS
            go_wp2_with fail
            go_roundw
            case rel => exact ⟨i + 1, by omega, by go_num, HJ1.out⟩
            case measure => simp [RowKit.intOf]; omega
        · have hli : ¬ (i : Int) < (k2 : Int) := by omega
          go_wp2_with fail
          go_ret
          exact ⟨rfl, HJ.out.1.bel⟩

end Go.Proofs.Ythnjilbfkfekhaa
