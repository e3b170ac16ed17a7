/- The law OwnDeclares. -/
import Derived.Test.YthnjilbfkfekhaaS1
import Derived.Test.YthnjilbfkfekhaaG2
namespace Go.Proofs.Ythnjilbfkfekhaa
open Go.RowKit Fl
set_option maxRecDepth 100000

theorem full_parts (d : Dr) : 0 < (fullL d).parts.length := makeParts_pos d _ (by have := makeEnds_len d; omega)

set_option maxHeartbeats 16000000 in
theorem lawDeclares (w : World) (d : Dr) (vr : Value) (f : Fd) (Ao Ac Av : Option Addr) (co cc cv : Nat) (part tr : Int) (near : Bool) (hd : DrOk d) (hbr : BRows w w.heap.size vr d.routes) (hl : d.routes.length ≤ 9223372036854775807) (hrl : ∀ r ∈ d.routes, r.length ≤ 9223372036854775807)
    (hfv : FdV w w.heap.size Ao Ac Av co cc cv f) (hfo : FdOk f) (hfl : FdLen f) :
    Calls Try.prog 6 #[drV d vr, .agg (fcells Ao Ac Av f.own.length f.clr.length f.vws.length co cc cv), .int .i64 part, .int .i64 tr, .bool near] w (RetL true w) := by
  obtain ⟨Ad, kd, cd, hvr⟩ : ∃ A k c, vr = .slice A k c := by obtain ⟨vs, ⟨A, c, e, _⟩, _⟩ := hbr; exact ⟨A, _, c, e⟩
  subst hvr
  have HSM : Hid (∀ W, Below w.heap.size w W → Calls Try.prog 11 #[.agg #[.int .u8 (d.form : Int), .int .u8 (d.len : Int), .int .u8 (d.speed : Int), .int .u16 (d.mute : Int), .int .u16 (d.wait : Int), .int .u8 (d.cancel : Int), .int .u8 (d.stay : Int), .int .u8 (d.join : Int), .slice Ad kd cd]] W (RetL (small d) W)) := fun W hW => small_any W d (.slice Ad kd cd) (hbr.up hW) hl hrl
  have HFW : Hid (∀ W, Below w.heap.size w W → Calls Try.prog 12 #[.agg (fcells Ao Ac Av f.own.length f.clr.length f.vws.length co cc cv)] W (RetL (fewB f) W)) := fun W hW => few_any W Ao Ac Av co cc cv f (hfv.up hW) hfl.vws hfl.span
  have HFU : Hid (small d = true → ∀ W, Below w.heap.size w W → Calls Try.prog 13 #[.agg #[.int .u8 (d.form : Int), .int .u8 (d.len : Int), .int .u8 (d.speed : Int), .int .u16 (d.mute : Int), .int .u16 (d.wait : Int), .int .u8 (d.cancel : Int), .int .u8 (d.stay : Int), .int .u8 (d.join : Int), .slice Ad kd cd]] W (RetLay (fullL d) W)) := fun hs W hW => full_any W d (.slice Ad kd cd) hd (hbr.up hW) hs
  have HLG := Lib.hid (full_g d)
  have HKP := Lib.hid (full_parts d)
  have HFV := Lib.hid hfv
  have HOK := Lib.hid hfo
  have HFL := Lib.hid hfl
  clear hbr hl hrl hd hfv hfo hfl
  unfold drV
  obtain ⟨no, hno⟩ : ∃ n, f.own.length = n := ⟨_, rfl⟩
  obtain ⟨nc, hnc⟩ : ∃ n, f.clr.length = n := ⟨_, rfl⟩
  obtain ⟨nv, hnv⟩ : ∃ n, f.vws.length = n := ⟨_, rfl⟩
  have HNO := Lib.hid hno; have HNC := Lib.hid hnc; have HNV := Lib.hid hnv
  rw [hno, hnc, hnv] at HFW ⊢
  clear hno hnc hnv
  have HB0 := Lib.hid (below2 w (.cells #[.int .u8 (d.form : Int), .int .u8 (d.len : Int), .int .u8 (d.speed : Int), .int .u16 (d.mute : Int), .int .u16 (d.wait : Int), .int .u8 (d.cancel : Int), .int .u8 (d.stay : Int), .int .u8 (d.join : Int), .slice Ad kd cd] 25) (.cells (fcells Ao Ac Av no nc nv co cc cv) 30))
  have HRD := Lib.hid ((Row.new w 25 #[.int .u8 (d.form : Int), .int .u8 (d.len : Int), .int .u8 (d.speed : Int), .int .u16 (d.mute : Int), .int .u16 (d.wait : Int), .int .u8 (d.cancel : Int), .int .u8 (d.stay : Int), .int .u8 (d.join : Int), .slice Ad kd cd]).alloc (.cells (fcells Ao Ac Av no nc nv co cc cv) 30))
  have hr1 := Row.new (w.alloc (.cells #[.int .u8 (d.form : Int), .int .u8 (d.len : Int), .int .u8 (d.speed : Int), .int .u16 (d.mute : Int), .int .u16 (d.wait : Int), .int .u8 (d.cancel : Int), .int .u8 (d.stay : Int), .int .u8 (d.join : Int), .slice Ad kd cd] 25)) 30 (fcells Ao Ac Av no nc nv co cc cv)
  rw [World.size_alloc] at hr1
  have HRX := Lib.hid hr1
  clear hr1
  generalize fullL d = L at *
  go_enter Try.func6, Try.ntmps6
  go_upto_region 1 with (fail)
  obtain ⟨n0, hn0⟩ : ∃ n, n = w.heap.size := ⟨_, rfl⟩
  obtain ⟨n1, hn1⟩ : ∃ n, n = n0 + 1 := ⟨_, rfl⟩
  rw [← hn0] at HRD HRX ⊢
  rw [← hn1] at HRX ⊢
  clear hn0 hn1
  generalize (w.alloc (.cells #[.int .u8 (d.form : Int), .int .u8 (d.len : Int), .int .u8 (d.speed : Int), .int .u16 (d.mute : Int), .int .u16 (d.wait : Int), .int .u8 (d.cancel : Int), .int .u8 (d.stay : Int), .int .u8 (d.join : Int), .slice Ad kd cd] 25)).alloc (.cells (fcells Ao Ac Av no nc nv co cc cv) 30) = W0 at *
  go_wp2_with fail
  refine (comes_any W0).mono ?_; rintro e wA ⟨rfl, hbA⟩
  have HA := Lib.hid (HB0.out.trans (hbA.mono HB0.out.size))
  have HDA := Lib.hid (Below.row hbA HRD.out HRD.out.lt)
  have HXA := Lib.hid (Below.row hbA HRX.out HRX.out.lt)
  clear hbA HB0 HRD HRX
  have f0 := HDA.out.cell 0; have f1 := HDA.out.cell 1; have f2 := HDA.out.cell 2; have f3 := HDA.out.cell 3; have f4 := HDA.out.cell 4; have f5 := HDA.out.cell 5; have f6 := HDA.out.cell 6; have f7 := HDA.out.cell 7; have f8 := HDA.out.cell 8
  simp only [List.getElem?_toArray, List.getElem?_cons_zero, List.getElem?_cons_succ] at f0 f1 f2 f3 f4 f5 f6 f7 f8
  go_wp2_with fail
  refine (HSM.out wA HA.out).mono ?_; rintro e wB ⟨rfl, hbB⟩
  have HB := Lib.hid (HA.out.trans (hbB.mono HA.out.size))
  have HDB := Lib.hid (Below.row hbB HDA.out HDA.out.lt)
  have HXB := Lib.hid (Below.row hbB HXA.out HXA.out.lt)
  clear hbB f0 f1 f2 f3 f4 f5 f6 f7 f8 HA HDA HXA
  cases hs : small d with
  | false =>
    clear HDB HXB
    go_wp2_with fail
    refine (comes_any wB).mono ?_; rintro e wZ ⟨rfl, hbZ⟩
    have HZ := Lib.hid (HB.out.trans (hbZ.mono HB.out.size))
    clear hbZ
    go_wp2_with fail
    go_ret
    exact ⟨rfl, HZ.out⟩
  | true =>
    have g0 := HXB.out.cell 0; have g1 := HXB.out.cell 1; have g2 := HXB.out.cell 2
    simp only [List.getElem?_toArray, List.getElem?_cons_zero, List.getElem?_cons_succ] at g0 g1 g2
    go_wp2_with fail
    refine (HFW.out wB HB.out).mono ?_; rintro e wC ⟨rfl, hbC⟩
    have HC := Lib.hid (HB.out.trans (hbC.mono HB.out.size))
    have HDC := Lib.hid (Below.row hbC HDB.out HDB.out.lt)
    have HXC := Lib.hid (Below.row hbC HXB.out HXB.out.lt)
    clear hbC g0 g1 g2 HB HDB HXB
    cases hfw : fewB f with
    | false =>
      clear HDC HXC
      go_wp2_with fail
      refine (comes_any wC).mono ?_; rintro e wZ ⟨rfl, hbZ⟩
      have HZ := Lib.hid (HC.out.trans (hbZ.mono HC.out.size))
      clear hbZ
      go_wp2_with fail
      go_ret
      exact ⟨rfl, HZ.out⟩
    | true =>

      have HFE := Lib.hid (few_ok hfw)
      have HXS := Lib.hid (views_ok HLG.out hfw)
      clear hfw
      have f0 := HDC.out.cell 0; have f1 := HDC.out.cell 1; have f2 := HDC.out.cell 2; have f3 := HDC.out.cell 3; have f4 := HDC.out.cell 4; have f5 := HDC.out.cell 5; have f6 := HDC.out.cell 6; have f7 := HDC.out.cell 7; have f8 := HDC.out.cell 8
      simp only [List.getElem?_toArray, List.getElem?_cons_zero, List.getElem?_cons_succ] at f0 f1 f2 f3 f4 f5 f6 f7 f8
      go_wp2_with fail
      refine (HFU.out hs wC HC.out).mono ?_; rintro e wD ⟨vL, rfl, hvL, hbD⟩
      obtain ⟨A0, k0, c0, A1, k1, c1, A2, k2, c2, A3, k3, c3, A4, k4, c4, t0, t1, t2, t3, t4, hv, -, -, hk2, -⟩ := hvL.lens
      subst hv
      have hba := (Below.refl wD.heap.size wD).alloc (Nat.le_refl _) (.cells #[.slice A0 k0 c0, .slice A1 k1 c1, .slice A2 k2 c2, .slice A3 k3 c3, .slice A4 k4 c4, .int .i64 t0, .int .i64 t1, .int .i64 t2, .int .i64 t3, .int .i64 t4] 39)
      have hbb := hbD.trans (hba.mono hbD.size)
      have HD := Lib.hid (HC.out.trans (hbb.mono HC.out.size))
      have HXD := Lib.hid (Below.row hbb HXC.out HXC.out.lt)
      have HLD := Lib.hid (Row.new wD 39 #[.slice A0 k0 c0, .slice A1 k1 c1, .slice A2 k2 c2, .slice A3 k3 c3, .slice A4 k4 c4, .int .i64 t0, .int .i64 t1, .int .i64 t2, .int .i64 t3, .int .i64 t4])
      have HVD := Lib.hid (hvL.up hba)
      have HK2 : Hid (L.parts.length = k2 ∧ k2 ≤ 100) := ⟨hk2, by rw [← hk2]; exact HLG.out.fits.p⟩
      have HFD := Lib.hid (HFV.out.up HD.out)
      clear hba hbb hbD hvL hk2 HC HDC HXC HSM HFW HFU f0 f1 f2 f3 f4 f5 f6 f7 f8 hs HFV
      go_upto_region 4 with (fail)
      obtain ⟨nL, hnL⟩ : ∃ n, n = wD.heap.size := ⟨_, rfl⟩
      rw [← hnL] at HLD ⊢
      clear hnL
      generalize wD.alloc (.cells #[.slice A0 k0 c0, .slice A1 k1 c1, .slice A2 k2 c2, .slice A3 k3 c3, .slice A4 k4 c4, .int .i64 t0, .int .i64 t1, .int .i64 t2, .int .i64 t3, .int .i64 t4] 39) = wD at *
      have hk2p : (k2 : Int) ≠ 0 := by have h1 := HKP.out; have h2 := HK2.out.1; omega
      obtain ⟨P, hP⟩ : ∃ P, (if near = true then part.tmod (k2 : Int) else part) = P := ⟨_, rfl⟩
      obtain ⟨I, hI⟩ : ∃ I, (if near = true then tr.tmod 4 else tr) = I := ⟨_, rfl⟩
      have HPI : Hid ((if near = true then part.tmod (k2 : Int) else part) = P ∧ (if near = true then tr.tmod 4 else tr) = I) := ⟨hP, hI⟩
      clear hP hI
      have p0 := HLD.out.cell 0; have p1 := HLD.out.cell 1; have p2 := HLD.out.cell 2; have p3 := HLD.out.cell 3; have p4 := HLD.out.cell 4; have p5 := HLD.out.cell 5; have p6 := HLD.out.cell 6; have p7 := HLD.out.cell 7; have p8 := HLD.out.cell 8; have p9 := HLD.out.cell 9
      simp only [List.getElem?_toArray, List.getElem?_cons_zero, List.getElem?_cons_succ] at p0 p1 p2 p3 p4 p5 p6 p7 p8 p9
      go_upto_if 34 with (fail)
      go_cut [2, 3] (fun v2 v3 wx => v2 = .int .i64 P ∧ v3 = .int .i64 I ∧ wx = wD)
      case first =>
        cases near with
        | true =>
          have h1 : part.tmod (k2 : Int) = P := HPI.out.1
          have h2 : tr.tmod 4 = I := HPI.out.2
          go_wp2_with fail
          go_meet
          case rel => exact ⟨by first | rfl | rw [h1], by first | rfl | rw [h2], rfl⟩
        | false =>
          have h1 : part = P := HPI.out.1
          have h2 : tr = I := HPI.out.2
          subst h1 h2
          go_wp2_with fail
          go_meet
          case rel => exact ⟨rfl, rfl, rfl⟩
      case rest =>
      obtain ⟨rfl, rfl, hwc⟩ := hcut
      have hwd := hwc.symm
      subst hwd
      clear hk2p
      have g0 := HXD.out.cell 0; have g1 := HXD.out.cell 1; have g2 := HXD.out.cell 2
      simp only [List.getElem?_toArray, List.getElem?_cons_zero, List.getElem?_cons_succ] at g0 g1 g2
      go_wp2_with fail
      refine (views_any wD _ L Ao Ac Av no nc nv co cc cv f HVD.out HLG.out.fits HLG.out.secs.1 (by have := HFD.out.vws; rw [HNV.out] at this; exact this) HNV.out HOK.out HFE.out).mono ?_; rintro e wE ⟨Aa, ca, Ab, cb, rfl, hva, hvb, hbE⟩
      obtain ⟨xs, hxs⟩ : ∃ xs, viewsO L.secs.length f.vws = xs := ⟨_, rfl⟩
      rw [hxs] at hva hvb HXS
      obtain ⟨nx, hnx⟩ : ∃ n, xs.length = n := ⟨_, rfl⟩
      rw [hnx] at hva hvb
      have HST : Hid (LSt w n1 nL (fcells Ao Ac Av no nc nv co cc cv) #[.slice A0 k0 c0, .slice A1 k1 c1, .slice A2 k2 c2, .slice A3 k3 c3, .slice A4 k4 c4, .int .i64 t0, .int .i64 t1, .int .i64 t2, .int .i64 t3, .int .i64 t4] (.slice Aa nx ca) (.slice Ab nx cb) Ao Ac Av co cc cv f L xs wE) := ⟨HD.out.trans (hbE.mono HD.out.size), Below.row hbE HXD.out HXD.out.lt, Below.row hbE HLD.out HLD.out.lt, HVD.out.up hbE, HFD.out.up hbE, hva, hvb⟩
      rw [hxs, hnx]
      clear hbE p0 p1 p2 p3 p4 p5 p6 p7 p8 p9 g0 g1 g2 hva hvb hxs hnx HD HXD HLD HVD HFD HFE
      have p0 := HST.out.rl.cell 0; have p1 := HST.out.rl.cell 1; have p2 := HST.out.rl.cell 2; have p3 := HST.out.rl.cell 3; have p4 := HST.out.rl.cell 4; have p5 := HST.out.rl.cell 5; have p6 := HST.out.rl.cell 6; have p7 := HST.out.rl.cell 7; have p8 := HST.out.rl.cell 8; have p9 := HST.out.rl.cell 9
      simp only [List.getElem?_toArray, List.getElem?_cons_zero, List.getElem?_cons_succ] at p0 p1 p2 p3 p4 p5 p6 p7 p8 p9
      have g0 := HST.out.rf.cell 0; have g1 := HST.out.rf.cell 1; have g2 := HST.out.rf.cell 2
      simp only [List.getElem?_toArray, List.getElem?_cons_zero, List.getElem?_cons_succ] at g0 g1 g2
      have HOWN : Hid (∀ W, LSt w n1 nL (fcells Ao Ac Av no nc nv co cc cv) #[.slice A0 k0 c0, .slice A1 k1 c1, .slice A2 k2 c2, .slice A3 k3 c3, .slice A4 k4 c4, .int .i64 t0, .int .i64 t1, .int .i64 t2, .int .i64 t3, .int .i64 t4] (.slice Aa nx ca) (.slice Ab nx cb) Ao Ac Av co cc cv f L xs W → Calls Try.prog 15 #[.agg #[.slice A0 k0 c0, .slice A1 k1 c1, .slice A2 k2 c2, .slice A3 k3 c3, .slice A4 k4 c4, .int .i64 t0, .int .i64 t1, .int .i64 t2, .int .i64 t3, .int .i64 t4], .agg (fcells Ao Ac Av no nc nv co cc cv)] W (RetRd (ivals (ownersL f L.parts.length)) W)) := fun W h => h.owners HLG.out HNO.out HOK.out
      have hwl : (ivals (ownersL f L.parts.length)).length = k2 := by rw [HK2.out.1]; simp [ivals, ownersL_len]
      have HWL := Lib.hid hwl
      have HWK : Hid ((ownersL f L.parts.length).length = L.parts.length ∧ OkO (ownersL f L.parts.length)) := ⟨ownersL_len _ _, ownersL_ok _ _⟩
      have HCK : Hid ((clearL f L.parts.length).length = L.parts.length) := clearL_len _ _
      have HCLR : Hid (∀ W, LSt w n1 nL (fcells Ao Ac Av no nc nv co cc cv) #[.slice A0 k0 c0, .slice A1 k1 c1, .slice A2 k2 c2, .slice A3 k3 c3, .slice A4 k4 c4, .int .i64 t0, .int .i64 t1, .int .i64 t2, .int .i64 t3, .int .i64 t4] (.slice Aa nx ca) (.slice Ab nx cb) Ao Ac Av co cc cv f L xs W → Calls Try.prog 18 #[.agg #[.slice A0 k0 c0, .slice A1 k1 c1, .slice A2 k2 c2, .slice A3 k3 c3, .slice A4 k4 c4, .int .i64 t0, .int .i64 t1, .int .i64 t2, .int .i64 t3, .int .i64 t4], .agg (fcells Ao Ac Av no nc nv co cc cv)] W (RetRd (cvals (clearL f L.parts.length)) W)) := fun W h => h.clear HLG.out HNC.out
      generalize clearL f L.parts.length = clr at *
      generalize ownersL f L.parts.length = was at *
      go_wp2_with fail
      refine (HOWN.out wE HST.out).mono ?_; rintro e wF ⟨Aw, cw, rfl, hws, hbF⟩
      rw [HWL.out] at hws ⊢
      have HSX := Lib.hid (HST.out.call hbF)
      have HWX := Lib.hid hws
      clear hbF hws hwl HST p0 p1 p2 p3 p4 p5 p6 p7 p8 p9 g0 g1 g2
      have HSS : Hid (∀ W, LSt w n1 nL (fcells Ao Ac Av no nc nv co cc cv) #[.slice A0 k0 c0, .slice A1 k1 c1, .slice A2 k2 c2, .slice A3 k3 c3, .slice A4 k4 c4, .int .i64 t0, .int .i64 t1, .int .i64 t2, .int .i64 t3, .int .i64 t4] (.slice Aa nx ca) (.slice Ab nx cb) Ao Ac Av co cc cv f L xs W → (W.cell? ⟨nL, 0, none⟩ = some (.slice A0 k0 c0) ∧ W.cell? ⟨nL, 1, none⟩ = some (.slice A1 k1 c1) ∧ W.cell? ⟨nL, 2, none⟩ = some (.slice A2 k2 c2) ∧ W.cell? ⟨nL, 3, none⟩ = some (.slice A3 k3 c3) ∧ W.cell? ⟨nL, 4, none⟩ = some (.slice A4 k4 c4) ∧ W.cell? ⟨nL, 5, none⟩ = some (.int .i64 t0) ∧ W.cell? ⟨nL, 6, none⟩ = some (.int .i64 t1) ∧ W.cell? ⟨nL, 7, none⟩ = some (.int .i64 t2) ∧ W.cell? ⟨nL, 8, none⟩ = some (.int .i64 t3) ∧ W.cell? ⟨nL, 9, none⟩ = some (.int .i64 t4) ∧ W.cell? ⟨n1, 0, none⟩ = some (.slice Ao no co) ∧ W.cell? ⟨n1, 1, none⟩ = some (.slice Ac nc cc) ∧ W.cell? ⟨n1, 2, none⟩ = some (.slice Av nv cv))) := fun W h => ⟨h.rl.cell 0, h.rl.cell 1, h.rl.cell 2, h.rl.cell 3, h.rl.cell 4, h.rl.cell 5, h.rl.cell 6, h.rl.cell 7, h.rl.cell 8, h.rl.cell 9, h.rf.cell 0, h.rf.cell 1, h.rf.cell 2⟩
      have HDP : Hid (∀ (W : World) (vc : Value), LSt w n1 nL (fcells Ao Ac Av no nc nv co cc cv) #[.slice A0 k0 c0, .slice A1 k1 c1, .slice A2 k2 c2, .slice A3 k3 c3, .slice A4 k4 c4, .int .i64 t0, .int .i64 t1, .int .i64 t2, .int .i64 t3, .int .i64 t4] (.slice Aa nx ca) (.slice Ab nx cb) Ao Ac Av co cc cv f L xs W → Rd W W.heap.size (.slice Aw k2 cw) (ivals was) → Rd W W.heap.size vc (cvals clr) → Calls Try.prog 23 #[.agg #[.slice A0 k0 c0, .slice A1 k1 c1, .slice A2 k2 c2, .slice A3 k3 c3, .slice A4 k4 c4, .int .i64 t0, .int .i64 t1, .int .i64 t2, .int .i64 t3, .int .i64 t4], .slice Aw k2 cw, vc, .slice Aa nx ca, .int .i64 P, .int .i64 I] W (RetDecl (declL L was clr xs P I) W)) := fun W vc h hw hc => declare_any W _ _ vc _ L was clr xs P I h.lay HLG.out.fits HWK.out.1 HCK.out hw hc h.va HXS.out HLG.out.wf
      have HDR : Hid (∀ (W : World) (vc : Value), LSt w n1 nL (fcells Ao Ac Av no nc nv co cc cv) #[.slice A0 k0 c0, .slice A1 k1 c1, .slice A2 k2 c2, .slice A3 k3 c3, .slice A4 k4 c4, .int .i64 t0, .int .i64 t1, .int .i64 t2, .int .i64 t3, .int .i64 t4] (.slice Aa nx ca) (.slice Ab nx cb) Ao Ac Av co cc cv f L xs W → Rd W W.heap.size (.slice Aw k2 cw) (ivals was) → Rd W W.heap.size vc (cvals clr) → Calls Try.prog 24 #[.agg #[.slice A0 k0 c0, .slice A1 k1 c1, .slice A2 k2 c2, .slice A3 k3 c3, .slice A4 k4 c4, .int .i64 t0, .int .i64 t1, .int .i64 t2, .int .i64 t3, .int .i64 t4], .slice Aw k2 cw, vc, .slice Ab nx cb, .int .i64 P, .int .i64 I] W (RetDecl (declL L was clr xs P I) W)) := fun W vc h hw hc => refDeclare_any W _ _ vc _ L was clr xs P I h.lay HLG.out.fits HWK.out.1 HCK.out hw hc h.vb HXS.out
      have HDL : Hid ((declL L was clr xs P I).1.length = k2 ∧ ((declL L was clr xs P I).2 ≠ 0 → (declL L was clr xs P I).1 = was)) := ⟨by rw [declL_len, HWK.out.1, HK2.out.1], declL_same L was clr xs P I⟩
      obtain ⟨dl, hdl⟩ : ∃ x, (declL L was clr xs P I).1 = x := ⟨_, rfl⟩
      obtain ⟨de, hde⟩ : ∃ x, (declL L was clr xs P I).2 = x := ⟨_, rfl⟩
      have HDD : Hid (declL L was clr xs P I = (dl, de)) := by show _ = _; rw [← hdl, ← hde]
      rw [hdl, hde] at HDL
      have HDN : Hid (dl.length = k2) := HDL.out.1
      clear hdl hde
      have HIN : Hid (∀ (W : World) (v v' : Value), Rd W W.heap.size v (ivals dl) → Rd W W.heap.size v' (ivals dl) → Calls Try.prog 16 #[v, v'] W (RetB true W)) := fun W v v' h1 h2 => ints_lit W v v' dl h1 h2 (by have := HDN.out; have := HK2.out; omega)
      have HIW : Hid (∀ (W : World) (v v' : Value), Rd W W.heap.size v (ivals was) → Rd W W.heap.size v' (ivals was) → Calls Try.prog 16 #[v, v'] W (RetB true W)) := fun W v v' h1 h2 => ints_lit W v v' was h1 h2 (by have := HWK.out.1; have := HK2.out; omega)
      go_upto_region 8 with (fail)
      go_cut [15, 16] (fun v1 v2 wx => ∃ A c, v1 = .slice A k2 c ∧ v2 = .int .i64 de ∧ Hid (LSt w n1 nL (fcells Ao Ac Av no nc nv co cc cv) #[.slice A0 k0 c0, .slice A1 k1 c1, .slice A2 k2 c2, .slice A3 k3 c3, .slice A4 k4 c4, .int .i64 t0, .int .i64 t1, .int .i64 t2, .int .i64 t3, .int .i64 t4] (.slice Aa nx ca) (.slice Ab nx cb) Ao Ac Av co cc cv f L xs wx ∧ Rd wx wx.heap.size (.slice Aw k2 cw) (ivals was) ∧ Rd wx wx.heap.size (.slice A k2 c) (ivals dl)))
      case first =>
        rename_i J K' hJ hK
        have hbd := (Below.refl wF.heap.size wF).drew
        have hst := HSX.out.call hbd
        have hWS := HWX.out.up hbd
        have s0 := HSS.out _ hst
        obtain ⟨r0, r1, r2, r3, r4, r5, r6, r7, r8, r9, r10, r11, r12⟩ := (show _ from s0)
        clear hbd
        go_region_held3 (fun w' => (w'.cell? ⟨nL, 0, none⟩ = some (.slice A0 k0 c0) ∧ w'.cell? ⟨nL, 1, none⟩ = some (.slice A1 k1 c1) ∧ w'.cell? ⟨nL, 2, none⟩ = some (.slice A2 k2 c2) ∧ w'.cell? ⟨nL, 3, none⟩ = some (.slice A3 k3 c3) ∧ w'.cell? ⟨nL, 4, none⟩ = some (.slice A4 k4 c4) ∧ w'.cell? ⟨nL, 5, none⟩ = some (.int .i64 t0) ∧ w'.cell? ⟨nL, 6, none⟩ = some (.int .i64 t1) ∧ w'.cell? ⟨nL, 7, none⟩ = some (.int .i64 t2) ∧ w'.cell? ⟨nL, 8, none⟩ = some (.int .i64 t3) ∧ w'.cell? ⟨nL, 9, none⟩ = some (.int .i64 t4) ∧ w'.cell? ⟨n1, 0, none⟩ = some (.slice Ao no co) ∧ w'.cell? ⟨n1, 1, none⟩ = some (.slice Ac nc cc) ∧ w'.cell? ⟨n1, 2, none⟩ = some (.slice Av nv cv))) (first | (with_reducible assumption) | (with_reducible exact s0) | go_keep) (first | (go_at_call 18; (with_reducible refine (HCLR.out _ hst).mono ?_); rintro y v1 ⟨A9, c9, rfl, hr, hb⟩; have hst := LSt.call hst hb; have s0 := HSS.out _ hst; (try have hWS := Rd.up hWS hb); (try have hcA := Rd.up hcA hb); (try have hxA := Rd.up hxA hb); have hcA := hr; clear hr hb) | (go_at_call 23; (with_reducible refine (HDP.out _ _ hst hWS hcA).mono ?_); rintro y v1 ⟨A9, c9, hy, hr, hb⟩; have hst := LSt.call hst hb; have s0 := HSS.out _ hst; (try have hWS := Rd.up hWS hb); (try have hcA := Rd.up hcA hb); (try have hxA := Rd.up hxA hb); rw [HDD.out] at hy hr; simp only [HDN.out] at hy hr; subst hy; have hnA := hr; clear hr hb))
        all_goals (refine hK _ _ (Met.intro (hJ _ _ ?_)); (repeat apply Exists.intro); refine ⟨?rel, rfl⟩; case rel => exact ⟨_, _, rfl, rfl, hst, hWS, hnA⟩)
      case rest =>
      obtain ⟨Ax, cx, rfl, rfl, HCX⟩ := hcut
      clear HSX HWX
      have HSX := Lib.hid HCX.out.1; have HWX := Lib.hid HCX.out.2.1; have HXA := Lib.hid HCX.out.2.2
      clear HCX
      go_upto_region 9 with (fail)
      go_cut [17, 18] (fun v1 v2 wx => ∃ A c, v1 = .slice A k2 c ∧ v2 = .int .i64 de ∧ Hid (LSt w n1 nL (fcells Ao Ac Av no nc nv co cc cv) #[.slice A0 k0 c0, .slice A1 k1 c1, .slice A2 k2 c2, .slice A3 k3 c3, .slice A4 k4 c4, .int .i64 t0, .int .i64 t1, .int .i64 t2, .int .i64 t3, .int .i64 t4] (.slice Aa nx ca) (.slice Ab nx cb) Ao Ac Av co cc cv f L xs wx ∧ Rd wx wx.heap.size (.slice Aw k2 cw) (ivals was) ∧ Rd wx wx.heap.size (.slice A k2 c) (ivals dl) ∧ Rd wx wx.heap.size (.slice Ax k2 cx) (ivals dl)))
      case first =>
        rename_i J K' hJ hK
        have hbd := (Below.refl wc.heap.size wc).drew
        have hst := HSX.out.call hbd
        have hWS := HWX.out.up hbd
        have hxA := HXA.out.up hbd
        have s0 := HSS.out _ hst
        obtain ⟨r0, r1, r2, r3, r4, r5, r6, r7, r8, r9, r10, r11, r12⟩ := (show _ from s0)
        clear hbd
        go_region_held3 (fun w' => (w'.cell? ⟨nL, 0, none⟩ = some (.slice A0 k0 c0) ∧ w'.cell? ⟨nL, 1, none⟩ = some (.slice A1 k1 c1) ∧ w'.cell? ⟨nL, 2, none⟩ = some (.slice A2 k2 c2) ∧ w'.cell? ⟨nL, 3, none⟩ = some (.slice A3 k3 c3) ∧ w'.cell? ⟨nL, 4, none⟩ = some (.slice A4 k4 c4) ∧ w'.cell? ⟨nL, 5, none⟩ = some (.int .i64 t0) ∧ w'.cell? ⟨nL, 6, none⟩ = some (.int .i64 t1) ∧ w'.cell? ⟨nL, 7, none⟩ = some (.int .i64 t2) ∧ w'.cell? ⟨nL, 8, none⟩ = some (.int .i64 t3) ∧ w'.cell? ⟨nL, 9, none⟩ = some (.int .i64 t4) ∧ w'.cell? ⟨n1, 0, none⟩ = some (.slice Ao no co) ∧ w'.cell? ⟨n1, 1, none⟩ = some (.slice Ac nc cc) ∧ w'.cell? ⟨n1, 2, none⟩ = some (.slice Av nv cv))) (first | (with_reducible assumption) | (with_reducible exact s0) | go_keep) (first | (go_at_call 18; (with_reducible refine (HCLR.out _ hst).mono ?_); rintro y v1 ⟨A9, c9, rfl, hr, hb⟩; have hst := LSt.call hst hb; have s0 := HSS.out _ hst; (try have hWS := Rd.up hWS hb); (try have hcA := Rd.up hcA hb); (try have hxA := Rd.up hxA hb); have hcA := hr; clear hr hb) | (go_at_call 24; (with_reducible refine (HDR.out _ _ hst hWS hcA).mono ?_); rintro y v1 ⟨A9, c9, hy, hr, hb⟩; have hst := LSt.call hst hb; have s0 := HSS.out _ hst; (try have hWS := Rd.up hWS hb); (try have hcA := Rd.up hcA hb); (try have hxA := Rd.up hxA hb); rw [HDD.out] at hy hr; simp only [HDN.out] at hy hr; subst hy; have hnA := hr; clear hr hb))
        all_goals (refine hK _ _ (Met.intro (hJ _ _ ?_)); (repeat apply Exists.intro); refine ⟨?rel, rfl⟩; case rel => exact ⟨_, _, rfl, rfl, hst, hWS, hnA, hxA⟩)
      case rest =>
      obtain ⟨Ay, cy, rfl, rfl, HCX⟩ := hcut
      clear HSX HWX HXA
      obtain ⟨wy, hwy⟩ : ∃ W, W = wc := ⟨_, rfl⟩
      subst hwy
      have hee : (de == de) = true := by simp
      go_upto_region 10 with (fail)
      go_wp2_with fail
      refine (HIN.out wy _ _ HCX.out.2.2.2 HCX.out.2.2.1).mono ?_; rintro e w2 ⟨rfl, n2, rfl⟩
      have hb2 : Below wy.heap.size wy (wy.drewN n2) := Below.drewN (Below.refl _ _) n2
      have HS2 := Lib.hid (HCX.out.1.call hb2)
      have HW2 := Lib.hid (HCX.out.2.1.up hb2)
      have HX2 := Lib.hid (HCX.out.2.2.2.up hb2)
      clear hb2 HCX
      generalize wy.drewN n2 = w2 at *
      have HFIN : Hid (∀ (W : World), LSt w n1 nL (fcells Ao Ac Av no nc nv co cc cv) #[.slice A0 k0 c0, .slice A1 k1 c1, .slice A2 k2 c2, .slice A3 k3 c3, .slice A4 k4 c4, .int .i64 t0, .int .i64 t1, .int .i64 t2, .int .i64 t3, .int .i64 t4] (.slice Aa nx ca) (.slice Ab nx cb) Ao Ac Av co cc cv f L xs W → True) := fun _ _ => trivial
      by_cases h0 : de = 0
      · subst h0
        have p0 := HS2.out.rl.cell 0; have p1 := HS2.out.rl.cell 1; have p2 := HS2.out.rl.cell 2; have p3 := HS2.out.rl.cell 3; have p4 := HS2.out.rl.cell 4; have p5 := HS2.out.rl.cell 5; have p6 := HS2.out.rl.cell 6; have p7 := HS2.out.rl.cell 7; have p8 := HS2.out.rl.cell 8; have p9 := HS2.out.rl.cell 9
        simp only [List.getElem?_toArray, List.getElem?_cons_zero, List.getElem?_cons_succ] at p0 p1 p2 p3 p4 p5 p6 p7 p8 p9
        have g0 := HS2.out.rf.cell 0; have g1 := HS2.out.rf.cell 1; have g2 := HS2.out.rf.cell 2
        simp only [List.getElem?_toArray, List.getElem?_cons_zero, List.getElem?_cons_succ] at g0 g1 g2
        go_wp2_with fail
        refine (HOWN.out w2 HS2.out).mono ?_; rintro e w3 ⟨Az, cz, rfl, hwz, hb3⟩
        rw [HWL.out] at hwz ⊢
        have HB3 := Lib.hid (HS2.out.bel.trans (hb3.mono HS2.out.bel.size))
        have HIX := Lib.hid (HIW.out w3 _ _ (HW2.out.up hb3) hwz)
        clear hb3 hwz p0 p1 p2 p3 p4 p5 p6 p7 p8 p9 g0 g1 g2
        go_wp2_with fail
        refine HIX.out.mono ?_; rintro e w4 ⟨rfl, n4, rfl⟩
        have HB4 := Lib.hid (Below.drewN HB3.out n4)
        clear HB3 HIX
        go_wp2_with fail
        go_ret
        exact ⟨rfl, HB4.out⟩
      · have h0i : (de == 0) = false := by simpa using h0
        have hds : dl = was := HDL.out.2 h0
        have HX3 : Hid (Rd w2 w2.heap.size (.slice Ax k2 cx) (ivals was)) := by have := HX2.out; rw [hds] at this; exact this
        have HI3 := Lib.hid (HIW.out w2 _ _ HX3.out HW2.out)
        clear hds h0
        go_wp2_with fail
        refine HI3.out.mono ?_; rintro e w5 ⟨rfl, n5, rfl⟩
        have hb5 : Below w2.heap.size w2 (w2.drewN n5) := Below.drewN (Below.refl _ _) n5
        have HS5 := Lib.hid (HS2.out.call hb5)
        have HW5 := Lib.hid (HW2.out.up hb5)
        clear hb5 HS2 HW2 HX2 HX3 HI3
        generalize w2.drewN n5 = w5 at *
        have p0 := HS5.out.rl.cell 0; have p1 := HS5.out.rl.cell 1; have p2 := HS5.out.rl.cell 2; have p3 := HS5.out.rl.cell 3; have p4 := HS5.out.rl.cell 4; have p5 := HS5.out.rl.cell 5; have p6 := HS5.out.rl.cell 6; have p7 := HS5.out.rl.cell 7; have p8 := HS5.out.rl.cell 8; have p9 := HS5.out.rl.cell 9
        simp only [List.getElem?_toArray, List.getElem?_cons_zero, List.getElem?_cons_succ] at p0 p1 p2 p3 p4 p5 p6 p7 p8 p9
        have g0 := HS5.out.rf.cell 0; have g1 := HS5.out.rf.cell 1; have g2 := HS5.out.rf.cell 2
        simp only [List.getElem?_toArray, List.getElem?_cons_zero, List.getElem?_cons_succ] at g0 g1 g2
        go_wp2_with fail
        refine (HOWN.out w5 HS5.out).mono ?_; rintro e w3 ⟨Az, cz, rfl, hwz, hb3⟩
        rw [HWL.out] at hwz ⊢
        have HB3 := Lib.hid (HS5.out.bel.trans (hb3.mono HS5.out.bel.size))
        have HIX := Lib.hid (HIW.out w3 _ _ (HW5.out.up hb3) hwz)
        clear hb3 hwz p0 p1 p2 p3 p4 p5 p6 p7 p8 p9 g0 g1 g2
        go_wp2_with fail
        refine HIX.out.mono ?_; rintro e w4 ⟨rfl, n4, rfl⟩
        have HB4 := Lib.hid (Below.drewN HB3.out n4)
        clear HB3 HIX
        go_wp2_with fail
        go_ret
        exact ⟨rfl, HB4.out⟩

end Go.Proofs.Ythnjilbfkfekhaa
