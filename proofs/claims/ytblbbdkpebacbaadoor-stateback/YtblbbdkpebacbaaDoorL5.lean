/- The law StateBack. -/
import Derived.Test.YtblbbdkpebacbaaDoorBk
namespace Go.Proofs.YtblbbdkpebacbaaDoor
open Go.RowKit Fl
set_option maxRecDepth 100000

/-- What the law on the way back keeps. -/
structure BSt (w : World) (n1 n2 nL : Nat) (fd gd cl : Array Value) (va vc : Value) (Ao Ac Av : Option Addr) (co cc cv : Nat) (f : Fd) (Bo Bc Bv : Option Addr) (eo ec ev : Nat) (g : Fd) (L : Lay) (xs ys : List Vw) (W : World) : Prop where
  bel : Below w.heap.size w W
  rf : Row W n1 30 fd
  rg : Row W n2 30 gd
  rl : Row W nL 39 cl
  lay : LayV W W.heap.size (.agg cl) L
  fv : FdV W W.heap.size Ao Ac Av co cc cv f
  gv : FdV W W.heap.size Bo Bc Bv eo ec ev g
  va : Vws W W.heap.size va xs
  vc : Vws W W.heap.size vc ys
theorem BSt.call {w : World} {n1 n2 nL : Nat} {fd gd cl : Array Value} {va vc : Value} {Ao Ac Av : Option Addr} {co cc cv : Nat} {f : Fd} {Bo Bc Bv : Option Addr} {eo ec ev : Nat} {g : Fd} {L : Lay} {xs ys : List Vw} {W W' : World} (h : BSt w n1 n2 nL fd gd cl va vc Ao Ac Av co cc cv f Bo Bc Bv eo ec ev g L xs ys W) (hb : Below W.heap.size W W') : BSt w n1 n2 nL fd gd cl va vc Ao Ac Av co cc cv f Bo Bc Bv eo ec ev g L xs ys W' :=
  ⟨h.bel.trans (hb.mono h.bel.size), Below.row hb h.rf h.rf.lt, Below.row hb h.rg h.rg.lt, Below.row hb h.rl h.rl.lt, h.lay.up hb, h.fv.up hb, h.gv.up hb, h.va.up hb, h.vc.up hb⟩

set_option maxHeartbeats 16000000 in
theorem lawBack (w : World) (d : Dr) (vr : Value) (f g : Fd) (Ao Ac Av : Option Addr) (co cc cv : Nat) (Bo Bc Bv : Option Addr) (eo ec ev : Nat) (hd : DrOk d) (hbr : BRows w w.heap.size vr d.routes) (hl : d.routes.length ≤ 9223372036854775807) (hrl : ∀ r ∈ d.routes, r.length ≤ 9223372036854775807)
    (hfv : FdV w w.heap.size Ao Ac Av co cc cv f) (hfo : FdOk f) (hfl : FdLen f) (hgv : FdV w w.heap.size Bo Bc Bv eo ec ev g) (hgo : FdOk g) (hgl : FdLen g) (hkd : KD w) :
    Calls Tryd.prog 7 #[drV d vr, .agg (fcells Ao Ac Av f.own.length f.clr.length f.vws.length co cc cv), .agg (fcells Bo Bc Bv g.own.length g.clr.length g.vws.length eo ec ev)] w (RetL true w) := by
  obtain ⟨Ad, kd, cd, hvr⟩ : ∃ A k c, vr = .slice A k c := by obtain ⟨vs, ⟨A, c, e, _⟩, _⟩ := hbr; exact ⟨A, _, c, e⟩
  subst hvr
  have HSM : Hid (∀ W, Below w.heap.size w W → Calls Tryd.prog 11 #[.agg #[.int .u8 (d.form : Int), .int .u8 (d.len : Int), .int .u8 (d.speed : Int), .int .u16 (d.mute : Int), .int .u16 (d.wait : Int), .int .u8 (d.cancel : Int), .int .u8 (d.stay : Int), .int .u8 (d.join : Int), .slice Ad kd cd]] W (RetL (small d) W)) := fun W hW => small_any W d (.slice Ad kd cd) (hbr.up hW) hl hrl
  have HFW : Hid (∀ W, Below w.heap.size w W → Calls Tryd.prog 12 #[.agg (fcells Ao Ac Av f.own.length f.clr.length f.vws.length co cc cv)] W (RetL (fewB f) W)) := fun W hW => few_any W Ao Ac Av co cc cv f (hfv.up hW) hfl.vws hfl.span
  have HGW : Hid (∀ W, Below w.heap.size w W → Calls Tryd.prog 12 #[.agg (fcells Bo Bc Bv g.own.length g.clr.length g.vws.length eo ec ev)] W (RetL (fewB g) W)) := fun W hW => few_any W Bo Bc Bv eo ec ev g (hgv.up hW) hgl.vws hgl.span
  have HFU : Hid (small d = true → ∀ W, Below w.heap.size w W → Calls Tryd.prog 13 #[.agg #[.int .u8 (d.form : Int), .int .u8 (d.len : Int), .int .u8 (d.speed : Int), .int .u16 (d.mute : Int), .int .u16 (d.wait : Int), .int .u8 (d.cancel : Int), .int .u8 (d.stay : Int), .int .u8 (d.join : Int), .slice Ad kd cd]] W (RetLay (fullL d) W)) := fun hs W hW => full_any W d (.slice Ad kd cd) hd (hbr.up hW) hs
  have HLG := Lib.hid (full_g d)
  have HFV := Lib.hid hfv; have HOK := Lib.hid hfo; have HFL := Lib.hid hfl
  have HGV := Lib.hid hgv; have HGK := Lib.hid hgo; have HGL := Lib.hid hgl
  have HKD := Lib.hid hkd
  clear hbr hl hrl hd hfv hfo hfl hgv hgo hgl hkd
  unfold drV
  obtain ⟨no, hno⟩ : ∃ n, f.own.length = n := ⟨_, rfl⟩
  obtain ⟨nc, hnc⟩ : ∃ n, f.clr.length = n := ⟨_, rfl⟩
  obtain ⟨nv, hnv⟩ : ∃ n, f.vws.length = n := ⟨_, rfl⟩
  obtain ⟨mo, hmo⟩ : ∃ n, g.own.length = n := ⟨_, rfl⟩
  obtain ⟨mc, hmc⟩ : ∃ n, g.clr.length = n := ⟨_, rfl⟩
  obtain ⟨mv, hmv⟩ : ∃ n, g.vws.length = n := ⟨_, rfl⟩
  have HNO := Lib.hid hno; have HNV := Lib.hid hnv
  have HMO := Lib.hid hmo; have HMV := Lib.hid hmv
  rw [hno, hnc, hnv] at HFW ⊢
  rw [hmo, hmc, hmv] at HGW ⊢
  clear hno hnc hnv hmo hmc hmv
  have HB0 := Lib.hid (below3 w (.cells #[.int .u8 (d.form : Int), .int .u8 (d.len : Int), .int .u8 (d.speed : Int), .int .u16 (d.mute : Int), .int .u16 (d.wait : Int), .int .u8 (d.cancel : Int), .int .u8 (d.stay : Int), .int .u8 (d.join : Int), .slice Ad kd cd] 25) (.cells (fcells Ao Ac Av no nc nv co cc cv) 30) (.cells (fcells Bo Bc Bv mo mc mv eo ec ev) 30))
  have HRD := Lib.hid (((Row.new w 25 #[.int .u8 (d.form : Int), .int .u8 (d.len : Int), .int .u8 (d.speed : Int), .int .u16 (d.mute : Int), .int .u16 (d.wait : Int), .int .u8 (d.cancel : Int), .int .u8 (d.stay : Int), .int .u8 (d.join : Int), .slice Ad kd cd]).alloc (.cells (fcells Ao Ac Av no nc nv co cc cv) 30)).alloc (.cells (fcells Bo Bc Bv mo mc mv eo ec ev) 30))
  have hr1 := (Row.new (w.alloc (.cells #[.int .u8 (d.form : Int), .int .u8 (d.len : Int), .int .u8 (d.speed : Int), .int .u16 (d.mute : Int), .int .u16 (d.wait : Int), .int .u8 (d.cancel : Int), .int .u8 (d.stay : Int), .int .u8 (d.join : Int), .slice Ad kd cd] 25)) 30 (fcells Ao Ac Av no nc nv co cc cv)).alloc (.cells (fcells Bo Bc Bv mo mc mv eo ec ev) 30)
  have hr2 := Row.new ((w.alloc (.cells #[.int .u8 (d.form : Int), .int .u8 (d.len : Int), .int .u8 (d.speed : Int), .int .u16 (d.mute : Int), .int .u16 (d.wait : Int), .int .u8 (d.cancel : Int), .int .u8 (d.stay : Int), .int .u8 (d.join : Int), .slice Ad kd cd] 25)).alloc (.cells (fcells Ao Ac Av no nc nv co cc cv) 30)) 30 (fcells Bo Bc Bv mo mc mv eo ec ev)
  rw [World.size_alloc] at hr1
  rw [World.size_alloc, World.size_alloc] at hr2
  have HRX := Lib.hid hr1
  have HRY := Lib.hid hr2
  clear hr1 hr2
  generalize fullL d = L at *
  go_enter Tryd.func7, Tryd.ntmps7
  go_upto_region 1 with (fail)
  obtain ⟨n0, hn0⟩ : ∃ n, n = w.heap.size := ⟨_, rfl⟩
  obtain ⟨n1, hn1⟩ : ∃ n, n = n0 + 1 := ⟨_, rfl⟩
  obtain ⟨n2, hn2⟩ : ∃ n, n = n1 + 1 := ⟨_, rfl⟩
  rw [← hn0] at HRD HRX HRY ⊢
  rw [← hn1] at HRX HRY ⊢
  rw [← hn2] at HRY ⊢
  clear hn0 hn1 hn2
  generalize ((w.alloc (.cells #[.int .u8 (d.form : Int), .int .u8 (d.len : Int), .int .u8 (d.speed : Int), .int .u16 (d.mute : Int), .int .u16 (d.wait : Int), .int .u8 (d.cancel : Int), .int .u8 (d.stay : Int), .int .u8 (d.join : Int), .slice Ad kd cd] 25)).alloc (.cells (fcells Ao Ac Av no nc nv co cc cv) 30)).alloc (.cells (fcells Bo Bc Bv mo mc mv eo ec ev) 30) = W0 at *
  go_wp2_with fail
  refine (second_any W0 (HKD.out.up HB0.out)).mono ?_; rintro e wA ⟨rfl, hbA⟩
  have HA := Lib.hid (HB0.out.trans (hbA.mono HB0.out.size))
  have HDA := Lib.hid (Below.row hbA HRD.out HRD.out.lt)
  have HXA := Lib.hid (Below.row hbA HRX.out HRX.out.lt)
  have HYA := Lib.hid (Below.row hbA HRY.out HRY.out.lt)
  clear hbA HB0 HRD HRX HRY
  have f0 := HDA.out.cell 0; have f1 := HDA.out.cell 1; have f2 := HDA.out.cell 2; have f3 := HDA.out.cell 3; have f4 := HDA.out.cell 4; have f5 := HDA.out.cell 5; have f6 := HDA.out.cell 6; have f7 := HDA.out.cell 7; have f8 := HDA.out.cell 8
  simp only [List.getElem?_toArray, List.getElem?_cons_zero, List.getElem?_cons_succ] at f0 f1 f2 f3 f4 f5 f6 f7 f8
  go_wp2_with fail
  refine (HSM.out wA HA.out).mono ?_; rintro e wB ⟨rfl, hbB⟩
  have HB := Lib.hid (HA.out.trans (hbB.mono HA.out.size))
  have HDB := Lib.hid (Below.row hbB HDA.out HDA.out.lt)
  have HXB := Lib.hid (Below.row hbB HXA.out HXA.out.lt)
  have HYB := Lib.hid (Below.row hbB HYA.out HYA.out.lt)
  clear hbB f0 f1 f2 f3 f4 f5 f6 f7 f8 HA HDA HXA HYA
  cases hs : small d with
  | false =>
    clear HDB HXB HYB
    go_wp2_with fail
    refine (second_any wB (HKD.out.up HB.out)).mono ?_; rintro e wZ ⟨rfl, hbZ⟩
    have HZ := Lib.hid (HB.out.trans (hbZ.mono HB.out.size))
    clear hbZ
    go_wp2_with fail
    go_ret
    exact ⟨rfl, HZ.out⟩
  | true =>
    have g0 := HXB.out.cell 0; have g1 := HXB.out.cell 1; have g2 := HXB.out.cell 2
    simp only [List.getElem?_toArray, List.getElem?_cons_zero, List.getElem?_cons_succ] at g0 g1 g2
    go_wp2_with fail
    refine (HFW.out wB HB.out).mono ?_; rintro e wC0 ⟨rfl, hbC⟩
    have HC0 := Lib.hid (HB.out.trans (hbC.mono HB.out.size))
    have HDC0 := Lib.hid (Below.row hbC HDB.out HDB.out.lt)
    have HXC0 := Lib.hid (Below.row hbC HXB.out HXB.out.lt)
    have HYC0 := Lib.hid (Below.row hbC HYB.out HYB.out.lt)
    clear hbC g0 g1 g2 HB HDB HXB HYB
    cases hfw : fewB f with
    | false =>
      clear HDC0 HXC0 HYC0
      go_wp2_with fail
      refine (second_any wC0 (HKD.out.up HC0.out)).mono ?_; rintro e wZ ⟨rfl, hbZ⟩
      have HZ := Lib.hid (HC0.out.trans (hbZ.mono HC0.out.size))
      clear hbZ
      go_wp2_with fail
      go_ret
      exact ⟨rfl, HZ.out⟩
    | true =>
      have g0 := HYC0.out.cell 0; have g1 := HYC0.out.cell 1; have g2 := HYC0.out.cell 2
      simp only [List.getElem?_toArray, List.getElem?_cons_zero, List.getElem?_cons_succ] at g0 g1 g2
      go_wp2_with fail
      refine (HGW.out wC0 HC0.out).mono ?_; rintro e wC ⟨rfl, hbC⟩
      have HC := Lib.hid (HC0.out.trans (hbC.mono HC0.out.size))
      have HDC := Lib.hid (Below.row hbC HDC0.out HDC0.out.lt)
      have HXC := Lib.hid (Below.row hbC HXC0.out HXC0.out.lt)
      have HYC := Lib.hid (Below.row hbC HYC0.out HYC0.out.lt)
      clear hbC g0 g1 g2 HC0 HDC0 HXC0 HYC0
      cases hgw : fewB g with
      | false =>
        clear HDC HXC HYC
        go_wp2_with fail
        refine (second_any wC (HKD.out.up HC.out)).mono ?_; rintro e wZ ⟨rfl, hbZ⟩
        have HZ := Lib.hid (HC.out.trans (hbZ.mono HC.out.size))
        clear hbZ
        go_wp2_with fail
        go_ret
        exact ⟨rfl, HZ.out⟩
      | true =>
        have HFE := Lib.hid (few_ok hfw)
        have HGE := Lib.hid (few_ok hgw)
        have HXS := Lib.hid (views_ok HLG.out hfw)
        have HYS := Lib.hid (views_ok HLG.out hgw)
        clear hfw hgw
        have f0 := HDC.out.cell 0; have f1 := HDC.out.cell 1; have f2 := HDC.out.cell 2; have f3 := HDC.out.cell 3; have f4 := HDC.out.cell 4; have f5 := HDC.out.cell 5; have f6 := HDC.out.cell 6; have f7 := HDC.out.cell 7; have f8 := HDC.out.cell 8
        simp only [List.getElem?_toArray, List.getElem?_cons_zero, List.getElem?_cons_succ] at f0 f1 f2 f3 f4 f5 f6 f7 f8
        go_wp2_with fail
        refine (HFU.out hs wC HC.out).mono ?_; rintro e wD ⟨vL, rfl, hvL, hbD⟩
        obtain ⟨A0, k0, c0, A1, k1, c1, A2, k2, c2, A3, k3, c3, A4, k4, c4, t0, t1, t2, t3, t4, hv, -, hk1, hk2, -⟩ := hvL.lens
        subst hv
        have hba := (Below.refl wD.heap.size wD).alloc (Nat.le_refl _) (.cells #[.slice A0 k0 c0, .slice A1 k1 c1, .slice A2 k2 c2, .slice A3 k3 c3, .slice A4 k4 c4, .int .i64 t0, .int .i64 t1, .int .i64 t2, .int .i64 t3, .int .i64 t4] 39)
        have hbb := hbD.trans (hba.mono hbD.size)
        have HD := Lib.hid (HC.out.trans (hbb.mono HC.out.size))
        have HXD := Lib.hid (Below.row hbb HXC.out HXC.out.lt)
        have HYD := Lib.hid (Below.row hbb HYC.out HYC.out.lt)
        have HLD := Lib.hid (Row.new wD 39 #[.slice A0 k0 c0, .slice A1 k1 c1, .slice A2 k2 c2, .slice A3 k3 c3, .slice A4 k4 c4, .int .i64 t0, .int .i64 t1, .int .i64 t2, .int .i64 t3, .int .i64 t4])
        have HVD := Lib.hid (hvL.up hba)
        have HK2 : Hid (L.parts.length = k2 ∧ k2 ≤ 100) := ⟨hk2, by rw [← hk2]; exact HLG.out.fits.p⟩
        have HK1 : Hid (L.secs.length = k1 ∧ k1 ≤ 100) := ⟨hk1, by rw [← hk1]; exact HLG.out.fits.s⟩
        have HFD := Lib.hid (HFV.out.up HD.out)
        have HGD := Lib.hid (HGV.out.up HD.out)
        clear hba hbb hbD hvL hk1 hk2 HC HDC HXC HYC HSM HFW HGW HFU f0 f1 f2 f3 f4 f5 f6 f7 f8 hs HFV HGV
        go_upto_region 4 with (fail)
        obtain ⟨nL, hnL⟩ : ∃ n, n = wD.heap.size := ⟨_, rfl⟩
        rw [← hnL] at HLD ⊢
        clear hnL
        generalize wD.alloc (.cells #[.slice A0 k0 c0, .slice A1 k1 c1, .slice A2 k2 c2, .slice A3 k3 c3, .slice A4 k4 c4, .int .i64 t0, .int .i64 t1, .int .i64 t2, .int .i64 t3, .int .i64 t4] 39) = wD at *
        have p0 := HLD.out.cell 0; have p1 := HLD.out.cell 1; have p2 := HLD.out.cell 2; have p3 := HLD.out.cell 3; have p4 := HLD.out.cell 4; have p5 := HLD.out.cell 5; have p6 := HLD.out.cell 6; have p7 := HLD.out.cell 7; have p8 := HLD.out.cell 8; have p9 := HLD.out.cell 9
        simp only [List.getElem?_toArray, List.getElem?_cons_zero, List.getElem?_cons_succ] at p0 p1 p2 p3 p4 p5 p6 p7 p8 p9
        have g0 := HXD.out.cell 0; have g1 := HXD.out.cell 1; have g2 := HXD.out.cell 2
        simp only [List.getElem?_toArray, List.getElem?_cons_zero, List.getElem?_cons_succ] at g0 g1 g2
        go_wp2_with fail
        refine (views_any wD _ L Ao Ac Av no nc nv co cc cv f HVD.out HLG.out.fits HLG.out.secs.1 (by have := HFD.out.vws; rw [HNV.out] at this; exact this) HNV.out HOK.out HFE.out).mono ?_; rintro e wE ⟨Aa, ca, Ab, cb, rfl, hva, -, hbE⟩
        obtain ⟨xs, hxs⟩ : ∃ xs, viewsO L.secs.length f.vws = xs := ⟨_, rfl⟩
        rw [hxs] at hva HXS ⊢
        obtain ⟨nx, hnx⟩ : ∃ n, xs.length = n := ⟨_, rfl⟩
        rw [hnx] at hva ⊢
        have HE := Lib.hid (HD.out.trans (hbE.mono HD.out.size))
        have HXE := Lib.hid (Below.row hbE HXD.out HXD.out.lt)
        have HYE := Lib.hid (Below.row hbE HYD.out HYD.out.lt)
        have HLE := Lib.hid (Below.row hbE HLD.out HLD.out.lt)
        have HVE := Lib.hid (HVD.out.up hbE)
        have HFE2 := Lib.hid (HFD.out.up hbE)
        have HGE2 := Lib.hid (HGD.out.up hbE)
        have HWA := Lib.hid hva
        clear hbE p0 p1 p2 p3 p4 p5 p6 p7 p8 p9 g0 g1 g2 hva hxs HD HXD HYD HLD HVD HFD HGD HFE
        go_upto_region 5 with (fail)
        have p0 := HLE.out.cell 0; have p1 := HLE.out.cell 1; have p2 := HLE.out.cell 2; have p3 := HLE.out.cell 3; have p4 := HLE.out.cell 4; have p5 := HLE.out.cell 5; have p6 := HLE.out.cell 6; have p7 := HLE.out.cell 7; have p8 := HLE.out.cell 8; have p9 := HLE.out.cell 9
        simp only [List.getElem?_toArray, List.getElem?_cons_zero, List.getElem?_cons_succ] at p0 p1 p2 p3 p4 p5 p6 p7 p8 p9
        have g0 := HYE.out.cell 0; have g1 := HYE.out.cell 1; have g2 := HYE.out.cell 2
        simp only [List.getElem?_toArray, List.getElem?_cons_zero, List.getElem?_cons_succ] at g0 g1 g2
        go_wp2_with fail
        refine (views_any wE _ L Bo Bc Bv mo mc mv eo ec ev g HVE.out HLG.out.fits HLG.out.secs.1 (by have := HGE2.out.vws; rw [HMV.out] at this; exact this) HMV.out HGK.out HGE.out).mono ?_; rintro e wF ⟨Ac2, cc2, Ad2, cd2, rfl, hvc, -, hbF⟩
        obtain ⟨ys, hys⟩ : ∃ xs, viewsO L.secs.length g.vws = xs := ⟨_, rfl⟩
        rw [hys] at hvc HYS ⊢
        obtain ⟨ny, hny⟩ : ∃ n, ys.length = n := ⟨_, rfl⟩
        rw [hny] at hvc ⊢
        have HST : Hid (BSt w n1 n2 nL (fcells Ao Ac Av no nc nv co cc cv) (fcells Bo Bc Bv mo mc mv eo ec ev) #[.slice A0 k0 c0, .slice A1 k1 c1, .slice A2 k2 c2, .slice A3 k3 c3, .slice A4 k4 c4, .int .i64 t0, .int .i64 t1, .int .i64 t2, .int .i64 t3, .int .i64 t4] (.slice Aa nx ca) (.slice Ac2 ny cc2) Ao Ac Av co cc cv f Bo Bc Bv eo ec ev g L xs ys wF) := ⟨HE.out.trans (hbF.mono HE.out.size), Below.row hbF HXE.out HXE.out.lt, Below.row hbF HYE.out HYE.out.lt, Below.row hbF HLE.out HLE.out.lt, HVE.out.up hbF, HFE2.out.up hbF, HGE2.out.up hbF, HWA.out.up hbF, hvc⟩
        clear hbF p0 p1 p2 p3 p4 p5 p6 p7 p8 p9 g0 g1 g2 hvc hys hnx hny HE HXE HYE HLE HVE HFE2 HGE2 HWA HGE
        have HOF : Hid (∀ W, BSt w n1 n2 nL (fcells Ao Ac Av no nc nv co cc cv) (fcells Bo Bc Bv mo mc mv eo ec ev) #[.slice A0 k0 c0, .slice A1 k1 c1, .slice A2 k2 c2, .slice A3 k3 c3, .slice A4 k4 c4, .int .i64 t0, .int .i64 t1, .int .i64 t2, .int .i64 t3, .int .i64 t4] (.slice Aa nx ca) (.slice Ac2 ny cc2) Ao Ac Av co cc cv f Bo Bc Bv eo ec ev g L xs ys W → Calls Tryd.prog 17 #[.agg #[.slice A0 k0 c0, .slice A1 k1 c1, .slice A2 k2 c2, .slice A3 k3 c3, .slice A4 k4 c4, .int .i64 t0, .int .i64 t1, .int .i64 t2, .int .i64 t3, .int .i64 t4], .agg (fcells Ao Ac Av no nc nv co cc cv)] W (RetRd (ivals (ownersL f L.parts.length)) W)) := fun W h => owners_any W _ L Ao Ac Av no nc nv co cc cv f h.lay HLG.out.fits (by have := h.fv.own; rw [HNO.out] at this; exact this) HNO.out HOK.out
        have HOG : Hid (∀ W, BSt w n1 n2 nL (fcells Ao Ac Av no nc nv co cc cv) (fcells Bo Bc Bv mo mc mv eo ec ev) #[.slice A0 k0 c0, .slice A1 k1 c1, .slice A2 k2 c2, .slice A3 k3 c3, .slice A4 k4 c4, .int .i64 t0, .int .i64 t1, .int .i64 t2, .int .i64 t3, .int .i64 t4] (.slice Aa nx ca) (.slice Ac2 ny cc2) Ao Ac Av co cc cv f Bo Bc Bv eo ec ev g L xs ys W → Calls Tryd.prog 17 #[.agg #[.slice A0 k0 c0, .slice A1 k1 c1, .slice A2 k2 c2, .slice A3 k3 c3, .slice A4 k4 c4, .int .i64 t0, .int .i64 t1, .int .i64 t2, .int .i64 t3, .int .i64 t4], .agg (fcells Bo Bc Bv mo mc mv eo ec ev)] W (RetRd (ivals (ownersL g L.parts.length)) W)) := fun W h => owners_any W _ L Bo Bc Bv mo mc mv eo ec ev g h.lay HLG.out.fits (by have := h.gv.own; rw [HMO.out] at this; exact this) HMO.out HGK.out
        obtain ⟨x, ex⟩ : ∃ q, ofO L (ownersL f L.parts.length) xs = q := ⟨_, rfl⟩
        obtain ⟨y, ey⟩ : ∃ q, ofO L (ownersL g L.parts.length) ys = q := ⟨_, rfl⟩
        have HX : Hid (x.length = k1 ∧ ∀ v ∈ x, v ≤ 3) := ⟨by rw [← ex, ofO_len, HK1.out.1], by rw [← ex]; exact ofO_le⟩
        have HY : Hid (y.length = k1 ∧ ∀ v ∈ y, v ≤ 3) := ⟨by rw [← ey, ofO_len, HK1.out.1], by rw [← ey]; exact ofO_le⟩
        have HF1 : Hid (∀ (W : World) (vo : Value), BSt w n1 n2 nL (fcells Ao Ac Av no nc nv co cc cv) (fcells Bo Bc Bv mo mc mv eo ec ev) #[.slice A0 k0 c0, .slice A1 k1 c1, .slice A2 k2 c2, .slice A3 k3 c3, .slice A4 k4 c4, .int .i64 t0, .int .i64 t1, .int .i64 t2, .int .i64 t3, .int .i64 t4] (.slice Aa nx ca) (.slice Ac2 ny cc2) Ao Ac Av co cc cv f Bo Bc Bv eo ec ev g L xs ys W → Rd W W.heap.size vo (ivals (ownersL f L.parts.length)) → Calls Tryd.prog 16 #[.agg #[.slice A0 k0 c0, .slice A1 k1 c1, .slice A2 k2 c2, .slice A3 k3 c3, .slice A4 k4 c4, .int .i64 t0, .int .i64 t1, .int .i64 t2, .int .i64 t3, .int .i64 t4], vo, .slice Aa nx ca] W fun e w' => ∃ A c, e = .returned (.slice A k1 c) ∧ Rd w' w'.heap.size (.slice A k1 c) (bvals x) ∧ Below W.heap.size W w') := fun W vo h hr => by
          refine (of_any W _ _ _ L (ownersL f L.parts.length) xs h.lay HLG.out.fits hr (ownersL_len _ _) (ownersL_ok _ _) h.va HXS.out).mono ?_
          rintro e w' ⟨v9, rfl, ho, hb⟩
          rw [ex] at ho
          obtain ⟨A9, c9, rfl⟩ := own_slice ho
          have hr := Rd.of_own ho
          rw [HX.out.1] at hr ⊢
          exact ⟨A9, c9, rfl, hr, hb⟩
        have HF2 : Hid (∀ (W : World) (vo : Value), BSt w n1 n2 nL (fcells Ao Ac Av no nc nv co cc cv) (fcells Bo Bc Bv mo mc mv eo ec ev) #[.slice A0 k0 c0, .slice A1 k1 c1, .slice A2 k2 c2, .slice A3 k3 c3, .slice A4 k4 c4, .int .i64 t0, .int .i64 t1, .int .i64 t2, .int .i64 t3, .int .i64 t4] (.slice Aa nx ca) (.slice Ac2 ny cc2) Ao Ac Av co cc cv f Bo Bc Bv eo ec ev g L xs ys W → Rd W W.heap.size vo (ivals (ownersL g L.parts.length)) → Calls Tryd.prog 16 #[.agg #[.slice A0 k0 c0, .slice A1 k1 c1, .slice A2 k2 c2, .slice A3 k3 c3, .slice A4 k4 c4, .int .i64 t0, .int .i64 t1, .int .i64 t2, .int .i64 t3, .int .i64 t4], vo, .slice Ac2 ny cc2] W fun e w' => ∃ A c, e = .returned (.slice A k1 c) ∧ Rd w' w'.heap.size (.slice A k1 c) (bvals y) ∧ Below W.heap.size W w') := fun W vo h hr => by
          refine (of_any W _ _ _ L (ownersL g L.parts.length) ys h.lay HLG.out.fits hr (ownersL_len _ _) (ownersL_ok _ _) h.vc HYS.out).mono ?_
          rintro e w' ⟨v9, rfl, ho, hb⟩
          rw [ey] at ho
          obtain ⟨A9, c9, rfl⟩ := own_slice ho
          have hr := Rd.of_own ho
          rw [HY.out.1] at hr ⊢
          exact ⟨A9, c9, rfl, hr, hb⟩
        clear ex ey
        generalize ownersL f L.parts.length = owf at *
        generalize ownersL g L.parts.length = owg at *
        have HSS : Hid (∀ W, BSt w n1 n2 nL (fcells Ao Ac Av no nc nv co cc cv) (fcells Bo Bc Bv mo mc mv eo ec ev) #[.slice A0 k0 c0, .slice A1 k1 c1, .slice A2 k2 c2, .slice A3 k3 c3, .slice A4 k4 c4, .int .i64 t0, .int .i64 t1, .int .i64 t2, .int .i64 t3, .int .i64 t4] (.slice Aa nx ca) (.slice Ac2 ny cc2) Ao Ac Av co cc cv f Bo Bc Bv eo ec ev g L xs ys W → (W.cell? ⟨nL, 0, none⟩ = some (.slice A0 k0 c0) ∧ W.cell? ⟨nL, 1, none⟩ = some (.slice A1 k1 c1) ∧ W.cell? ⟨nL, 2, none⟩ = some (.slice A2 k2 c2) ∧ W.cell? ⟨nL, 3, none⟩ = some (.slice A3 k3 c3) ∧ W.cell? ⟨nL, 4, none⟩ = some (.slice A4 k4 c4) ∧ W.cell? ⟨nL, 5, none⟩ = some (.int .i64 t0) ∧ W.cell? ⟨nL, 6, none⟩ = some (.int .i64 t1) ∧ W.cell? ⟨nL, 7, none⟩ = some (.int .i64 t2) ∧ W.cell? ⟨nL, 8, none⟩ = some (.int .i64 t3) ∧ W.cell? ⟨nL, 9, none⟩ = some (.int .i64 t4) ∧ W.cell? ⟨n1, 0, none⟩ = some (.slice Ao no co) ∧ W.cell? ⟨n1, 1, none⟩ = some (.slice Ac nc cc) ∧ W.cell? ⟨n1, 2, none⟩ = some (.slice Av nv cv) ∧ W.cell? ⟨n2, 0, none⟩ = some (.slice Bo mo eo) ∧ W.cell? ⟨n2, 1, none⟩ = some (.slice Bc mc ec) ∧ W.cell? ⟨n2, 2, none⟩ = some (.slice Bv mv ev))) := fun W h => ⟨h.rl.cell 0, h.rl.cell 1, h.rl.cell 2, h.rl.cell 3, h.rl.cell 4, h.rl.cell 5, h.rl.cell 6, h.rl.cell 7, h.rl.cell 8, h.rl.cell 9, h.rf.cell 0, h.rf.cell 1, h.rf.cell 2, h.rg.cell 0, h.rg.cell 1, h.rg.cell 2⟩
        go_upto_region 6 with (fail)
        go_cut [12, 13] (fun v1 v2 wx => ∃ A c A' c', v1 = .slice A k1 c ∧ v2 = .slice A' k1 c' ∧ Hid (Below w.heap.size w wx ∧ Rd wx wx.heap.size (.slice A k1 c) (bvals x) ∧ Rd wx wx.heap.size (.slice A' k1 c') (bvals y)))
        case first =>
          rename_i J K' hJ hK
          have hst := HST.out.call (Below.refl wF.heap.size wF).drew
          have s0 := HSS.out _ hst
          obtain ⟨r0, r1, r2, r3, r4, r5, r6, r7, r8, r9, r10, r11, r12, r13, r14, r15⟩ := (show _ from s0)
          clear HST
          go_region_held3 (fun w' => (w'.cell? ⟨nL, 0, none⟩ = some (.slice A0 k0 c0) ∧ w'.cell? ⟨nL, 1, none⟩ = some (.slice A1 k1 c1) ∧ w'.cell? ⟨nL, 2, none⟩ = some (.slice A2 k2 c2) ∧ w'.cell? ⟨nL, 3, none⟩ = some (.slice A3 k3 c3) ∧ w'.cell? ⟨nL, 4, none⟩ = some (.slice A4 k4 c4) ∧ w'.cell? ⟨nL, 5, none⟩ = some (.int .i64 t0) ∧ w'.cell? ⟨nL, 6, none⟩ = some (.int .i64 t1) ∧ w'.cell? ⟨nL, 7, none⟩ = some (.int .i64 t2) ∧ w'.cell? ⟨nL, 8, none⟩ = some (.int .i64 t3) ∧ w'.cell? ⟨nL, 9, none⟩ = some (.int .i64 t4) ∧ w'.cell? ⟨n1, 0, none⟩ = some (.slice Ao no co) ∧ w'.cell? ⟨n1, 1, none⟩ = some (.slice Ac nc cc) ∧ w'.cell? ⟨n1, 2, none⟩ = some (.slice Av nv cv) ∧ w'.cell? ⟨n2, 0, none⟩ = some (.slice Bo mo eo) ∧ w'.cell? ⟨n2, 1, none⟩ = some (.slice Bc mc ec) ∧ w'.cell? ⟨n2, 2, none⟩ = some (.slice Bv mv ev))) (first | (with_reducible assumption) | (with_reducible exact s0) | go_keep) (first | (go_at_call 17; (with_reducible refine (HOF.out _ hst).mono ?_); rintro y0 v1 ⟨A9, c9, rfl, hr, hb⟩; have hst := BSt.call hst hb; have s0 := HSS.out _ hst; (try have hoA := Rd.up hoA hb); (try have hoB := Rd.up hoB hb); (try have hcA := Rd.up hcA hb); (try have hcB := Rd.up hcB hb); have hoA := hr; clear hr hb) | (go_at_call 17; (with_reducible refine (HOG.out _ hst).mono ?_); rintro y0 v1 ⟨A9, c9, rfl, hr, hb⟩; have hst := BSt.call hst hb; have s0 := HSS.out _ hst; (try have hoA := Rd.up hoA hb); (try have hoB := Rd.up hoB hb); (try have hcA := Rd.up hcA hb); (try have hcB := Rd.up hcB hb); have hoB := hr; clear hr hb) | (go_at_call 16; (with_reducible refine (HF1.out _ _ hst hoA).mono ?_); rintro y0 v1 ⟨A9, c9, rfl, hr, hb⟩; have hst := BSt.call hst hb; have s0 := HSS.out _ hst; (try have hoA := Rd.up hoA hb); (try have hoB := Rd.up hoB hb); (try have hcA := Rd.up hcA hb); (try have hcB := Rd.up hcB hb); have hcA := hr; clear hr hb) | (go_at_call 16; (with_reducible refine (HF2.out _ _ hst hoB).mono ?_); rintro y0 v1 ⟨A8, c8, rfl, hr, hb⟩; have hst := BSt.call hst hb; have s0 := HSS.out _ hst; (try have hoA := Rd.up hoA hb); (try have hoB := Rd.up hoB hb); (try have hcA := Rd.up hcA hb); (try have hcB := Rd.up hcB hb); have hcB := hr; clear hr hb))
          all_goals (refine hK _ _ (Met.intro (hJ _ _ ?_)); (repeat apply Exists.intro); refine ⟨?rel, rfl⟩; case rel => exact ⟨_, _, _, _, rfl, rfl, hst.bel, hcA, hcB⟩)
        case rest =>
        obtain ⟨Ax, cx, Ay, cy, rfl, rfl, HC⟩ := hcut
        obtain ⟨wG, hwG⟩ : ∃ W, W = wc := ⟨_, rfl⟩
        subst hwG
        clear HST HOF HOG HF1 HF2 HSS HLG
        have hk100 := HK1.out.2
        have hj := join_any wG wG.heap.size _ (.slice none 0 0) x [] HC.out.2.1 (Rd.empty _ _) (Nat.le_refl _) (by have := HX.out.1; omega) (by decide)
        rw [List.append_nil] at hj
        go_wp2_with fail
        refine hj.mono ?_; rintro e wH ⟨vz, rfl, hoz, hbH⟩
        obtain ⟨Az, cz, rfl⟩ := own_slice hoz
        rw [HX.out.1] at hoz ⊢
        have HXH := Lib.hid (HC.out.2.1.up hbH)
        have HYH := Lib.hid (HC.out.2.2.up hbH)
        have HBH := Lib.hid (HC.out.1.trans (hbH.mono HC.out.1.size))
        have HOZ := Lib.hid hoz
        have HBGH := Lib.hid hbH
        clear hj hoz hbH
        have hch := changes_any wH _ _ x y HXH.out HYH.out (fun v hv => by have := HX.out.2 v hv; omega) (fun v hv => by have := HY.out.2 v hv; omega) (by have := HX.out.1; omega) (HKD.out.up HBH.out)
        go_wp2_with fail
        refine hch.mono ?_; rintro e wI ⟨vc9, rfl, hoc, hbI⟩
        have HAT : Hid (∀ i (h : i < (chgO x y).length), (chgO x y)[i].1 < k1 ∧ (chgO x y)[i].2 = kindO (x.getD (chgO x y)[i].1 0) (y.getD (chgO x y)[i].1 0)) := fun i h => by
          have := chgO_at i h; rw [HX.out.1] at this; exact ⟨this.1, this.2.2⟩
        have HRI : Hid (∀ i (h : i + 1 < (chgO x y).length) (h2 : i < (chgO x y).length), (chgO x y)[i].1 < (chgO x y)[i + 1].1) := fun i h _ => chgO_rise i h
        have HFU : Hid (foldC x y (chgO x y) = y) := foldC_full (by rw [HX.out.1, HY.out.1]) HX.out.2 HY.out.2
        have hlen : (chgO x y).length ≤ 100 := by have := chgO_len x y; have := HX.out.1; omega
        obtain ⟨cs, hcs⟩ : ∃ cs, chgO x y = cs := ⟨_, rfl⟩
        rw [hcs] at hoc HAT HRI HFU hlen
        obtain ⟨Ac, cc9, rfl⟩ := own_slice hoc
        obtain ⟨l, hl⟩ : ∃ l, cs.length = l := ⟨_, rfl⟩
        have HLL := Lib.hid hl
        rw [hl] at hoc hlen ⊢
        obtain ⟨BZ, hBZ⟩ : ∃ n, wG.heap.size = n := ⟨_, rfl⟩
        obtain ⟨BC, hBC⟩ : ∃ n, wH.heap.size = n := ⟨_, rfl⟩
        have HB : Hid (BkSt w BZ BC (.slice Ax k1 cx) (.slice Ay k1 cy) (.slice Az k1 cz) (.slice Ac l cc9) k1 l x y x cs wI) := by
          rw [← hBZ, ← hBC]
          exact ⟨HBH.out.trans (hbI.mono HBH.out.size), (HC.out.2.1.below HBGH.out (Nat.le_refl _)).below hbI HBGH.out.size, (HC.out.2.2.below HBGH.out (Nat.le_refl _)).below hbI HBGH.out.size, own_below HOZ.out hbI, hoc, fun k hk => (HOZ.out.lt k hk).2, HC.out.1.size, Nat.le_trans HBGH.out.size hbI.size⟩
        clear hch hoc hbI HC HXH HYH HBH HOZ HBGH hl hBZ hBC hcs
        go_wp2_with fail
        go_loopw [16] (fun v wr => ∃ i : Nat, i ≤ l ∧ v = .int .i64 i ∧ Hid (BkSt w BZ BC (.slice Ax k1 cx) (.slice Ay k1 cy) (.slice Az k1 cz) (.slice Ac l cc9) k1 l x y (foldC x y (cs.take i)) cs wr)) (fun v _ => l - (intOf v).toNat)
        case atStart => exact ⟨0, Nat.zero_le _, rfl, HB.out⟩
        case round =>
          obtain ⟨i, hi, rfl, HJ⟩ := hrel
          clear HB
          by_cases hlt : i < l
          · have hli : (i : Int) < (l : Int) := by omega
            have hic : i < cs.length := by have := HLL.out; omega
            obtain ⟨hs1, hs2⟩ := HAT.out i hic
            have HFT := Lib.hid (foldC_take x y cs i hic)
            obtain ⟨Z, hZ⟩ : ∃ Z, foldC x y (cs.take i) = Z := ⟨_, rfl⟩
            have HZL : Hid (Z.length = k1) := by show _ = _; rw [← hZ, foldC_len, HX.out.1]
            rw [hZ] at HJ HFT
            clear hZ
            obtain ⟨bc, oc, hAc, -, e1, e2⟩ := (Chs.of_own HJ.out.oc).at i hic
            obtain ⟨sec, hsec⟩ : ∃ s, cs[i].1 = s := ⟨_, rfl⟩
            obtain ⟨kd, hkd⟩ : ∃ s, cs[i].2 = s := ⟨_, rfl⟩
            have HSEC : Hid (cs[i].1 = sec ∧ cs[i].2 = kd) := ⟨hsec, hkd⟩
            rw [hsec] at hs1 hs2 HFT
            rw [hkd] at hs2
            have hsx : sec < x.length := by have := HX.out.1; omega
            obtain ⟨bx, ox, hAx, -, ex⟩ := HJ.out.ox.at (bvals_get x sec hsx)
            have hX0 : x.getD sec 0 = x[sec] := by simp [List.getD, hsx]
            have hX3 := getD_le HX.out.2 sec
            have hY3 := getD_le HY.out.2 sec
            have HSS : Hid (∀ Z W, BkSt w BZ BC (.slice Ax k1 cx) (.slice Ay k1 cy) (.slice Az k1 cz) (.slice Ac l cc9) k1 l x y Z cs W → (W.cell? ⟨bc, oc + i * 2, none⟩ = some (.int .i64 (sec : Int)) ∧ W.cell? ⟨bc, oc + i * 2 + 1, none⟩ = some (.int .u8 (kd : Int)) ∧ W.cell? ⟨bx, ox + sec, none⟩ = some (.int .u8 ((x[sec] : Nat) : Int)))) := by
              intro Z W h
              obtain ⟨b', o', hA', -, f1, f2⟩ := (Chs.of_own h.oc).at i hic
              obtain ⟨b9, o9, hA9, -, f3⟩ := h.ox.at (bvals_get x sec hsx)
              rw [hAc] at hA'; injection hA' with hA'; injection hA' with h5 h6
              rw [hAx] at hA9; injection hA9 with hA9; injection hA9 with h7 h8
              subst h5 h6 h7 h8
              rw [hsec] at f1; rw [hkd] at f2
              exact ⟨f1, f2, f3⟩
            rw [← hX0] at HSS ex
            obtain ⟨X, hX⟩ : ∃ X, x.getD sec 0 = X := ⟨_, rfl⟩
            obtain ⟨Y, hY⟩ : ∃ Y, y.getD sec 0 = Y := ⟨_, rfl⟩
            rw [hX] at HSS ex hs2 hX3
            rw [hY] at hs2 hY3 HFT
            have HKD2 := Lib.hid hs2
            rw [hsec] at e1
            rw [hkd] at e2
            subst hAc hAx
            have d1 : ¬ (sec : Int) < 0 := by omega
            have d1' : decide ((sec : Int) < 0) = false := decide_eq_false d1
            have d2 : ¬ (k1 : Int) ≤ (sec : Int) := by omega
            have d2' : decide ((k1 : Int) ≤ (sec : Int)) = false := decide_eq_false d2
            have d2n : decide (k1 ≤ sec) = false := decide_eq_false (by omega)
            have HC23 : Hid (∀ (W : World) (s : Nat), s < 4 → Calls Tryd.prog 23 #[.int .u8 (X : Int), .int .u8 (s : Int)] W fun e w' => e = .returned (.int .u8 (kindO X s : Int)) ∧ Below W.heap.size W w') := fun W s hs => refKind_any W X s (by omega) (by omega)
            clear hs2 hX0 hX hY hsec hkd hsx
            go_upto_region 12 with (fail)
            by_cases hi0 : i = 0
            · have hi1 : ¬ (0 : Int) < (i : Int) := by omega
              have hi1' : decide ((0 : Int) < (i : Int)) = false := decide_eq_false hi1
              have hi1n : decide (0 < i) = false := decide_eq_false (by omega)
              have hi2n : ¬ 0 < i := by omega
              clear hi0
              go_quiet (fail)
              obtain ⟨WQ, hWQ⟩ : ∃ W, W = wr.drewN nq := ⟨_, rfl⟩
              have HQ : Hid (BkSt w BZ BC (.slice (some ⟨bx, ox, none⟩) k1 cx) (.slice Ay k1 cy) (.slice Az k1 cz) (.slice (some ⟨bc, oc, none⟩) l cc9) k1 l x y Z cs WQ) := by rw [hWQ]; exact HJ.out.call (Below.drewN (Below.refl _ _) nq)
              rw [← hWQ]
              clear hWQ HJ e1 e2 ex d1 d1' d2 d2' d2n
              go_wp2_with fail
              go_loopw [17] (fun v wr => ∃ s : Nat, s ≤ 4 ∧ v = .int .u8 s ∧ Hid (BkSt w BZ BC (.slice (some ⟨bx, ox, none⟩) k1 cx) (.slice Ay k1 cy) (.slice Az k1 cz) (.slice (some ⟨bc, oc, none⟩) l cc9) k1 l x y (if s ≤ Y then Z else Z.set sec Y) cs wr)) (fun v _ => 4 - (intOf v).toNat)
              case atStart => exact ⟨0, by omega, rfl, by rw [if_pos (Nat.zero_le _)]; exact HQ.out⟩
              case round =>
                obtain ⟨s, hs, rfl, HR⟩ := hrel
                clear HQ
                by_cases hs4 : s < 4
                · have hls : (s : Int) < 4 := by omega
                  have HC3 := Lib.hid (fun W => HC23.out W s hs4)
                  have hsec2 : (sec : Int) < (k1 : Int) := by omega
                  go_upto_region 17 with (fail)
                  go_cut [126] (fun v wx => v = .bool ((kindO X s : Int) == (kd : Int)) ∧ Hid (BkSt w BZ BC (.slice (some ⟨bx, ox, none⟩) k1 cx) (.slice Ay k1 cy) (.slice Az k1 cz) (.slice (some ⟨bc, oc, none⟩) l cc9) k1 l x y (if s ≤ Y then Z else Z.set sec Y) cs wx))
                  case first =>
                    rename_i J K' hJ hK
                    have hst := HR.out.call (Below.refl wr.heap.size wr).drew
                    have s0 := HSS.out _ _ hst
                    obtain ⟨r0, r1, r2⟩ := (show _ from s0)
                    clear HR
                    go_region_held3 (fun w' => (w'.cell? ⟨bc, oc + i * 2, none⟩ = some (.int .i64 (sec : Int)) ∧ w'.cell? ⟨bc, oc + i * 2 + 1, none⟩ = some (.int .u8 (kd : Int)) ∧ w'.cell? ⟨bx, ox + sec, none⟩ = some (.int .u8 (X : Int)))) (first | (with_reducible assumption) | (with_reducible exact s0) | go_keep) (first | (go_at_call 23; (with_reducible refine (HC3.out _).mono ?_); rintro y0 v1 ⟨rfl, hb⟩; have hst := BkSt.call hst hb; have s0 := HSS.out _ _ hst; clear hb))
                    all_goals (refine hK _ _ (Met.intro (hJ _ _ ?_)); (repeat apply Exists.intro); refine ⟨?rel, rfl⟩; case rel => exact ⟨by first | rfl | simp, hst⟩)
                  case rest =>
                  obtain ⟨rfl, HR2⟩ := hcut
                  obtain ⟨wS, hwS⟩ : ∃ W, W = wc := ⟨_, rfl⟩
                  subst hwS
                  clear HR
                  by_cases hsy : s = Y
                  · have hk : ((kindO X s : Int) == (kd : Int)) = true := by rw [hsy, HKD2.out]; simp
                    rw [hk]
                    rw [if_pos (by omega)] at HR2
                    obtain ⟨gz, rfl, k9, z9, hput⟩ := HR2.out.put (i := sec) Y (by have := HZL.out; omega)
                    have HPT : Hid (BkSt w BZ BC (.slice (some ⟨bx, ox, none⟩) k1 cx) (.slice Ay k1 cy) (.slice (some ⟨gz, 0, none⟩) k1 cz) (.slice (some ⟨bc, oc, none⟩) l cc9) k1 l x y (if s + 1 ≤ Y then Z else Z.set sec Y) cs (wS.setCell ⟨gz, sec, none⟩ (.int .u8 (Y : Int)))) := by rw [if_neg (by omega)]; exact hput
                    obtain ⟨r0, r1, r2⟩ := HSS.out _ _ HR2.out
                    clear hput
                    rw [← hsy] at HPT
                    go_wp2_with fail
                    go_roundw
                    case rel => exact ⟨s + 1, by omega, by go_num, by rw [← hsy]; exact HPT.out⟩
                    case measure => simp [intOf]; omega
                  · have hk0 : kindO X s ≠ kd := by
                      rw [HKD2.out]; intro e; exact hsy (kindO_inj X s Y hX3 (by omega) hY3 e)
                    have hk : ((kindO X s : Int) == (kd : Int)) = false := by simp; omega
                    rw [hk]
                    have HPT : Hid (BkSt w BZ BC (.slice (some ⟨bx, ox, none⟩) k1 cx) (.slice Ay k1 cy) (.slice Az k1 cz) (.slice (some ⟨bc, oc, none⟩) l cc9) k1 l x y (if s + 1 ≤ Y then Z else Z.set sec Y) cs wS) := by
                      have h0 := HR2.out
                      by_cases hlt2 : s + 1 ≤ Y
                      · rw [if_pos (show s ≤ Y by omega)] at h0; rw [if_pos hlt2]; exact h0
                      · rw [if_neg (show ¬ s ≤ Y by omega)] at h0; rw [if_neg hlt2]; exact h0
                    clear HR2
                    go_wp2_with fail
                    go_roundw
                    case rel => exact ⟨s + 1, by omega, by go_num, HPT.out⟩
                    case measure => simp [intOf]; omega
                · have hse : s = 4 := by omega
                  subst hse
                  have HN : Hid (BkSt w BZ BC (.slice (some ⟨bx, ox, none⟩) k1 cx) (.slice Ay k1 cy) (.slice Az k1 cz) (.slice (some ⟨bc, oc, none⟩) l cc9) k1 l x y (foldC x y (cs.take (i + 1))) cs wr) := by
                    have h0 := HR.out
                    rw [if_neg (by omega)] at h0
                    rw [HFT.out]; exact h0
                  clear HR
                  go_wp2_with fail
                  go_roundw
                  case rel => exact ⟨i + 1, by omega, by go_num, HN.out⟩
                  case measure => simp [intOf]; omega
            · obtain ⟨j, hj⟩ : ∃ j, i = j + 1 := ⟨i - 1, by omega⟩
              have hi1 : (0 : Int) < (i : Int) := by omega
              have hi1' : decide ((0 : Int) < (i : Int)) = true := decide_eq_true hi1
              have hi1n : decide (0 < i) = true := decide_eq_true (by omega)
              have hi2n : 0 < i := by omega
              have hjc : j < cs.length := by omega
              have hw : IntKind.i64.wrap ((i : Int) - 1) = (j : Int) := by rw [show (i : Int) - 1 = (j : Int) by omega]; exact IntWalk.i64_in _ (by omega)
              obtain ⟨bc', oc', hAc', -, e3, e4⟩ := (Chs.of_own HJ.out.oc).at j hjc
              injection hAc' with hAc'; injection hAc' with h5 h6
              subst h5 h6
              have hpr : cs[j].1 < sec := by
                have h0 := HRI.out j (by omega) hjc
                have h1 := HSEC.out.1
                subst hj
                omega
              generalize cs[j].1 = prev at *
              have d3 : ¬ (sec : Int) ≤ (prev : Int) := by omega
              have d3' : decide ((sec : Int) ≤ (prev : Int)) = false := decide_eq_false d3
              have d3n : decide (sec ≤ prev) = false := decide_eq_false (by omega)
              have hjl : (j : Int) < (l : Int) := by omega
              clear hj hpr e4 hi0
              go_quiet (fail)
              clear e3 d3 d3' d3n
              obtain ⟨WQ, hWQ⟩ : ∃ W, W = wr.drewN nq := ⟨_, rfl⟩
              have HQ : Hid (BkSt w BZ BC (.slice (some ⟨bx, ox, none⟩) k1 cx) (.slice Ay k1 cy) (.slice Az k1 cz) (.slice (some ⟨bc, oc, none⟩) l cc9) k1 l x y Z cs WQ) := by rw [hWQ]; exact HJ.out.call (Below.drewN (Below.refl _ _) nq)
              rw [← hWQ]
              clear hWQ HJ e1 e2 ex d1 d1' d2 d2' d2n
              go_wp2_with fail
              go_loopw [17] (fun v wr => ∃ s : Nat, s ≤ 4 ∧ v = .int .u8 s ∧ Hid (BkSt w BZ BC (.slice (some ⟨bx, ox, none⟩) k1 cx) (.slice Ay k1 cy) (.slice Az k1 cz) (.slice (some ⟨bc, oc, none⟩) l cc9) k1 l x y (if s ≤ Y then Z else Z.set sec Y) cs wr)) (fun v _ => 4 - (intOf v).toNat)
              case atStart => exact ⟨0, by omega, rfl, by rw [if_pos (Nat.zero_le _)]; exact HQ.out⟩
              case round =>
                obtain ⟨s, hs, rfl, HR⟩ := hrel
                clear HQ
                by_cases hs4 : s < 4
                · have hls : (s : Int) < 4 := by omega
                  have HC3 := Lib.hid (fun W => HC23.out W s hs4)
                  have hsec2 : (sec : Int) < (k1 : Int) := by omega
                  go_upto_region 17 with (fail)
                  go_cut [126] (fun v wx => v = .bool ((kindO X s : Int) == (kd : Int)) ∧ Hid (BkSt w BZ BC (.slice (some ⟨bx, ox, none⟩) k1 cx) (.slice Ay k1 cy) (.slice Az k1 cz) (.slice (some ⟨bc, oc, none⟩) l cc9) k1 l x y (if s ≤ Y then Z else Z.set sec Y) cs wx))
                  case first =>
                    rename_i J K' hJ hK
                    have hst := HR.out.call (Below.refl wr.heap.size wr).drew
                    have s0 := HSS.out _ _ hst
                    obtain ⟨r0, r1, r2⟩ := (show _ from s0)
                    clear HR
                    go_region_held3 (fun w' => (w'.cell? ⟨bc, oc + i * 2, none⟩ = some (.int .i64 (sec : Int)) ∧ w'.cell? ⟨bc, oc + i * 2 + 1, none⟩ = some (.int .u8 (kd : Int)) ∧ w'.cell? ⟨bx, ox + sec, none⟩ = some (.int .u8 (X : Int)))) (first | (with_reducible assumption) | (with_reducible exact s0) | go_keep) (first | (go_at_call 23; (with_reducible refine (HC3.out _).mono ?_); rintro y0 v1 ⟨rfl, hb⟩; have hst := BkSt.call hst hb; have s0 := HSS.out _ _ hst; clear hb))
                    all_goals (refine hK _ _ (Met.intro (hJ _ _ ?_)); (repeat apply Exists.intro); refine ⟨?rel, rfl⟩; case rel => exact ⟨by first | rfl | simp, hst⟩)
                  case rest =>
                  obtain ⟨rfl, HR2⟩ := hcut
                  obtain ⟨wS, hwS⟩ : ∃ W, W = wc := ⟨_, rfl⟩
                  subst hwS
                  clear HR
                  by_cases hsy : s = Y
                  · have hk : ((kindO X s : Int) == (kd : Int)) = true := by rw [hsy, HKD2.out]; simp
                    rw [hk]
                    rw [if_pos (by omega)] at HR2
                    obtain ⟨gz, rfl, k9, z9, hput⟩ := HR2.out.put (i := sec) Y (by have := HZL.out; omega)
                    have HPT : Hid (BkSt w BZ BC (.slice (some ⟨bx, ox, none⟩) k1 cx) (.slice Ay k1 cy) (.slice (some ⟨gz, 0, none⟩) k1 cz) (.slice (some ⟨bc, oc, none⟩) l cc9) k1 l x y (if s + 1 ≤ Y then Z else Z.set sec Y) cs (wS.setCell ⟨gz, sec, none⟩ (.int .u8 (Y : Int)))) := by rw [if_neg (by omega)]; exact hput
                    obtain ⟨r0, r1, r2⟩ := HSS.out _ _ HR2.out
                    clear hput
                    rw [← hsy] at HPT
                    go_wp2_with fail
                    go_roundw
                    case rel => exact ⟨s + 1, by omega, by go_num, by rw [← hsy]; exact HPT.out⟩
                    case measure => simp [intOf]; omega
                  · have hk0 : kindO X s ≠ kd := by
                      rw [HKD2.out]; intro e; exact hsy (kindO_inj X s Y hX3 (by omega) hY3 e)
                    have hk : ((kindO X s : Int) == (kd : Int)) = false := by simp; omega
                    rw [hk]
                    have HPT : Hid (BkSt w BZ BC (.slice (some ⟨bx, ox, none⟩) k1 cx) (.slice Ay k1 cy) (.slice Az k1 cz) (.slice (some ⟨bc, oc, none⟩) l cc9) k1 l x y (if s + 1 ≤ Y then Z else Z.set sec Y) cs wS) := by
                      have h0 := HR2.out
                      by_cases hlt2 : s + 1 ≤ Y
                      · rw [if_pos (show s ≤ Y by omega)] at h0; rw [if_pos hlt2]; exact h0
                      · rw [if_neg (show ¬ s ≤ Y by omega)] at h0; rw [if_neg hlt2]; exact h0
                    clear HR2
                    go_wp2_with fail
                    go_roundw
                    case rel => exact ⟨s + 1, by omega, by go_num, HPT.out⟩
                    case measure => simp [intOf]; omega
                · have hse : s = 4 := by omega
                  subst hse
                  have HN : Hid (BkSt w BZ BC (.slice (some ⟨bx, ox, none⟩) k1 cx) (.slice Ay k1 cy) (.slice Az k1 cz) (.slice (some ⟨bc, oc, none⟩) l cc9) k1 l x y (foldC x y (cs.take (i + 1))) cs wr) := by
                    have h0 := HR.out
                    rw [if_neg (by omega)] at h0
                    rw [HFT.out]; exact h0
                  clear HR
                  go_wp2_with fail
                  go_roundw
                  case rel => exact ⟨i + 1, by omega, by go_num, HN.out⟩
                  case measure => simp [intOf]; omega
          · have hil : i = l := by omega
            subst hil
            have hli : ¬ (i : Int) < (i : Int) := by omega
            have hfin : foldC x y (cs.take i) = y := by rw [← HLL.out, List.take_length]; exact HFU.out
            rw [hfin] at HJ
            have HBY := Lib.hid (refBytes_true wr wr.heap.size _ _ y (Rd.of_own HJ.out.oz) (HJ.out.oy.mono HJ.out.sz (fun _ _ => rfl)) (by have := HY.out.1; omega))
            have HBE := Lib.hid HJ.out.bel
            clear HJ
            go_wp2_with fail
            refine HBY.out.mono ?_; rintro e w9 ⟨rfl, n9, rfl⟩
            go_wp2_with fail
            go_ret
            exact ⟨rfl, Below.drewN HBE.out n9⟩

end Go.Proofs.YtblbbdkpebacbaaDoor
