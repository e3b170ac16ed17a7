/- The law OwnRuns. -/
import Derived.Test.YthnjilbfkfekhaaS1
import Derived.Test.YthnjilbfkfekhaaT2
namespace Go.Proofs.Ythnjilbfkfekhaa
open Go.RowKit Fl
set_option maxRecDepth 100000

structure RSt (w : World) (nL : Nat) (cl : Array Value) (L : Lay) (W : World) : Prop where
  bel : Below w.heap.size w W
  rl : Row W nL 39 cl
  lay : LayV W W.heap.size (.agg cl) L
theorem RSt.call {w : World} {nL : Nat} {cl : Array Value} {L : Lay} {W W' : World} (h : RSt w nL cl L W) (hb : Below W.heap.size W W') : RSt w nL cl L W' :=
  ⟨h.bel.trans (hb.mono h.bel.size), Below.row hb h.rl h.rl.lt, h.lay.up hb⟩

set_option maxHeartbeats 32000000 in
theorem lawRuns (w : World) (d : Dr) (vr : Value) (f : Fd) (Ao Ac Av : Option Addr) (co cc cv : Nat) (Am : Option Addr) (cm : Nat) (fs : List Fr) (hd : DrOk d) (hbr : BRows w w.heap.size vr d.routes) (hl : d.routes.length ≤ 9223372036854775807) (hrl : ∀ r ∈ d.routes, r.length ≤ 9223372036854775807)
    (hfv : FdV w w.heap.size Ao Ac Av co cc cv f) (hfo : FdOk f) (hfl : FdLen f) (hfs : Flds w (.slice Am fs.length cm) fs) (hgfs : ∀ r ∈ fs, FdOk r.f ∧ FdLen r.f) (hnl : fs.length ≤ 9223372036854775807) :
    Calls Try.prog 4 #[drV d vr, .agg (fcells Ao Ac Av f.own.length f.clr.length f.vws.length co cc cv), .slice Am fs.length cm] w (RetL true w) := by
  obtain ⟨Ad, kd, cd, hvr⟩ : ∃ A k c, vr = .slice A k c := by obtain ⟨vs, ⟨A, c, e, _⟩, _⟩ := hbr; exact ⟨A, _, c, e⟩
  subst hvr
  have HSM : Hid (∀ W, Below w.heap.size w W → Calls Try.prog 11 #[.agg #[.int .u8 (d.form : Int), .int .u8 (d.len : Int), .int .u8 (d.speed : Int), .int .u16 (d.mute : Int), .int .u16 (d.wait : Int), .int .u8 (d.cancel : Int), .int .u8 (d.stay : Int), .int .u8 (d.join : Int), .slice Ad kd cd]] W (RetL (small d) W)) := fun W hW => small_any W d (.slice Ad kd cd) (hbr.up hW) hl hrl
  have HFW : Hid (∀ W, Below w.heap.size w W → Calls Try.prog 12 #[.agg (fcells Ao Ac Av f.own.length f.clr.length f.vws.length co cc cv)] W (RetL (fewB f) W)) := fun W hW => few_any W Ao Ac Av co cc cv f (hfv.up hW) hfl.vws hfl.span
  have HFU : Hid (small d = true → ∀ W, Below w.heap.size w W → Calls Try.prog 13 #[.agg #[.int .u8 (d.form : Int), .int .u8 (d.len : Int), .int .u8 (d.speed : Int), .int .u16 (d.mute : Int), .int .u16 (d.wait : Int), .int .u8 (d.cancel : Int), .int .u8 (d.stay : Int), .int .u8 (d.join : Int), .slice Ad kd cd]] W (RetLay (fullL d) W)) := fun hs W hW => full_any W d (.slice Ad kd cd) hd (hbr.up hW) hs
  have HLG := Lib.hid (full_g d)
  have HFV := Lib.hid hfv
  have HOK := Lib.hid hfo
  have HFL := Lib.hid hfl
  clear hbr hl hrl hd hfv hfo hfl
  unfold drV
  obtain ⟨no, hno⟩ : ∃ n, f.own.length = n := ⟨_, rfl⟩
  obtain ⟨nc, hnc⟩ : ∃ n, f.clr.length = n := ⟨_, rfl⟩
  obtain ⟨nv, hnv⟩ : ∃ n, f.vws.length = n := ⟨_, rfl⟩
  have HNO := Lib.hid hno; have HNC := Lib.hid hnc; have HNV := Lib.hid hnv
  rw [hno, hnc, hnv] at HFW ⊢
  clear hno hnc hnv
  have HB0 := Lib.hid (below2 w (.cells #[.int .u8 (d.form : Int), .int .u8 (d.len : Int), .int .u8 (d.speed : Int), .int .u16 (d.mute : Int), .int .u16 (d.wait : Int), .int .u8 (d.cancel : Int), .int .u8 (d.stay : Int), .int .u8 (d.join : Int), .slice Ad kd cd] 25) (.cells (fcells Ao Ac Av no nc nv co cc cv) 30))
  have HRD := Lib.hid ((Row.new w 25 #[.int .u8 (d.form : Int), .int .u8 (d.len : Int), .int .u8 (d.speed : Int), .int .u16 (d.mute : Int), .int .u16 (d.wait : Int), .int .u8 (d.cancel : Int), .int .u8 (d.stay : Int), .int .u8 (d.join : Int), .slice Ad kd cd]).alloc (.cells (fcells Ao Ac Av no nc nv co cc cv) 30))
  have hr1 := Row.new (w.alloc (.cells #[.int .u8 (d.form : Int), .int .u8 (d.len : Int), .int .u8 (d.speed : Int), .int .u16 (d.mute : Int), .int .u16 (d.wait : Int), .int .u8 (d.cancel : Int), .int .u8 (d.stay : Int), .int .u8 (d.join : Int), .slice Ad kd cd] 25)) 30 (fcells Ao Ac Av no nc nv co cc cv)
  rw [World.size_alloc] at hr1
  have HRX := Lib.hid hr1
  clear hr1
  generalize fullL d = L at *
  have HFS := Lib.hid hfs
  have HGF := Lib.hid hgfs
  clear hfs hgfs
  obtain ⟨nf, hnf⟩ : ∃ n, fs.length = n := ⟨_, rfl⟩
  have HNF := Lib.hid hnf
  rw [hnf] at HFS hnl ⊢
  clear hnf
  go_enter Try.func4, Try.ntmps4
  go_upto_region 1 with (fail)
  obtain ⟨n0, hn0⟩ : ∃ n, n = w.heap.size := ⟨_, rfl⟩
  obtain ⟨n1, hn1⟩ : ∃ n, n = n0 + 1 := ⟨_, rfl⟩
  rw [← hn0] at HRD HRX ⊢
  rw [← hn1] at HRX ⊢
  clear hn0 hn1
  generalize (w.alloc (.cells #[.int .u8 (d.form : Int), .int .u8 (d.len : Int), .int .u8 (d.speed : Int), .int .u16 (d.mute : Int), .int .u16 (d.wait : Int), .int .u8 (d.cancel : Int), .int .u8 (d.stay : Int), .int .u8 (d.join : Int), .slice Ad kd cd] 25)).alloc (.cells (fcells Ao Ac Av no nc nv co cc cv) 30) = W0 at *
  go_wp2_with fail
  refine (comes_any W0).mono ?_; rintro e wA ⟨rfl, hbA⟩
  have HA := Lib.hid (HB0.out.trans (hbA.mono HB0.out.size))
  have HDA := Lib.hid (Below.row hbA HRD.out HRD.out.lt)
  have HXA := Lib.hid (Below.row hbA HRX.out HRX.out.lt)
  clear hbA HB0 HRD HRX
  have f0 := HDA.out.cell 0; have f1 := HDA.out.cell 1; have f2 := HDA.out.cell 2; have f3 := HDA.out.cell 3; have f4 := HDA.out.cell 4; have f5 := HDA.out.cell 5; have f6 := HDA.out.cell 6; have f7 := HDA.out.cell 7; have f8 := HDA.out.cell 8
  simp only [List.getElem?_toArray, List.getElem?_cons_zero, List.getElem?_cons_succ] at f0 f1 f2 f3 f4 f5 f6 f7 f8
  go_wp2_with fail
  refine (HSM.out wA HA.out).mono ?_; rintro e wB ⟨rfl, hbB⟩
  have HB := Lib.hid (HA.out.trans (hbB.mono HA.out.size))
  have HDB := Lib.hid (Below.row hbB HDA.out HDA.out.lt)
  have HXB := Lib.hid (Below.row hbB HXA.out HXA.out.lt)
  clear hbB f0 f1 f2 f3 f4 f5 f6 f7 f8 HA HDA HXA
  cases hs : small d with
  | false =>
    clear HDB HXB
    go_wp2_with fail
    refine (comes_any wB).mono ?_; rintro e wZ ⟨rfl, hbZ⟩
    have HZ := Lib.hid (HB.out.trans (hbZ.mono HB.out.size))
    clear hbZ
    go_wp2_with fail
    go_ret
    exact ⟨rfl, HZ.out⟩
  | true =>
    have g0 := HXB.out.cell 0; have g1 := HXB.out.cell 1; have g2 := HXB.out.cell 2
    simp only [List.getElem?_toArray, List.getElem?_cons_zero, List.getElem?_cons_succ] at g0 g1 g2
    go_wp2_with fail
    refine (HFW.out wB HB.out).mono ?_; rintro e wC ⟨rfl, hbC⟩
    have HC := Lib.hid (HB.out.trans (hbC.mono HB.out.size))
    have HDC := Lib.hid (Below.row hbC HDB.out HDB.out.lt)
    have HXC := Lib.hid (Below.row hbC HXB.out HXB.out.lt)
    clear hbC g0 g1 g2 HB HDB HXB
    cases hfw : fewB f with
    | false =>
      clear HDC HXC
      go_wp2_with fail
      refine (comes_any wC).mono ?_; rintro e wZ ⟨rfl, hbZ⟩
      have HZ := Lib.hid (HC.out.trans (hbZ.mono HC.out.size))
      clear hbZ
      go_wp2_with fail
      go_ret
      exact ⟨rfl, HZ.out⟩
    | true =>
      rcases Nat.lt_or_ge 12 nf with hn12 | hn12
      · have hn12i : (12 : Int) < (nf : Int) := by omega
        clear HDC HXC
        go_wp2_with fail
        refine (comes_any wC).mono ?_; rintro e wZ ⟨rfl, hbZ⟩
        have HZ := Lib.hid (HC.out.trans (hbZ.mono HC.out.size))
        clear hbZ
        go_wp2_with fail
        go_ret
        exact ⟨rfl, HZ.out⟩
      have hn12i : ¬ (12 : Int) < (nf : Int) := by omega
      have HFE := Lib.hid (few_ok hfw)
      have HXS := Lib.hid (views_ok HLG.out hfw)
      clear hfw
      have f0 := HDC.out.cell 0; have f1 := HDC.out.cell 1; have f2 := HDC.out.cell 2; have f3 := HDC.out.cell 3; have f4 := HDC.out.cell 4; have f5 := HDC.out.cell 5; have f6 := HDC.out.cell 6; have f7 := HDC.out.cell 7; have f8 := HDC.out.cell 8
      simp only [List.getElem?_toArray, List.getElem?_cons_zero, List.getElem?_cons_succ] at f0 f1 f2 f3 f4 f5 f6 f7 f8
      go_wp2_with fail
      refine (HFU.out hs wC HC.out).mono ?_; rintro e wD ⟨vL, rfl, hvL, hbD⟩
      obtain ⟨A0, k0, c0, A1, k1, c1, A2, k2, c2, A3, k3, c3, A4, k4, c4, t0, t1, t2, t3, t4, hv, -, -, hk2, -⟩ := hvL.lens
      subst hv
      have hba := (Below.refl wD.heap.size wD).alloc (Nat.le_refl _) (.cells #[.slice A0 k0 c0, .slice A1 k1 c1, .slice A2 k2 c2, .slice A3 k3 c3, .slice A4 k4 c4, .int .i64 t0, .int .i64 t1, .int .i64 t2, .int .i64 t3, .int .i64 t4] 39)
      have hbb := hbD.trans (hba.mono hbD.size)
      have HD := Lib.hid (HC.out.trans (hbb.mono HC.out.size))
      have HXD := Lib.hid (Below.row hbb HXC.out HXC.out.lt)
      have HLD := Lib.hid (Row.new wD 39 #[.slice A0 k0 c0, .slice A1 k1 c1, .slice A2 k2 c2, .slice A3 k3 c3, .slice A4 k4 c4, .int .i64 t0, .int .i64 t1, .int .i64 t2, .int .i64 t3, .int .i64 t4])
      have HVD := Lib.hid (hvL.up hba)
      have HK2 : Hid (L.parts.length = k2 ∧ k2 ≤ 100) := ⟨hk2, by rw [← hk2]; exact HLG.out.fits.p⟩
      have HFD := Lib.hid (HFV.out.up HD.out)
      clear hba hbb hbD hvL hk2 HC HDC HXC HSM HFW HFU f0 f1 f2 f3 f4 f5 f6 f7 f8 hs HFV
      go_upto_region 4 with (fail)
      obtain ⟨nL, hnL⟩ : ∃ n, n = wD.heap.size := ⟨_, rfl⟩
      rw [← hnL] at HLD ⊢
      clear hnL
      generalize wD.alloc (.cells #[.slice A0 k0 c0, .slice A1 k1 c1, .slice A2 k2 c2, .slice A3 k3 c3, .slice A4 k4 c4, .int .i64 t0, .int .i64 t1, .int .i64 t2, .int .i64 t3, .int .i64 t4] 39) = wD at *
      clear HFE HXS
      have HOA : Hid (∀ W : World, LayV W W.heap.size (.agg #[.slice A0 k0 c0, .slice A1 k1 c1, .slice A2 k2 c2, .slice A3 k3 c3, .slice A4 k4 c4, .int .i64 t0, .int .i64 t1, .int .i64 t2, .int .i64 t3, .int .i64 t4]) L → FdV W W.heap.size Ao Ac Av co cc cv f → Calls Try.prog 15 #[.agg #[.slice A0 k0 c0, .slice A1 k1 c1, .slice A2 k2 c2, .slice A3 k3 c3, .slice A4 k4 c4, .int .i64 t0, .int .i64 t1, .int .i64 t2, .int .i64 t3, .int .i64 t4], .agg (fcells Ao Ac Av no nc nv co cc cv)] W (RetRd (ivals (ownersL f L.parts.length)) W)) := fun W h1 h2 => owners_any W _ L Ao Ac Av no nc nv co cc cv f h1 HLG.out.fits (by have := h2.own; rw [HNO.out] at this; exact this) HNO.out HOK.out
      have p0 := HLD.out.cell 0; have p1 := HLD.out.cell 1; have p2 := HLD.out.cell 2; have p3 := HLD.out.cell 3; have p4 := HLD.out.cell 4; have p5 := HLD.out.cell 5; have p6 := HLD.out.cell 6; have p7 := HLD.out.cell 7; have p8 := HLD.out.cell 8; have p9 := HLD.out.cell 9
      simp only [List.getElem?_toArray, List.getElem?_cons_zero, List.getElem?_cons_succ] at p0 p1 p2 p3 p4 p5 p6 p7 p8 p9
      have g0 := HXD.out.cell 0; have g1 := HXD.out.cell 1; have g2 := HXD.out.cell 2
      simp only [List.getElem?_toArray, List.getElem?_cons_zero, List.getElem?_cons_succ] at g0 g1 g2
      go_wp2_with fail
      refine (HOA.out wD HVD.out HFD.out).mono ?_; rintro e wF ⟨Ax, cx, rfl, hwx, hbF⟩
      have hwl : (ivals (ownersL f L.parts.length)).length = k2 := by rw [HK2.out.1]; simp [ivals, ownersL_len]
      rw [hwl] at hwx ⊢
      have HDF := Lib.hid (HD.out.trans (hbF.mono HD.out.size))
      have HXF := Lib.hid (Below.row hbF HXD.out HXD.out.lt)
      have HLF := Lib.hid (Below.row hbF HLD.out HLD.out.lt)
      have HVF := Lib.hid (HVD.out.up hbF)
      have HFF := Lib.hid (HFD.out.up hbF)
      clear hbF p0 p1 p2 p3 p4 p5 p6 p7 p8 p9 g0 g1 g2 HD HXD HLD HVD HFD
      have p0 := HLF.out.cell 0; have p1 := HLF.out.cell 1; have p2 := HLF.out.cell 2; have p3 := HLF.out.cell 3; have p4 := HLF.out.cell 4; have p5 := HLF.out.cell 5; have p6 := HLF.out.cell 6; have p7 := HLF.out.cell 7; have p8 := HLF.out.cell 8; have p9 := HLF.out.cell 9
      simp only [List.getElem?_toArray, List.getElem?_cons_zero, List.getElem?_cons_succ] at p0 p1 p2 p3 p4 p5 p6 p7 p8 p9
      have g0 := HXF.out.cell 0; have g1 := HXF.out.cell 1; have g2 := HXF.out.cell 2
      simp only [List.getElem?_toArray, List.getElem?_cons_zero, List.getElem?_cons_succ] at g0 g1 g2
      go_wp2_with fail
      refine (HOA.out wF HVF.out HFF.out).mono ?_; rintro e wG ⟨Ay, cy, rfl, hwy, hbG⟩
      rw [hwl] at hwy ⊢
      have HR0 : Hid (RSt w nL #[.slice A0 k0 c0, .slice A1 k1 c1, .slice A2 k2 c2, .slice A3 k3 c3, .slice A4 k4 c4, .int .i64 t0, .int .i64 t1, .int .i64 t2, .int .i64 t3, .int .i64 t4] L wG ∧ Rd wG wG.heap.size (.slice Ax k2 cx) (ivals (ownersL f L.parts.length)) ∧ Rd wG wG.heap.size (.slice Ay k2 cy) (ivals (ownersL f L.parts.length)) ∧ (ownersL f L.parts.length).length = k2 ∧ OkO (ownersL f L.parts.length)) :=
        ⟨⟨HDF.out.trans (hbG.mono HDF.out.size), Below.row hbG HLF.out HLF.out.lt, HVF.out.up hbG⟩, hwx.up hbG, hwy, by rw [ownersL_len]; exact HK2.out.1, ownersL_ok _ _⟩
      clear hbG hwx hwy hwl p0 p1 p2 p3 p4 p5 p6 p7 p8 p9 g0 g1 g2 HDF HXF HLF HVF HFF HOA HOK HFL HNO HNC HNV
      generalize ownersL f L.parts.length = cur0 at *
      have HSS : Hid (∀ W, RSt w nL #[.slice A0 k0 c0, .slice A1 k1 c1, .slice A2 k2 c2, .slice A3 k3 c3, .slice A4 k4 c4, .int .i64 t0, .int .i64 t1, .int .i64 t2, .int .i64 t3, .int .i64 t4] L W → W.cell? ⟨nL, 0, none⟩ = some (.slice A0 k0 c0) ∧ W.cell? ⟨nL, 1, none⟩ = some (.slice A1 k1 c1) ∧ W.cell? ⟨nL, 2, none⟩ = some (.slice A2 k2 c2) ∧ W.cell? ⟨nL, 3, none⟩ = some (.slice A3 k3 c3) ∧ W.cell? ⟨nL, 4, none⟩ = some (.slice A4 k4 c4) ∧ W.cell? ⟨nL, 5, none⟩ = some (.int .i64 t0) ∧ W.cell? ⟨nL, 6, none⟩ = some (.int .i64 t1) ∧ W.cell? ⟨nL, 7, none⟩ = some (.int .i64 t2) ∧ W.cell? ⟨nL, 8, none⟩ = some (.int .i64 t3) ∧ W.cell? ⟨nL, 9, none⟩ = some (.int .i64 t4)) := fun W h => ⟨h.rl.cell 0, h.rl.cell 1, h.rl.cell 2, h.rl.cell 3, h.rl.cell 4, h.rl.cell 5, h.rl.cell 6, h.rl.cell 7, h.rl.cell 8, h.rl.cell 9⟩
      have hk100 := HK2.out.2
      go_wp2_with fail
      go_loopw [8, 9, 10] (fun vx vy k wr => ∃ (j : Nat) (Ax Ay : Option Addr) (cx cy : Nat) (cur : List Int), j ≤ nf ∧ k = .int .i64 j ∧ vx = .slice Ax k2 cx ∧ vy = .slice Ay k2 cy ∧ Hid (RSt w nL #[.slice A0 k0 c0, .slice A1 k1 c1, .slice A2 k2 c2, .slice A3 k3 c3, .slice A4 k4 c4, .int .i64 t0, .int .i64 t1, .int .i64 t2, .int .i64 t3, .int .i64 t4] L wr ∧ Rd wr wr.heap.size (.slice Ax k2 cx) (ivals cur) ∧ Rd wr wr.heap.size (.slice Ay k2 cy) (ivals cur) ∧ cur.length = k2 ∧ OkO cur)) (fun _ _ k _ => nf - (RowKit.intOf k).toNat)
      case atStart => exact ⟨0, Ax, Ay, cx, cy, cur0, Nat.zero_le _, rfl, rfl, rfl, HR0.out⟩
      case round =>
        clear HR0
        obtain ⟨j, Ax, Ay, cx, cy, cur, hj, rfl, rfl, rfl, HJ⟩ := hrel
        by_cases hlt : j < nf
        · have hli : (j : Int) < (nf : Int) := by omega
          have hjf : j < fs.length := by have := HNF.out; omega
          obtain ⟨bf, of, hAf, hbf, q0, q1, q2, hfv⟩ := HFS.out.at j hjf
          subst hAf
          have hgf := HGF.out fs[j] (List.getElem_mem hjf)
          generalize fs[j] = fr at *
          obtain ⟨g, Bo, Bc, Bv, do_, dc, dv⟩ := fr
          simp only at q0 q1 q2 hfv hgf
          obtain ⟨hgo, hgl⟩ := hgf
          obtain ⟨mo, hmo⟩ : ∃ n, g.own.length = n := ⟨_, rfl⟩
          obtain ⟨mc, hmc⟩ : ∃ n, g.clr.length = n := ⟨_, rfl⟩
          obtain ⟨mv, hmv⟩ : ∃ n, g.vws.length = n := ⟨_, rfl⟩
          have HMC := Lib.hid hmc; have HMV := Lib.hid hmv
          rw [hmo] at q0; rw [hmc] at q1; rw [hmv] at q2
          have HGO := Lib.hid hgo
          have HCE : Hid (∀ W, Below w.heap.size w W → W.cell? ⟨bf, of + j * 3, none⟩ = some (.slice Bo mo do_) ∧ W.cell? ⟨bf, of + j * 3 + 1, none⟩ = some (.slice Bc mc dc) ∧ W.cell? ⟨bf, of + j * 3 + 2, none⟩ = some (.slice Bv mv dv)) := fun W hW => ⟨(hW.cell (p := ⟨bf, of + j * 3, none⟩) hbf).trans q0, (hW.cell (p := ⟨bf, of + j * 3 + 1, none⟩) hbf).trans q1, (hW.cell (p := ⟨bf, of + j * 3 + 2, none⟩) hbf).trans q2⟩
          have HGV : Hid (∀ W, Below w.heap.size w W → FdV W W.heap.size Bo Bc Bv do_ dc dv g) := fun W hW => hfv.up hW
          have HFWJ : Hid (∀ W, Below w.heap.size w W → Calls Try.prog 12 #[.agg (fcells Bo Bc Bv mo mc mv do_ dc dv)] W (RetL (fewB g) W)) := fun W hW => by
            have h := few_any W Bo Bc Bv do_ dc dv g (HGV.out W hW) hgl.vws hgl.span
            rw [hmo, hmc, hmv] at h
            exact h
          clear q0 q1 q2 hfv hbf hgo hgl hmo hmc hmv
          obtain ⟨q0, q1, q2⟩ := HCE.out wr HJ.out.1.bel
          go_wp2_with fail
          refine (HFWJ.out wr HJ.out.1.bel).mono ?_; rintro e w1 ⟨rfl, hb1⟩
          cases hfj : fewB g with
          | false =>
            have HB1 := Lib.hid (HJ.out.1.bel.trans (hb1.mono HJ.out.1.bel.size))
            clear hb1 q0 q1 q2 HJ
            go_wp2_with fail
            go_ret
            exact ⟨rfl, HB1.out⟩
          | true =>
            have HFE := Lib.hid (few_ok hfj)
            have HXS := Lib.hid (views_ok HLG.out hfj)
            have HJ1 : Hid (RSt w nL #[.slice A0 k0 c0, .slice A1 k1 c1, .slice A2 k2 c2, .slice A3 k3 c3, .slice A4 k4 c4, .int .i64 t0, .int .i64 t1, .int .i64 t2, .int .i64 t3, .int .i64 t4] L w1 ∧ Rd w1 w1.heap.size (.slice Ax k2 cx) (ivals cur) ∧ Rd w1 w1.heap.size (.slice Ay k2 cy) (ivals cur) ∧ cur.length = k2 ∧ OkO cur) := ⟨HJ.out.1.call hb1, HJ.out.2.1.up hb1, HJ.out.2.2.1.up hb1, HJ.out.2.2.2⟩
            clear hb1 q0 q1 q2 HJ hfj HFWJ
            have HVI : Hid (∀ W, RSt w nL #[.slice A0 k0 c0, .slice A1 k1 c1, .slice A2 k2 c2, .slice A3 k3 c3, .slice A4 k4 c4, .int .i64 t0, .int .i64 t1, .int .i64 t2, .int .i64 t3, .int .i64 t4] L W → Calls Try.prog 14 #[.agg #[.slice A0 k0 c0, .slice A1 k1 c1, .slice A2 k2 c2, .slice A3 k3 c3, .slice A4 k4 c4, .int .i64 t0, .int .i64 t1, .int .i64 t2, .int .i64 t3, .int .i64 t4], .agg (fcells Bo Bc Bv mo mc mv do_ dc dv)] W (RetVws (viewsO L.secs.length g.vws) W)) := fun W h => views_any W _ L Bo Bc Bv mo mc mv do_ dc dv g h.lay HLG.out.fits HLG.out.secs.1 (by have := (HGV.out W h.bel).vws; rw [HMV.out] at this; exact this) HMV.out HGO.out HFE.out
            obtain ⟨xs, hxs⟩ : ∃ xs, viewsO L.secs.length g.vws = xs := ⟨_, rfl⟩
            rw [hxs] at HVI HXS
            obtain ⟨nx, hnx⟩ : ∃ n, xs.length = n := ⟨_, rfl⟩
            have HNX9 := Lib.hid hnx
            clear hxs hnx
            have HCLR : Hid (∀ W, RSt w nL #[.slice A0 k0 c0, .slice A1 k1 c1, .slice A2 k2 c2, .slice A3 k3 c3, .slice A4 k4 c4, .int .i64 t0, .int .i64 t1, .int .i64 t2, .int .i64 t3, .int .i64 t4] L W → Calls Try.prog 18 #[.agg #[.slice A0 k0 c0, .slice A1 k1 c1, .slice A2 k2 c2, .slice A3 k3 c3, .slice A4 k4 c4, .int .i64 t0, .int .i64 t1, .int .i64 t2, .int .i64 t3, .int .i64 t4], .agg (fcells Bo Bc Bv mo mc mv do_ dc dv)] W (RetRd (cvals (clearL g L.parts.length)) W)) := fun W h => clear_any W _ L Bo Bc Bv mo mc mv do_ dc dv g h.lay HLG.out.fits (by have := (HGV.out W h.bel).clr; rw [HMC.out] at this; exact this) HMC.out
            go_upto_region 11 with (fail)
            go_cut [11, 12] (fun v1 v2 wx => ∃ Aa ca Ab cb, v1 = .slice Aa nx ca ∧ v2 = .slice Ab nx cb ∧ Hid ((RSt w nL #[.slice A0 k0 c0, .slice A1 k1 c1, .slice A2 k2 c2, .slice A3 k3 c3, .slice A4 k4 c4, .int .i64 t0, .int .i64 t1, .int .i64 t2, .int .i64 t3, .int .i64 t4] L wx ∧ Rd wx wx.heap.size (.slice Ax k2 cx) (ivals cur) ∧ Rd wx wx.heap.size (.slice Ay k2 cy) (ivals cur)) ∧ Vws wx wx.heap.size (.slice Aa nx ca) xs ∧ Vws wx wx.heap.size (.slice Ab nx cb) xs))
            case first =>
              rename_i J K' hJ hK
              have hbd := (Below.refl w1.heap.size w1).drew
              have hst := HJ1.out.1.call hbd
              have hWX := HJ1.out.2.1.up hbd
              have hWY := HJ1.out.2.2.1.up hbd
              obtain ⟨e0, e1, e2⟩ := HCE.out _ hst.bel
              obtain ⟨r0, r1, r2, r3, r4, r5, r6, r7, r8, r9⟩ := HSS.out _ hst
              have s0 : (w1.drew.cell? ⟨nL, 0, none⟩ = some (.slice A0 k0 c0) ∧ w1.drew.cell? ⟨nL, 1, none⟩ = some (.slice A1 k1 c1) ∧ w1.drew.cell? ⟨nL, 2, none⟩ = some (.slice A2 k2 c2) ∧ w1.drew.cell? ⟨nL, 3, none⟩ = some (.slice A3 k3 c3) ∧ w1.drew.cell? ⟨nL, 4, none⟩ = some (.slice A4 k4 c4) ∧ w1.drew.cell? ⟨nL, 5, none⟩ = some (.int .i64 t0) ∧ w1.drew.cell? ⟨nL, 6, none⟩ = some (.int .i64 t1) ∧ w1.drew.cell? ⟨nL, 7, none⟩ = some (.int .i64 t2) ∧ w1.drew.cell? ⟨nL, 8, none⟩ = some (.int .i64 t3) ∧ w1.drew.cell? ⟨nL, 9, none⟩ = some (.int .i64 t4) ∧ w1.drew.cell? ⟨bf, of + j * 3, none⟩ = some (.slice Bo mo do_) ∧ w1.drew.cell? ⟨bf, of + j * 3 + 1, none⟩ = some (.slice Bc mc dc) ∧ w1.drew.cell? ⟨bf, of + j * 3 + 2, none⟩ = some (.slice Bv mv dv)) := ⟨r0, r1, r2, r3, r4, r5, r6, r7, r8, r9, e0, e1, e2⟩
              clear hbd
              go_region_held3 (fun w' => (w'.cell? ⟨nL, 0, none⟩ = some (.slice A0 k0 c0) ∧ w'.cell? ⟨nL, 1, none⟩ = some (.slice A1 k1 c1) ∧ w'.cell? ⟨nL, 2, none⟩ = some (.slice A2 k2 c2) ∧ w'.cell? ⟨nL, 3, none⟩ = some (.slice A3 k3 c3) ∧ w'.cell? ⟨nL, 4, none⟩ = some (.slice A4 k4 c4) ∧ w'.cell? ⟨nL, 5, none⟩ = some (.int .i64 t0) ∧ w'.cell? ⟨nL, 6, none⟩ = some (.int .i64 t1) ∧ w'.cell? ⟨nL, 7, none⟩ = some (.int .i64 t2) ∧ w'.cell? ⟨nL, 8, none⟩ = some (.int .i64 t3) ∧ w'.cell? ⟨nL, 9, none⟩ = some (.int .i64 t4) ∧ w'.cell? ⟨bf, of + j * 3, none⟩ = some (.slice Bo mo do_) ∧ w'.cell? ⟨bf, of + j * 3 + 1, none⟩ = some (.slice Bc mc dc) ∧ w'.cell? ⟨bf, of + j * 3 + 2, none⟩ = some (.slice Bv mv dv))) (first | (with_reducible assumption) | (with_reducible exact s0) | go_keep) (first | (go_at_call 14; (with_reducible refine (HVI.out _ hst).mono ?_); rintro y v1 ⟨A9, c9, A8, c8, rfl, hVA, hVB, hb⟩; rw [HNX9.out] at hVA hVB; rw [HNX9.out]; have hst := RSt.call hst hb; have hWX := Rd.up hWX hb; have hWY := Rd.up hWY hb; obtain ⟨e0, e1, e2⟩ := HCE.out _ hst.bel; obtain ⟨r0, r1, r2, r3, r4, r5, r6, r7, r8, r9⟩ := HSS.out _ hst; have s0 : (v1.cell? ⟨nL, 0, none⟩ = some (.slice A0 k0 c0) ∧ v1.cell? ⟨nL, 1, none⟩ = some (.slice A1 k1 c1) ∧ v1.cell? ⟨nL, 2, none⟩ = some (.slice A2 k2 c2) ∧ v1.cell? ⟨nL, 3, none⟩ = some (.slice A3 k3 c3) ∧ v1.cell? ⟨nL, 4, none⟩ = some (.slice A4 k4 c4) ∧ v1.cell? ⟨nL, 5, none⟩ = some (.int .i64 t0) ∧ v1.cell? ⟨nL, 6, none⟩ = some (.int .i64 t1) ∧ v1.cell? ⟨nL, 7, none⟩ = some (.int .i64 t2) ∧ v1.cell? ⟨nL, 8, none⟩ = some (.int .i64 t3) ∧ v1.cell? ⟨nL, 9, none⟩ = some (.int .i64 t4) ∧ v1.cell? ⟨bf, of + j * 3, none⟩ = some (.slice Bo mo do_) ∧ v1.cell? ⟨bf, of + j * 3 + 1, none⟩ = some (.slice Bc mc dc) ∧ v1.cell? ⟨bf, of + j * 3 + 2, none⟩ = some (.slice Bv mv dv)) := ⟨r0, r1, r2, r3, r4, r5, r6, r7, r8, r9, e0, e1, e2⟩; clear hb))
              all_goals (refine hK _ _ (Met.intro (hJ _ _ ?_)); (repeat apply Exists.intro); refine ⟨?rel, rfl⟩; case rel => exact ⟨_, _, _, _, rfl, rfl, ⟨hst, hWX, hWY⟩, hVA, hVB⟩)
            case rest =>
              obtain ⟨Aa, ca, Ab, cb, rfl, rfl, HCX⟩ := hcut
              have HCK : Hid ((clearL g L.parts.length).length = L.parts.length) := clearL_len _ _
              have HLW : Hid (cur.length = L.parts.length ∧ OkO cur) := ⟨by have h1 := HJ1.out.2.2.2.1; have h2 := HK2.out.1; omega, HJ1.out.2.2.2.2⟩
              clear HJ1 HVI
              have HNX : Hid (∀ (W : World) (vc : Value), RSt w nL #[.slice A0 k0 c0, .slice A1 k1 c1, .slice A2 k2 c2, .slice A3 k3 c3, .slice A4 k4 c4, .int .i64 t0, .int .i64 t1, .int .i64 t2, .int .i64 t3, .int .i64 t4] L W → Rd W W.heap.size (.slice Ax k2 cx) (ivals cur) → Rd W W.heap.size vc (cvals (clearL g L.parts.length)) → Vws W W.heap.size (.slice Aa nx ca) xs → Calls Try.prog 17 #[.agg #[.slice A0 k0 c0, .slice A1 k1 c1, .slice A2 k2 c2, .slice A3 k3 c3, .slice A4 k4 c4, .int .i64 t0, .int .i64 t1, .int .i64 t2, .int .i64 t3, .int .i64 t4], .slice Ax k2 cx, vc, .slice Aa nx ca] W (RetRow (nextO L cur (clearL g L.parts.length) xs) W)) := fun W vc h hw hc hv => nextOwn_any W _ _ vc _ L cur _ xs h.lay HLG.out.fits HLW.out.1 HCK.out hw hc hv HLW.out.2 HXS.out HLG.out.wf
              have HRN : Hid (∀ (W : World) (vc : Value), RSt w nL #[.slice A0 k0 c0, .slice A1 k1 c1, .slice A2 k2 c2, .slice A3 k3 c3, .slice A4 k4 c4, .int .i64 t0, .int .i64 t1, .int .i64 t2, .int .i64 t3, .int .i64 t4] L W → Rd W W.heap.size (.slice Ay k2 cy) (ivals cur) → Rd W W.heap.size vc (cvals (clearL g L.parts.length)) → Vws W W.heap.size (.slice Ab nx cb) xs → Calls Try.prog 19 #[.agg #[.slice A0 k0 c0, .slice A1 k1 c1, .slice A2 k2 c2, .slice A3 k3 c3, .slice A4 k4 c4, .int .i64 t0, .int .i64 t1, .int .i64 t2, .int .i64 t3, .int .i64 t4], .slice Ay k2 cy, vc, .slice Ab nx cb] W (RetOwn W.heap.size (nextO L cur (clearL g L.parts.length) xs) W)) := fun W vc h hw hc hv => refNextO_any W _ _ vc _ L cur _ xs h.lay HLG.out.fits HLW.out.1 HCK.out hw hc hv HLW.out.2 HXS.out
              have HNN : Hid ((nextO L cur (clearL g L.parts.length) xs).length = k2 ∧ OkO (nextO L cur (clearL g L.parts.length) xs)) := ⟨by rw [nextO_len]; exact HK2.out.1, nextO_ok HLW.out.2⟩
              generalize nextO L cur (clearL g L.parts.length) xs = nn at *
              generalize clearL g L.parts.length = clr at *
              have HIN : Hid (∀ (W : World) (v v' : Value), Rd W W.heap.size v (ivals nn) → Rd W W.heap.size v' (ivals nn) → Calls Try.prog 16 #[v, v'] W (RetB true W)) := fun W v v' h1 h2 => ints_lit W v v' nn h1 h2 (by have := HNN.out.1; omega)
              go_upto_region 12 with (fail)
              go_cut [8, 9] (fun v1 v2 wx => ∃ Aa ca Ab cb, v1 = .slice Aa k2 ca ∧ v2 = .slice Ab k2 cb ∧ Hid (RSt w nL #[.slice A0 k0 c0, .slice A1 k1 c1, .slice A2 k2 c2, .slice A3 k3 c3, .slice A4 k4 c4, .int .i64 t0, .int .i64 t1, .int .i64 t2, .int .i64 t3, .int .i64 t4] L wx ∧ Rd wx wx.heap.size (.slice Aa k2 ca) (ivals nn) ∧ Rd wx wx.heap.size (.slice Ab k2 cb) (ivals nn)))
              case first =>
                rename_i J K' hJ hK
                have hbd := (Below.refl wc.heap.size wc).drew
                have hst := HCX.out.1.1.call hbd
                have hWX := HCX.out.1.2.1.up hbd
                have hWY := HCX.out.1.2.2.up hbd
                have hVA := HCX.out.2.1.up hbd
                have hVB := HCX.out.2.2.up hbd
                obtain ⟨e0, e1, e2⟩ := HCE.out _ hst.bel
                obtain ⟨r0, r1, r2, r3, r4, r5, r6, r7, r8, r9⟩ := HSS.out _ hst
                have s0 : (wc.drew.cell? ⟨nL, 0, none⟩ = some (.slice A0 k0 c0) ∧ wc.drew.cell? ⟨nL, 1, none⟩ = some (.slice A1 k1 c1) ∧ wc.drew.cell? ⟨nL, 2, none⟩ = some (.slice A2 k2 c2) ∧ wc.drew.cell? ⟨nL, 3, none⟩ = some (.slice A3 k3 c3) ∧ wc.drew.cell? ⟨nL, 4, none⟩ = some (.slice A4 k4 c4) ∧ wc.drew.cell? ⟨nL, 5, none⟩ = some (.int .i64 t0) ∧ wc.drew.cell? ⟨nL, 6, none⟩ = some (.int .i64 t1) ∧ wc.drew.cell? ⟨nL, 7, none⟩ = some (.int .i64 t2) ∧ wc.drew.cell? ⟨nL, 8, none⟩ = some (.int .i64 t3) ∧ wc.drew.cell? ⟨nL, 9, none⟩ = some (.int .i64 t4) ∧ wc.drew.cell? ⟨bf, of + j * 3, none⟩ = some (.slice Bo mo do_) ∧ wc.drew.cell? ⟨bf, of + j * 3 + 1, none⟩ = some (.slice Bc mc dc) ∧ wc.drew.cell? ⟨bf, of + j * 3 + 2, none⟩ = some (.slice Bv mv dv)) := ⟨r0, r1, r2, r3, r4, r5, r6, r7, r8, r9, e0, e1, e2⟩
                have HS2 : Hid (∀ W, RSt w nL #[.slice A0 k0 c0, .slice A1 k1 c1, .slice A2 k2 c2, .slice A3 k3 c3, .slice A4 k4 c4, .int .i64 t0, .int .i64 t1, .int .i64 t2, .int .i64 t3, .int .i64 t4] L W → (W.cell? ⟨nL, 0, none⟩ = some (.slice A0 k0 c0) ∧ W.cell? ⟨nL, 1, none⟩ = some (.slice A1 k1 c1) ∧ W.cell? ⟨nL, 2, none⟩ = some (.slice A2 k2 c2) ∧ W.cell? ⟨nL, 3, none⟩ = some (.slice A3 k3 c3) ∧ W.cell? ⟨nL, 4, none⟩ = some (.slice A4 k4 c4) ∧ W.cell? ⟨nL, 5, none⟩ = some (.int .i64 t0) ∧ W.cell? ⟨nL, 6, none⟩ = some (.int .i64 t1) ∧ W.cell? ⟨nL, 7, none⟩ = some (.int .i64 t2) ∧ W.cell? ⟨nL, 8, none⟩ = some (.int .i64 t3) ∧ W.cell? ⟨nL, 9, none⟩ = some (.int .i64 t4) ∧ W.cell? ⟨bf, of + j * 3, none⟩ = some (.slice Bo mo do_) ∧ W.cell? ⟨bf, of + j * 3 + 1, none⟩ = some (.slice Bc mc dc) ∧ W.cell? ⟨bf, of + j * 3 + 2, none⟩ = some (.slice Bv mv dv))) := fun W h => by
                  obtain ⟨e0, e1, e2⟩ := HCE.out _ h.bel
                  obtain ⟨r0, r1, r2, r3, r4, r5, r6, r7, r8, r9⟩ := HSS.out _ h
                  exact ⟨r0, r1, r2, r3, r4, r5, r6, r7, r8, r9, e0, e1, e2⟩
                clear hbd HCX
                go_region_held3 (fun w' => (w'.cell? ⟨nL, 0, none⟩ = some (.slice A0 k0 c0) ∧ w'.cell? ⟨nL, 1, none⟩ = some (.slice A1 k1 c1) ∧ w'.cell? ⟨nL, 2, none⟩ = some (.slice A2 k2 c2) ∧ w'.cell? ⟨nL, 3, none⟩ = some (.slice A3 k3 c3) ∧ w'.cell? ⟨nL, 4, none⟩ = some (.slice A4 k4 c4) ∧ w'.cell? ⟨nL, 5, none⟩ = some (.int .i64 t0) ∧ w'.cell? ⟨nL, 6, none⟩ = some (.int .i64 t1) ∧ w'.cell? ⟨nL, 7, none⟩ = some (.int .i64 t2) ∧ w'.cell? ⟨nL, 8, none⟩ = some (.int .i64 t3) ∧ w'.cell? ⟨nL, 9, none⟩ = some (.int .i64 t4) ∧ w'.cell? ⟨bf, of + j * 3, none⟩ = some (.slice Bo mo do_) ∧ w'.cell? ⟨bf, of + j * 3 + 1, none⟩ = some (.slice Bc mc dc) ∧ w'.cell? ⟨bf, of + j * 3 + 2, none⟩ = some (.slice Bv mv dv))) (first | (with_reducible assumption) | (with_reducible exact s0) | go_keep) (first | (go_at_call 18; (with_reducible refine (HCLR.out _ hst).mono ?_); rintro y v1 ⟨A9, c9, rfl, hr, hb⟩; have hst := RSt.call hst hb; have s0 := HS2.out _ hst; (try have hWX := Rd.up hWX hb); (try have hWY := Rd.up hWY hb); (try have hVA := Vws.up hVA hb); (try have hVB := Vws.up hVB hb); (try have hcA := Rd.up hcA hb); (try have hcB := Rd.up hcB hb); (try have hnA := Rd.up hnA hb); (try have hnB := Rd.up hnB hb); first | (have hcX := hcA; clear hcX; have hcB := hr; clear hr hb) | (have hcA := hr; clear hr hb)) | (go_at_call 17; (with_reducible refine (HNX.out _ _ hst hWX (by first | with_reducible exact hcA | with_reducible exact hcB) hVA).mono ?_); rintro y v1 ⟨g9, hy, hg, hr, hb⟩; rw [HNN.out.1] at hy; subst hy; have hst := RSt.call hst hb; have s0 := HS2.out _ hst; (try have hWX := Rd.up hWX hb); (try have hWY := Rd.up hWY hb); (try have hVA := Vws.up hVA hb); (try have hVB := Vws.up hVB hb); (try have hcA := Rd.up hcA hb); (try have hcB := Rd.up hcB hb); (try have hnA := Rd.up hnA hb); (try have hnB := Rd.up hnB hb); have hnA := Rd.ofRow hr; rw [HNN.out.1] at hnA; clear hr hb hg) | (go_at_call 19; (with_reducible refine (HRN.out _ _ hst hWY (by first | with_reducible exact hcA | with_reducible exact hcB) hVB).mono ?_); rintro y v1 ⟨v9, rfl, hr, hb⟩; have hst := RSt.call hst hb; have s0 := HS2.out _ hst; (try have hWX := Rd.up hWX hb); (try have hWY := Rd.up hWY hb); (try have hVA := Vws.up hVA hb); (try have hVB := Vws.up hVB hb); (try have hcA := Rd.up hcA hb); (try have hcB := Rd.up hcB hb); (try have hnA := Rd.up hnA hb); (try have hnB := Rd.up hnB hb); obtain ⟨A8, c8, hv8⟩ := own_slice hr; rw [HNN.out.1] at hv8; subst hv8; have hnB := Rd.of_own hr; clear hr hb))
                all_goals (refine hK _ _ (Met.intro (hJ _ _ ?_)); (repeat apply Exists.intro); refine ⟨?rel, rfl⟩; case rel => exact ⟨_, _, _, _, rfl, rfl, hst, hnA, hnB⟩)
              case rest =>
                obtain ⟨Ap, cp, Aq, cq, rfl, rfl, HCY⟩ := hcut
                clear HCX
                go_wp2_with fail
                refine (HIN.out wc _ _ HCY.out.2.1 HCY.out.2.2).mono ?_; rintro e wz ⟨rfl, nz, rfl⟩
                have hbz : Below wc.heap.size wc (wc.drewN nz) := Below.drewN (Below.refl _ _) nz
                have HJ9 : Hid (RSt w nL #[.slice A0 k0 c0, .slice A1 k1 c1, .slice A2 k2 c2, .slice A3 k3 c3, .slice A4 k4 c4, .int .i64 t0, .int .i64 t1, .int .i64 t2, .int .i64 t3, .int .i64 t4] L (wc.drewN nz) ∧ Rd (wc.drewN nz) (wc.drewN nz).heap.size (.slice Ap k2 cp) (ivals nn) ∧ Rd (wc.drewN nz) (wc.drewN nz).heap.size (.slice Aq k2 cq) (ivals nn) ∧ nn.length = k2 ∧ OkO nn) := ⟨HCY.out.1.call hbz, HCY.out.2.1.up hbz, HCY.out.2.2.up hbz, HNN.out⟩
                clear hbz HCY
                generalize wc.drewN nz = wy at *
                go_wp2_with fail
                go_roundw
                case rel => exact ⟨j + 1, Ap, Aq, cp, cq, nn, by omega, by go_num, rfl, rfl, HJ9.out⟩
                case measure => simp [RowKit.intOf]; omega
        · have hli : ¬ (j : Int) < (nf : Int) := by omega
          go_wp2_with fail
          go_ret
          exact ⟨rfl, HJ.out.1.bel⟩

end Go.Proofs.Ythnjilbfkfekhaa
